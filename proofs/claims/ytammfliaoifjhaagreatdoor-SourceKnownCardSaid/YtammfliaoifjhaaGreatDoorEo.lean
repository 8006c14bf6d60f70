import Derived.Test.YtammfliaoifjhaaGreatDoorEnf
import Derived.Below
namespace Go.Proofs.YtammfliaoifjhaaGreatDoor
open Go Go.RowKit
set_option linter.unusedVariables false
set_option linter.unusedSimpArgs false
noncomputable section
def plainSeq (ih : Cmd → Out) (a b : Code) (A : AA) (H : Hp) : Out := thenCode ih b (ih (.code a A H))
/-- two pieces of code; the first may be a region with two orders whose outcomes differ. -/
def seqCode (T : Cx) (ih : Cmd → Out) (a b : Code) (A : AA) (H : Hp) : Out := match a with
  | .region id ops d => ite' d (ite' (forkOk ops) (forkSeq T ih id ops.toList ops.toList b A.fresh H) (plainSeq ih (.region id ops d) b A H)) (plainSeq ih (.region id ops d) b A H)
  | a => plainSeq ih a b A H
theorem seqCode_ok {T : Cx} {ih : Cmd → Out} {a b : Code} {A A' : AA} {H H' : Hp} {e : Ex} (h : seqCode T ih a b A H = .code e A' H') : thenCode ih b (ih (.code a A H)) = .code e A' H' ∨ ∃ id ops, a = .region id ops true ∧ forkOk ops = true ∧ forkSeq T ih id ops.toList ops.toList b A.fresh H = .code e A' H' := by
  unfold seqCode at h
  split at h
  · rename_i id ops d
    cases d with
    | false => exact .inl h
    | true =>
      rw [ite'_true] at h
      cases hf : forkOk ops with
      | false => rw [hf, ite'_false] at h; exact .inl h
      | true => rw [hf, ite'_true] at h; exact .inr ⟨id, ops, rfl, hf, h⟩
  · exact .inl h
def codeD (c : Code) : CodeF := match c with
  | .skip => fun _ _ A H => .code .normal A H
  | .ret => fun _ _ A H => .code .ret A H
  | .exit id => fun _ _ A H => .code (.exit id) A H
  | .seq a b => fun T ih A H => seqCode T ih a b A H
  | .cond x a b => fun _ ih A H => condCode ih a b A H (ev A x)
  | .block id b => fun _ ih A H => blockCode id (ih (.code b A H))
  | .loop b => fun _ ih A H => thenCode ih (.loop b) (ih (.code b A H))
  | .region id ops d => fun T ih A H => ite' d (drawZ T ih ops id A.fresh H) (runOps T ih ops.toList id ops.toList A.fresh H)
  | _ => fun _ _ _ _ => .bad 4
def callStep (T : Cx) (ih : Cmd → Out) (f : FuncId) (args : List Value) (H : Hp) (fn : Option Func) : Out := match fn with
  | some fn => enterCall T ih f fn args H
  | none => .bad 8
/-! ### calls that are known -/
def valsEq (l : List Value) : List Value → Bool := List.rec (motive := fun _ => List Value → Bool) (fun m => List.rec (motive := fun _ => Bool) true (fun _ _ _ => false) m) (fun v _ ih m => List.rec (motive := fun _ => Bool) false (fun u m2 _ => ite' (valEq v u) (ih m2) false) m) l
theorem valsEq_eq : ∀ {l m : List Value}, valsEq l m = true → l = m
  | [], [], _ => rfl
  | [], _ :: _, h => by cases h
  | _ :: _, [], h => by cases h
  | v :: l, u :: m, h => by
    change ite' (valEq v u) (valsEq l m) false = true at h
    obtain ⟨h1, h2⟩ := ite'_true_eq h
    rw [valEq_eq h1, valsEq_eq h2]
def orcFind (l : List (List Value × Value)) (args : List Value) : Option Value := List.rec (motive := fun _ => Option Value) none (fun p _ ih => ite' (valsEq p.1 args) (some p.2) ih) l
theorem orcFind_mem : ∀ {l : List (List Value × Value)} {args : List Value} {v : Value}, orcFind l args = some v → (args, v) ∈ l
  | [], _, _, h => by cases h
  | p :: l, args, v, h => by
    change ite' (valsEq p.1 args) (some p.2) (orcFind l args) = some v at h
    cases hb : valsEq p.1 args with
    | true =>
      rw [hb] at h; cases h
      rw [← valsEq_eq hb]; exact List.mem_cons_self ..
    | false => rw [hb] at h; exact List.mem_cons_of_mem _ (orcFind_mem h)
theorem plain_eq {E : Env} {N : Nat} {v v' : Value} (hp : plainV v = true) (h : VR E N v v') : v' = v := by
  cases h with
  | same _ => rfl
  | ptr _ => cases hp
  | slice _ _ => cases hp
  | open_ _ _ _ _ => cases hp
  | map _ => cases hp
  | agg _ => cases hp
  | tuple _ => cases hp
  | iface _ => cases hp
  | tail => cases hp
theorem plainL_eq {E : Env} {N : Nat} : ∀ {l l' : List Value}, plainL l = true → VL E N l l' → l' = l
  | [], _, _, .nil => rfl
  | v :: l, _, h, .cons (v' := v') (l' := l') hv ht => by
    change ite' (plainV v) (plainL l) false = true at h
    obtain ⟨h1, h2⟩ := ite'_true_eq h
    rw [plain_eq h1 hv, plainL_eq h2 ht]
/-- a result: plain, or several plain ones. -/
def resOk (v : Value) : Bool := match v with
  | .tuple vs => plainL vs.toList
  | v => plainV v
theorem resOk_vr {E : Env} {N : Nat} {v : Value} (h : resOk v = true) : VR E N v v := by
  unfold resOk at h
  split at h
  · rename_i vs
    have := VR.tuple (plainL_ok (E := E) (N := N) h)
    simpa using this
  · exact .same h
theorem resOk_eq {E : Env} {N : Nat} {v v' : Value} (h : resOk v = true) (hv : VR E N v v') : v' = v := by
  unfold resOk at h
  split at h
  · rename_i vs
    obtain ⟨l', e, r⟩ := hv.tup
    rw [e, plainL_eq h r]
  · exact plain_eq h hv
/-! ### package-level tables that are only read -/
def romT (tabs : List (Nat × List Value)) : Tr Blk := List.rec (motive := fun _ => Tr Blk) .nil (fun p _ ih => ih.put p.1 (some (.rom (Tr.lay p.2 0 .nil)))) tabs
theorem romT_get : ∀ {tabs : List (Nat × List Value)} {b : Nat} {x : Blk}, (romT tabs).get b = some x → ∃ l, (b, l) ∈ tabs ∧ x = .rom (Tr.lay l 0 .nil)
  | [], b, x, h => by cases h
  | p :: tabs, b, x, h => by
    change ((romT tabs).put p.1 (some (.rom (Tr.lay p.2 0 .nil)))).get b = some x at h
    rw [Tr.get_put] at h
    split at h
    · rename_i e; subst e; cases h
      exact ⟨p.2, List.mem_cons_self .., rfl⟩
    · obtain ⟨l, h1, h2⟩ := romT_get h
      exact ⟨l, List.mem_cons_of_mem _ h1, h2⟩
/-- what is known of a call: whatever lies in memory, as long as the tables do. -/
structure OrcOk (P : Program) (g : Nat) (tabs : List (Nat × List Value)) (f : FuncId) (args : List Value) (v : Value) : Prop where
  fn : ∃ fn, P.funcs[f]? = some fn ∧ (fn.name == "runtime.NumGoroutine") = false ∧ fn.body.isNone = false
  pa : plainL args = true
  pr : resOk v = true
  call : ∀ E w, HRel E ⟨romT tabs, g⟩ w → (∀ b, b < g → E.s b = b) → Calls P f args.toArray w fun e w' => e = .returned v ∧ Below w.heap.size w w'
def OrOk (P : Program) (T : Cx) : Prop := ∀ f l, T.orc.get f = some l → ∀ args v, (args, v) ∈ l → OrcOk P T.g T.tabs f args v
def romLe (c : Tr Value) (l : List Value) : Nat → Bool := List.rec (motive := fun _ => Nat → Bool) (fun _ => true) (fun v _ ih i => match c.get i with
  | some u => ite' (valEq v u) (ih (Nat.succ i)) false
  | none => false) l
def romsOk (H : Hp) (tabs : List (Nat × List Value)) : Bool := List.rec (motive := fun _ => Bool) true (fun p _ ih => match H.b.get p.1 with
  | some (.rom c) => ite' (romLe c p.2 0) ih false
  | _ => false) tabs
theorem romLe_ok {c : Tr Value} : ∀ {l : List Value} {i : Nat}, romLe c l i = true → ∀ j v, l[j]? = some v → c.get (i + j) = some v
  | [], _, _, j, v, hj => by simp at hj
  | u :: l, i, h, j, v, hj => by
    change (match c.get i with
      | some x => ite' (valEq u x) (romLe c l (i + 1)) false
      | none => false) = true at h
    split at h
    · rename_i x hx
      obtain ⟨h1, h2⟩ := ite'_true_eq h
      cases j with
      | zero => simp at hj; subst hj; rw [Nat.add_zero, hx, valEq_eq h1]
      | succ j =>
        have := romLe_ok h2 j v (by simpa using hj)
        rw [← this]; congr 1; omega
    · cases h
theorem romsOk_ok {H : Hp} : ∀ {tabs : List (Nat × List Value)}, romsOk H tabs = true → ∀ p ∈ tabs, ∃ c, H.b.get p.1 = some (.rom c) ∧ ∀ j v, p.2[j]? = some v → c.get j = some v
  | [], _, p, hp => by cases hp
  | q :: tabs, h, p, hp => by
    change (match H.b.get q.1 with
      | some (.rom c) => ite' (romLe c q.2 0) (romsOk H tabs) false
      | _ => false) = true at h
    split at h
    · rename_i c hc
      obtain ⟨h1, h2⟩ := ite'_true_eq h
      rcases List.mem_cons.1 hp with e | e
      · subst e; exact ⟨c, hc, fun j v hj => by have := romLe_ok h1 j v hj; rwa [Nat.zero_add] at this⟩
      · exact romsOk_ok h2 p e
    · cases h
theorem roms_rel {E : Env} {H : Hp} {w : World} (hr : HRel E H w) {g : Nat} {tabs : List (Nat × List Value)} (ht : ∀ p ∈ tabs, p.1 < g ∧ plainL p.2 = true) (h : romsOk H tabs = true) : HRel E ⟨romT tabs, g⟩ w := by
  refine ⟨fun b x hx => ?_, fun b x hx => ?_, fun b b' x x' h1 h2 he => ?_⟩
  · obtain ⟨l, h1, _⟩ := romT_get hx
    exact (ht _ h1).1
  · obtain ⟨l, h1, h2⟩ := romT_get hx
    subst h2
    obtain ⟨c, hc, hcv⟩ := romsOk_ok h _ h1
    obtain ⟨cs, e, fz, q1, q2⟩ := hr.rel _ _ hc
    refine ⟨cs, e, fz, q1, fun i v hv => ?_⟩
    rw [Tr.get_lay] at hv
    split at hv
    · have hv2 : l[i]? = some v := by simpa using hv
      obtain ⟨v', e1, r⟩ := q2 i v (hcv i v hv2)
      have hp : plainV v = true := by
        have hall : ∀ (l : List Value), plainL l = true → ∀ v ∈ l, plainV v = true := by
          intro l
          induction l with
          | nil => intro _ v hv; cases hv
          | cons u l ih =>
            intro h v hv
            obtain ⟨h1, h2⟩ := ite'_true_eq (show ite' (plainV u) (plainL l) false = true from h)
            rcases List.mem_cons.1 hv with e | e
            · subst e; exact h1
            · exact ih h2 v e
        exact hall l (ht _ h1).2 v (List.mem_of_getElem? hv2)
      rw [plain_eq hp r] at e1
      exact ⟨v, e1, .same hp⟩
    · cases hv
  · obtain ⟨l, q1, _⟩ := romT_get h1
    obtain ⟨l', q1', _⟩ := romT_get h2
    obtain ⟨c, hc, _⟩ := romsOk_ok h _ q1
    obtain ⟨c', hc', _⟩ := romsOk_ok h _ q1'
    exact hr.inj _ _ _ _ hc hc' he
def orcCall (T : Cx) (ih : Cmd → Out) (f : FuncId) (args : List Value) (H : Hp) (v : Option Value) : Out := Option.rec (motive := fun _ => Out) (callStep T ih f args H (T.fn.get f)) (fun v => ite' (romsOk H T.tabs) (.call v H) (.bad 40)) v
def orcStep (T : Cx) (ih : Cmd → Out) (f : FuncId) (args : List Value) (H : Hp) (l : Option (List (List Value × Value))) : Out := Option.rec (motive := fun _ => Out) (callStep T ih f args H (T.fn.get f)) (fun l => orcCall T ih f args H (orcFind l args)) l
def stepA (T : Cx) (ih : Cmd → Out) (c : Cmd) : Out := match c with
  | .code c A H => codeD c T ih A H
  | .call f args H => orcStep T ih f args H (T.orc.get f)
def evN (T : Cx) (n : Nat) : Cmd → Out := Nat.rec (motive := fun _ => Cmd → Out) (fun _ => .bad 9) (fun _ ih => stepA T ih) n
theorem evN_succ (T : Cx) (n : Nat) (c : Cmd) : evN T (n + 1) c = stepA T (evN T n) c := rfl
def CodesOk (P : Program) (T : Cx) (ih : Cmd → Out) : Prop := ∀ c A H e A' H', ih (.code c A H) = .code e A' H' → ∀ (E : Env) (a : Act) (w : World), AR E H.next A a → HRel E H w → c.wp P (Post e A' H' E H w) a w
def LoopsOk (P : Program) (T : Cx) (ih : Cmd → Out) : Prop := ∀ b A H e A' H', ih (.code (.loop b) A H) = .code e A' H' → ∃ m, ∀ (E : Env) (a : Act) (w : World), AR E H.next A a → HRel E H w → Code.rounds P b (Post e A' H' E H w) m a w
theorem rounds_mono {P : Program} {c : Code} {Q Q' : Exit → Act → World → Prop} (hq : ∀ e a w, Q e a w → Q' e a w) : ∀ (n : Nat) (a : Act) (w : World), Code.rounds P c Q n a w → Code.rounds P c Q' n a w
  | 0, _, _, h => h
  | n + 1, a, w, h => wp_mono h fun x a1 w1 hp => by
    cases x with
    | normal => exact rounds_mono hq n _ _ hp
    | exit id => exact hq _ _ _ hp
    | goto l => exact hq _ _ _ hp
    | ret => exact hq _ _ _ hp
    | panic ch => exact hq _ _ _ hp
    | outgrown => exact hq _ _ _ hp
def resSem (tmps : Array Value) (r : ResultVar) : Sem Value := match r with
  | .tmp t => pure (tmps.getD t undef)
  | .cell q t => do loadVar t (← asAddr (tmps.getD q undef))
theorem results_eq (fn : Func) (tmps : Array Value) : results fn tmps = (do
  let vs ← fn.results.mapM (resSem tmps)
  pure (if h : vs.size = 1 then vs[0] else .tuple vs)) := by
  unfold results
  have : (fun (x : ResultVar) => (match x with
    | .tmp t => pure (tmps.getD t undef)
    | .cell a t => do loadVar t (← asAddr (tmps.getD a undef)) : Sem Value)) = resSem tmps := by
    funext x; cases x <;> rfl
  rw [← this]
  rfl
theorem res1_ok {P : Program} {T : Cx} (hT : Fits P T) {E : Env} {A : AA} {a : Act} {H : Hp} {w : World} (ha : AR E H.next A a) (hr : HRel E H w) {r : ResultVar} {v : Value} (hv : res1 T A H r = some v) : ∃ v', VR E H.next v v' ∧ (resSem a.tmps r).run P w = .ok v' w := by
  cases r with
  | tmp t =>
    obtain ⟨v', e1, r⟩ := ha.tm t v hv
    refine ⟨v', r, ?_⟩
    simp [resSem, Array.getD_eq_getD_getElem?, e1]
  | cell q t =>
    change (match A.get q with
      | some (.pointer (some p)) => loadV T H t p.block p.off
      | _ => none) = some v at hv
    split at hv
    · rename_i p hp
      obtain ⟨v', e1, r⟩ := ha.tm q _ hp
      obtain ⟨_, _, e2⟩ := r.pptr
      subst e2
      obtain ⟨u, e3, r3⟩ := loadV_ok (P := P) hT hr hv
      refine ⟨u, r3, ?_⟩
      simp [resSem, Array.getD_eq_getD_getElem?, e1, asAddr, e3]
    · cases hv
theorem resL_ok {P : Program} {T : Cx} (hT : Fits P T) {E : Env} {A : AA} {a : Act} {H : Hp} {w : World} (ha : AR E H.next A a) (hr : HRel E H w) : ∀ {l : List ResultVar} {vs : List Value}, resL T A H l = some vs → ∃ vs', VL E H.next vs vs' ∧
    (l.mapM (resSem a.tmps)).run P w = .ok vs' w
  | [], vs, h => by cases h; exact ⟨[], .nil, by simp⟩
  | r :: l, vs, h => by
    change (match res1 T A H r with
      | some v => (match resL T A H l with
        | some l => some (v :: l)
        | none => none)
      | none => none) = some vs at h
    split at h
    · rename_i v hv
      split at h
      · rename_i l2 hl2
        cases h
        obtain ⟨vs', r1, r2⟩ := resL_ok (P := P) hT ha hr hl2
        obtain ⟨v', r3, e3⟩ := res1_ok (P := P) hT ha hr hv
        refine ⟨v' :: vs', .cons r3 r1, ?_⟩
        rw [List.mapM_cons]
        simp [e3, r2]
      · cases h
    · cases h
theorem results_ok {P : Program} {T : Cx} (hT : Fits P T) {E : Env} {A : AA} {a : Act} {H : Hp} {w : World} (ha : AR E H.next A a) (hr : HRel E H w) {fn : Func} {v : Value} (h : resultsA T A H fn.results.toList = some v) : ∃ v', VR E H.next v v' ∧ (results fn a.tmps).run P w = .ok v' w := by
  unfold resultsA at h
  rw [results_eq]
  split at h
  · rename_i l hl
    obtain ⟨vs', r1, r2⟩ := resL_ok (P := P) hT ha hr hl
    have hrun : (fn.results.mapM (resSem a.tmps)).run P w = .ok vs'.toArray w := by
      rw [Array.mapM_eq_mapM_toList]
      simp [r2]
    split at h
    · rename_i u
      cases h
      cases r1 with
      | @cons _ v' _ l2 hv ht =>
        cases ht
        refine ⟨v', hv, ?_⟩
        simp [hrun]
    · rename_i hne
      cases h
      refine ⟨.tuple vs'.toArray, .tuple r1, ?_⟩
      have hs : ¬ vs'.length = 1 := fun e => by
        have := r1.length
        rw [e] at this
        match l, this with
        | [x], _ => exact hne x rfl
      simp [hrun, hs]
  · cases h
theorem entry_ok {E : Env} {N : Nat} {T : Cx} {fn : Func} {c : Code} {args args' : List Value} (hv : VL E N args args') (hg : ∀ g, g < T.g → E.s g = g ∧ g < N) : AR E N (entryA T fn c args) { tmps := args'.toArray ++ Array.replicate (fn.ntmps - args'.toArray.size) undef, defers := [] } := by
  have hl := hv.length
  refine ⟨rfl, ?_, hg, fun t v h => ?_⟩
  · show (args'.toArray ++ Array.replicate (fn.ntmps - args'.toArray.size) undef).size = Nat.max args.length fn.ntmps
    rw [Array.size_append, Array.size_replicate, List.size_toArray, hl]
    show _ = max _ _
    omega
  · change ite' (bit (kOf fn c) t) ((Tr.lay args 0 .nil).get t) none = some v at h
    obtain ⟨_, h2⟩ := ite'_some h
    obtain ⟨v', e, r⟩ := map_rows hv t v h2
    exact ⟨v', by rw [Array.getElem?_append_left (Array.getElem?_eq_some_iff.1 e).1]; exact e, r⟩
theorem main_ok {P : Program} {T : Cx} (hT : Fits P T) (hm : P.follows .mixedOrders = true) (hTab : ∀ p ∈ T.tabs, p.1 < T.g ∧ plainL p.2 = true) (hO : OrOk P T) : ∀ n, CallsOk P T (evN T n) ∧ CodesOk P T (evN T n) ∧ LoopsOk P T (evN T n)
  | 0 => ⟨fun f args H v H' h => (by cases h), fun c A H e A' H' h => (by cases h), fun b A H e A' H' h => (by cases h)⟩
  | n + 1 => by
    obtain ⟨hC, hD, hL⟩ := main_ok hT hm hTab hO n
    -- two pieces of code, one behind the other
    have hthen : ∀ (c1 c2 : Code) (A : AA) (H : Hp) (e : Ex) (A' : AA) (H' : Hp), thenCode (evN T n) c2 (evN T n (.code c1 A H)) = .code e A' H' → (∃ A1 H1, evN T n (.code c1 A H) = .code .normal A1 H1 ∧ evN T n (.code c2 A1 H1) = .code e A' H') ∨ (e ≠ .normal ∧ evN T n (.code c1 A H) = .code e A' H') := by
      intro c1 c2 A H e A' H' h
      rw [thenCode_def] at h
      split at h
      · exact .inl ⟨_, _, by assumption, h⟩
      · rename_i hne
        refine .inr ⟨fun he => ?_, h⟩
        subst he
        exact hne _ _ h
    have hloop : LoopsOk P T (evN T (n + 1)) := by
      intro b A H e A' H' h
      rw [evN_succ] at h
      change thenCode (evN T n) (.loop b) (evN T n (.code b A H)) = .code e A' H' at h
      rcases hthen b (.loop b) A H e A' H' h with ⟨A1, H1, h1, h2⟩ | ⟨hne, h1⟩
      · obtain ⟨m, hm1⟩ := hL b A1 H1 e A' H' h2
        refine ⟨m + 1, fun E a w ha hr => ?_⟩
        rw [rounds_succ]
        refine wp_mono (hD b A H _ _ _ h1 E a w ha hr) fun x a1 w1 hp => ?_
        obtain ⟨hx, E1, g1, ha1, hr1⟩ := hp
        subst hx
        exact rounds_mono (fun x2 a2 w2 hp2 => Post.trans g1 hp2) m _ _ (hm1 E1 a1 w1 ha1 hr1)
      · refine ⟨1, fun E a w ha hr => ?_⟩
        rw [rounds_succ]
        refine wp_mono (hD b A H _ _ _ h1 E a w ha hr) fun x a1 w1 hp => ?_
        have hx := hp.1
        subst hx
        cases e with
        | normal => exact absurd rfl hne
        | exit id => exact hp
        | ret => exact hp
    refine ⟨fun f args H v H' h => ?_, fun c A H e A' H' h E a w ha hr => ?_, hloop⟩
    · -- a call
      rw [evN_succ] at h
      change orcStep T (evN T n) f args H (T.orc.get f) = .call v H' at h
      have horc : (OrcOk P T.g T.tabs f args v ∧ romsOk H T.tabs = true ∧ H' = H) ∨ callStep T (evN T n) f args H (T.fn.get f) = .call v H' := by
        cases hl : T.orc.get f with
        | none => rw [hl] at h; exact .inr h
        | some l =>
          rw [hl] at h
          change orcCall T (evN T n) f args H (orcFind l args) = .call v H' at h
          cases hv : orcFind l args with
          | none => rw [hv] at h; exact .inr h
          | some u =>
            rw [hv] at h
            change ite' (romsOk H T.tabs) (Out.call u H) (.bad 40) = .call v H' at h
            cases hb : romsOk H T.tabs with
            | false => rw [hb] at h; cases h
            | true =>
              rw [hb] at h
              cases h
              exact .inl ⟨hO f l hl args v (orcFind_mem hv), rfl, rfl⟩
      rcases horc with ⟨ho, hrom, rfl⟩ | h
      · refine ⟨ho.fn, fun E args' w hv hr hg => ?_⟩
        rw [plainL_eq ho.pa hv]
        refine (ho.call E w (roms_rel hr hTab hrom) fun b hb => (hg b hb).1).mono fun e w' hh => ?_
        obtain ⟨he, hb⟩ := hh
        have hrow : ∀ b x, H'.b.get b = some x → E.s b < w.heap.size := fun b x hbx => by
          have := hr.rel b x hbx
          unfold BR at this
          split at this
          · obtain ⟨cs, fz, h1, _⟩ := this; exact (Array.getElem?_eq_some_iff.1 h1).1
          · obtain ⟨es', h1, _⟩ := this; exact (Array.getElem?_eq_some_iff.1 h1).1
          · exact (Array.getElem?_eq_some_iff.1 this).1
          · obtain ⟨cs, e, fz, h1, _⟩ := this; exact (Array.getElem?_eq_some_iff.1 h1).1
        exact ⟨E, v, he, ⟨Nat.le_refl _, Agree.refl _ _, fun b x h => .inl ⟨b, x, h, fun h => h, rfl⟩, hb.os, hb.tape, hb.output, hb.size, fun i hi _ => hb.block i hi⟩, resOk_vr ho.pr, ⟨hr.lt, fun b x hbx => by rw [hb.block _ (hrow b x hbx)]; exact hr.rel b x hbx, hr.inj⟩⟩
      cases hf : T.fn.get f with
      | none => rw [hf] at h; cases h
      | some fn =>
        rw [hf] at h
        change enterCall T (evN T n) f fn args H = .call v H' at h
        unfold enterCall at h
        obtain ⟨h1, h2⟩ := hT.fn f fn hf
        split at h
        · rename_i c hb
          refine ⟨⟨fn, h1, h2, by rw [hb]; rfl⟩, fun E args' w hv hr hg => ?_⟩
          have key : ∃ e A1 H1, (e = .normal ∨ e = .ret) ∧ evN T n (.code c (entryA T fn c args) H) = .code e A1 H1 ∧ resultsA T A1 H1 fn.results.toList = some v ∧ H' = H1 := by
            unfold backCall at h
            split at h
            · rename_i A1 H1 he
              split at h
              · cases h; exact ⟨_, _, _, .inl rfl, he, by assumption, rfl⟩
              · cases h
            · rename_i A1 H1 he
              split at h
              · cases h; exact ⟨_, _, _, .inr rfl, he, by assumption, rfl⟩
              · cases h
            · cases h
            · cases h
          obtain ⟨e, A1, H1, he, hev, hres, rfl⟩ := key
          have hw := hD c _ _ _ _ _ hev E _ w (entry_ok hv hg) hr
          refine calls_of_wp h1 hb (wp_mono hw fun x a1 w1 hp => ?_)
          obtain ⟨hx, E1, g1, ha1, hr1⟩ := hp
          obtain ⟨v', r1, r2⟩ := results_ok (P := P) hT ha1 hr1 hres
          rcases he with rfl | rfl
          · subst hx
            exact ⟨ha1.df, v', r2, E1, v', rfl, g1, r1, hr1⟩
          · subst hx
            exact ⟨ha1.df, v', r2, E1, v', rfl, g1, r1, hr1⟩
        · cases h
    · -- code
      rw [evN_succ] at h
      change codeD c T (evN T n) A H = .code e A' H' at h
      unfold codeD at h
      split at h
      · cases h; exact wp_skip ⟨rfl, E, Gd.refl _ _ _, ha, hr⟩
      · cases h; exact wp_ret ⟨rfl, E, Gd.refl _ _ _, ha, hr⟩
      · cases h; exact wp_exit ⟨rfl, E, Gd.refl _ _ _, ha, hr⟩
      · rename_i c1 c2
        refine wp_seq ?_
        rcases seqCode_ok h with h | ⟨id, ops, rfl, hf, h⟩
        case inr =>
          refine wp_mono (fork_ok hT hm hC hD hf rfl h ha.fresh hr) fun x a1 w1 hp => ?_
          obtain ⟨hx, hb⟩ := hp
          subst hx
          exact hb
        rcases hthen c1 c2 A H e A' H' h with ⟨A1, H1, h1, h2⟩ | ⟨hne, h1⟩
        · refine wp_mono (hD c1 A H _ _ _ h1 E a w ha hr) fun x a1 w1 hp => ?_
          obtain ⟨hx, E1, g1, ha1, hr1⟩ := hp
          subst hx
          exact wp_mono (hD c2 A1 H1 _ _ _ h2 E1 a1 w1 ha1 hr1) fun x2 a2 w2 hp2 => hp2.trans g1
        · refine wp_mono (hD c1 A H _ _ _ h1 E a w ha hr) fun x a1 w1 hp => ?_
          have hx := hp.1
          subst hx
          cases e with
          | normal => exact absurd rfl hne
          | exit id => exact hp
          | ret => exact hp
      · rename_i x c1 c2
        unfold condCode at h
        split at h
        · rename_i b hb
          have hc : a.eval x = .bool b := (ev_ok ha hb).bool
          refine wp_cond hc ?_
          have := hD _ A H _ _ _ h E a w ha hr
          cases b
          · exact this
          · exact this
        · cases h
      · rename_i id c1
        refine wp_block ?_
        unfold blockCode at h
        split at h
        · rename_i j A1 H1 hev
          have hw := hD c1 A H _ _ _ hev E a w ha hr
          cases hj : Nat.beq j id with
          | true =>
            rw [hj, ite'_true] at h
            cases h
            have := Nat.eq_of_beq_eq_true hj
            subst this
            refine wp_mono hw fun x a1 w1 hp => ?_
            have hx := hp.1
            subst hx
            show (if j = j then _ else _)
            rw [if_pos rfl]
            exact ⟨rfl, hp.2⟩
          | false =>
            rw [hj, ite'_false] at h
            cases h
            refine wp_mono hw fun x a1 w1 hp => ?_
            have hx := hp.1
            subst hx
            show (if j = id then _ else _)
            rw [if_neg (fun e => by subst e; rw [Nat.beq_refl] at hj; cases hj)]
            exact hp
        · rename_i hne
          refine wp_mono (hD c1 A H _ _ _ h E a w ha hr) fun x a1 w1 hp => ?_
          have hx := hp.1
          subst hx
          cases e with
          | normal => exact hp
          | exit j => exact absurd h (hne j A' H')
          | ret => exact hp
      · rename_i c1
        obtain ⟨m, hm1⟩ := hloop c1 A H e A' H' (by rw [evN_succ]; exact h)
        exact wp_loop_rounds m (hm1 E a w ha hr)
      · rename_i id ops d
        cases d with
        | true => exact drawZ_ok hT hm hC h ha.fresh hr
        | false => exact (region_ok hT hC h ha.fresh hr).2
      · cases h
end
end Go.Proofs.YtammfliaoifjhaaGreatDoor
