import Derived.Test.YtmdlkcppbenamaaDoorEnf
namespace Go.Proofs.YtmdlkcppbenamaaDoor
open Go
set_option linter.unusedVariables false
set_option linter.unusedSimpArgs false
noncomputable section
def plainSeq (ih : Cmd → Out) (a b : Code) (A : AA) (H : Hp) : Out := thenCode ih b (ih (.code a A H))
/-- two pieces of code; the first may be a region with two orders whose outcomes differ. -/
def seqCode (T : Cx) (ih : Cmd → Out) (a b : Code) (A : AA) (H : Hp) : Out := match a with
  | .region id ops d => ite' d (ite' (forkOk ops) (forkSeq T ih id ops.toList ops.toList b A.fresh H) (plainSeq ih (.region id ops d) b A H)) (plainSeq ih (.region id ops d) b A H)
  | a => plainSeq ih a b A H
theorem seqCode_ok {T : Cx} {ih : Cmd → Out} {a b : Code} {A A' : AA} {H H' : Hp} {e : Ex} (h : seqCode T ih a b A H = .code e A' H') : thenCode ih b (ih (.code a A H)) = .code e A' H' ∨ ∃ id ops, a = .region id ops true ∧ forkOk ops = true ∧ forkSeq T ih id ops.toList ops.toList b A.fresh H = .code e A' H' := by
  unfold seqCode at h
  split at h
  · rename_i id ops d
    cases d with
    | false => exact .inl h
    | true =>
      rw [ite'_true] at h
      cases hf : forkOk ops with
      | false => rw [hf, ite'_false] at h; exact .inl h
      | true => rw [hf, ite'_true] at h; exact .inr ⟨id, ops, rfl, hf, h⟩
  · exact .inl h
def codeD (c : Code) : CodeF := match c with
  | .skip => fun _ _ A H => .code .normal A H
  | .ret => fun _ _ A H => .code .ret A H
  | .exit id => fun _ _ A H => .code (.exit id) A H
  | .seq a b => fun T ih A H => seqCode T ih a b A H
  | .cond x a b => fun _ ih A H => condCode ih a b A H (ev A x)
  | .block id b => fun _ ih A H => blockCode id (ih (.code b A H))
  | .loop b => fun _ ih A H => thenCode ih (.loop b) (ih (.code b A H))
  | .region id ops d => fun T ih A H => ite' d (drawZ T ih ops id A.fresh H) (runOps T ih ops.toList id ops.toList A.fresh H)
  | _ => fun _ _ _ _ => .bad 4
def callStep (T : Cx) (ih : Cmd → Out) (f : FuncId) (args : List Value) (H : Hp) (fn : Option Func) : Out := match fn with
  | some fn => enterCall T ih f fn args H
  | none => .bad 8
def stepA (T : Cx) (ih : Cmd → Out) (c : Cmd) : Out := match c with
  | .code c A H => codeD c T ih A H
  | .call f args H => callStep T ih f args H (T.fn.get f)
def evN (T : Cx) (n : Nat) : Cmd → Out := Nat.rec (motive := fun _ => Cmd → Out) (fun _ => .bad 9) (fun _ ih => stepA T ih) n
theorem evN_succ (T : Cx) (n : Nat) (c : Cmd) : evN T (n + 1) c = stepA T (evN T n) c := rfl
def CodesOk (P : Program) (T : Cx) (ih : Cmd → Out) : Prop := ∀ c A H e A' H', ih (.code c A H) = .code e A' H' → ∀ (E : Env) (a : Act) (w : World), AR E H.next A a → HRel E H w → c.wp P (Post e A' H' E H w) a w
def LoopsOk (P : Program) (T : Cx) (ih : Cmd → Out) : Prop := ∀ b A H e A' H', ih (.code (.loop b) A H) = .code e A' H' → ∃ m, ∀ (E : Env) (a : Act) (w : World), AR E H.next A a → HRel E H w → Code.rounds P b (Post e A' H' E H w) m a w
theorem rounds_mono {P : Program} {c : Code} {Q Q' : Exit → Act → World → Prop} (hq : ∀ e a w, Q e a w → Q' e a w) : ∀ (n : Nat) (a : Act) (w : World), Code.rounds P c Q n a w → Code.rounds P c Q' n a w
  | 0, _, _, h => h
  | n + 1, a, w, h => wp_mono h fun x a1 w1 hp => by
    cases x with
    | normal => exact rounds_mono hq n _ _ hp
    | exit id => exact hq _ _ _ hp
    | goto l => exact hq _ _ _ hp
    | ret => exact hq _ _ _ hp
    | panic ch => exact hq _ _ _ hp
    | outgrown => exact hq _ _ _ hp
def resSem (tmps : Array Value) (r : ResultVar) : Sem Value := match r with
  | .tmp t => pure (tmps.getD t undef)
  | .cell q t => do loadVar t (← asAddr (tmps.getD q undef))
theorem results_eq (fn : Func) (tmps : Array Value) : results fn tmps = (do
  let vs ← fn.results.mapM (resSem tmps)
  pure (if h : vs.size = 1 then vs[0] else .tuple vs)) := by
  unfold results
  have : (fun (x : ResultVar) => (match x with
    | .tmp t => pure (tmps.getD t undef)
    | .cell a t => do loadVar t (← asAddr (tmps.getD a undef)) : Sem Value)) = resSem tmps := by
    funext x; cases x <;> rfl
  rw [← this]
  rfl
theorem res1_ok {P : Program} {T : Cx} (hT : Fits P T) {E : Env} {A : AA} {a : Act} {H : Hp} {w : World} (ha : AR E H.next A a) (hr : HRel E H w) {r : ResultVar} {v : Value} (hv : res1 T A H r = some v) : ∃ v', VR E H.next v v' ∧ (resSem a.tmps r).run P w = .ok v' w := by
  cases r with
  | tmp t =>
    obtain ⟨v', e1, r⟩ := ha.tm t v hv
    refine ⟨v', r, ?_⟩
    simp [resSem, Array.getD_eq_getD_getElem?, e1]
  | cell q t =>
    change (match A.get q with
      | some (.pointer (some p)) => loadV T H t p.block p.off
      | _ => none) = some v at hv
    split at hv
    · rename_i p hp
      obtain ⟨v', e1, r⟩ := ha.tm q _ hp
      obtain ⟨_, _, e2⟩ := r.pptr
      subst e2
      obtain ⟨u, e3, r3⟩ := loadV_ok (P := P) hT hr hv
      refine ⟨u, r3, ?_⟩
      simp [resSem, Array.getD_eq_getD_getElem?, e1, asAddr, e3]
    · cases hv
theorem resL_ok {P : Program} {T : Cx} (hT : Fits P T) {E : Env} {A : AA} {a : Act} {H : Hp} {w : World} (ha : AR E H.next A a) (hr : HRel E H w) : ∀ {l : List ResultVar} {vs : List Value}, resL T A H l = some vs → ∃ vs', VL E H.next vs vs' ∧
    (l.mapM (resSem a.tmps)).run P w = .ok vs' w
  | [], vs, h => by cases h; exact ⟨[], .nil, by simp⟩
  | r :: l, vs, h => by
    change (match res1 T A H r with
      | some v => (match resL T A H l with
        | some l => some (v :: l)
        | none => none)
      | none => none) = some vs at h
    split at h
    · rename_i v hv
      split at h
      · rename_i l2 hl2
        cases h
        obtain ⟨vs', r1, r2⟩ := resL_ok (P := P) hT ha hr hl2
        obtain ⟨v', r3, e3⟩ := res1_ok (P := P) hT ha hr hv
        refine ⟨v' :: vs', .cons r3 r1, ?_⟩
        rw [List.mapM_cons]
        simp [e3, r2]
      · cases h
    · cases h
theorem results_ok {P : Program} {T : Cx} (hT : Fits P T) {E : Env} {A : AA} {a : Act} {H : Hp} {w : World} (ha : AR E H.next A a) (hr : HRel E H w) {fn : Func} {v : Value} (h : resultsA T A H fn.results.toList = some v) : ∃ v', VR E H.next v v' ∧ (results fn a.tmps).run P w = .ok v' w := by
  unfold resultsA at h
  rw [results_eq]
  split at h
  · rename_i l hl
    obtain ⟨vs', r1, r2⟩ := resL_ok (P := P) hT ha hr hl
    have hrun : (fn.results.mapM (resSem a.tmps)).run P w = .ok vs'.toArray w := by
      rw [Array.mapM_eq_mapM_toList]
      simp [r2]
    split at h
    · rename_i u
      cases h
      cases r1 with
      | @cons _ v' _ l2 hv ht =>
        cases ht
        refine ⟨v', hv, ?_⟩
        simp [hrun]
    · rename_i hne
      cases h
      refine ⟨.tuple vs'.toArray, .tuple r1, ?_⟩
      have hs : ¬ vs'.length = 1 := fun e => by
        have := r1.length
        rw [e] at this
        match l, this with
        | [x], _ => exact hne x rfl
      simp [hrun, hs]
  · cases h
theorem entry_ok {E : Env} {N : Nat} {T : Cx} {fn : Func} {c : Code} {args args' : List Value} (hv : VL E N args args') (hg : ∀ g, g < T.g → E.s g = g ∧ g < N) : AR E N (entryA T fn c args) { tmps := args'.toArray ++ Array.replicate (fn.ntmps - args'.toArray.size) undef, defers := [] } := by
  have hl := hv.length
  refine ⟨rfl, ?_, hg, fun t v h => ?_⟩
  · show (args'.toArray ++ Array.replicate (fn.ntmps - args'.toArray.size) undef).size = Nat.max args.length fn.ntmps
    rw [Array.size_append, Array.size_replicate, List.size_toArray, hl]
    show _ = max _ _
    omega
  · change ite' (bit (kOf fn c) t) ((Tr.lay args 0 .nil).get t) none = some v at h
    obtain ⟨_, h2⟩ := ite'_some h
    obtain ⟨v', e, r⟩ := map_rows hv t v h2
    exact ⟨v', by rw [Array.getElem?_append_left (Array.getElem?_eq_some_iff.1 e).1]; exact e, r⟩
theorem main_ok {P : Program} {T : Cx} (hT : Fits P T) (hm : P.follows .mixedOrders = true) : ∀ n, CallsOk P T (evN T n) ∧ CodesOk P T (evN T n) ∧ LoopsOk P T (evN T n)
  | 0 => ⟨fun f args H v H' h => (by cases h), fun c A H e A' H' h => (by cases h), fun b A H e A' H' h => (by cases h)⟩
  | n + 1 => by
    obtain ⟨hC, hD, hL⟩ := main_ok hT hm n
    -- two pieces of code, one behind the other
    have hthen : ∀ (c1 c2 : Code) (A : AA) (H : Hp) (e : Ex) (A' : AA) (H' : Hp), thenCode (evN T n) c2 (evN T n (.code c1 A H)) = .code e A' H' → (∃ A1 H1, evN T n (.code c1 A H) = .code .normal A1 H1 ∧ evN T n (.code c2 A1 H1) = .code e A' H') ∨ (e ≠ .normal ∧ evN T n (.code c1 A H) = .code e A' H') := by
      intro c1 c2 A H e A' H' h
      unfold thenCode at h
      split at h
      · exact .inl ⟨_, _, by assumption, h⟩
      · rename_i hne
        refine .inr ⟨fun he => ?_, h⟩
        subst he
        exact hne _ _ h
    have hloop : LoopsOk P T (evN T (n + 1)) := by
      intro b A H e A' H' h
      rw [evN_succ] at h
      change thenCode (evN T n) (.loop b) (evN T n (.code b A H)) = .code e A' H' at h
      rcases hthen b (.loop b) A H e A' H' h with ⟨A1, H1, h1, h2⟩ | ⟨hne, h1⟩
      · obtain ⟨m, hm1⟩ := hL b A1 H1 e A' H' h2
        refine ⟨m + 1, fun E a w ha hr => ?_⟩
        rw [rounds_succ]
        refine wp_mono (hD b A H _ _ _ h1 E a w ha hr) fun x a1 w1 hp => ?_
        obtain ⟨hx, E1, g1, ha1, hr1⟩ := hp
        subst hx
        exact rounds_mono (fun x2 a2 w2 hp2 => Post.trans g1 hp2) m _ _ (hm1 E1 a1 w1 ha1 hr1)
      · refine ⟨1, fun E a w ha hr => ?_⟩
        rw [rounds_succ]
        refine wp_mono (hD b A H _ _ _ h1 E a w ha hr) fun x a1 w1 hp => ?_
        have hx := hp.1
        subst hx
        cases e with
        | normal => exact absurd rfl hne
        | exit id => exact hp
        | ret => exact hp
    refine ⟨fun f args H v H' h => ?_, fun c A H e A' H' h E a w ha hr => ?_, hloop⟩
    · -- a call
      rw [evN_succ] at h
      change callStep T (evN T n) f args H (T.fn.get f) = .call v H' at h
      cases hf : T.fn.get f with
      | none => rw [hf] at h; cases h
      | some fn =>
        rw [hf] at h
        change enterCall T (evN T n) f fn args H = .call v H' at h
        unfold enterCall at h
        obtain ⟨h1, h2⟩ := hT.fn f fn hf
        split at h
        · rename_i c hb
          refine ⟨⟨fn, h1, h2, by rw [hb]; rfl⟩, fun E args' w hv hr hg => ?_⟩
          have key : ∃ e A1 H1, (e = .normal ∨ e = .ret) ∧ evN T n (.code c (entryA T fn c args) H) = .code e A1 H1 ∧ resultsA T A1 H1 fn.results.toList = some v ∧ H' = H1 := by
            unfold backCall at h
            split at h
            · rename_i A1 H1 he
              split at h
              · cases h; exact ⟨_, _, _, .inl rfl, he, by assumption, rfl⟩
              · cases h
            · rename_i A1 H1 he
              split at h
              · cases h; exact ⟨_, _, _, .inr rfl, he, by assumption, rfl⟩
              · cases h
            · cases h
            · cases h
          obtain ⟨e, A1, H1, he, hev, hres, rfl⟩ := key
          have hw := hD c _ _ _ _ _ hev E _ w (entry_ok hv hg) hr
          refine calls_of_wp h1 hb (wp_mono hw fun x a1 w1 hp => ?_)
          obtain ⟨hx, E1, g1, ha1, hr1⟩ := hp
          obtain ⟨v', r1, r2⟩ := results_ok (P := P) hT ha1 hr1 hres
          rcases he with rfl | rfl
          · subst hx
            exact ⟨ha1.df, v', r2, E1, v', rfl, g1, r1, hr1⟩
          · subst hx
            exact ⟨ha1.df, v', r2, E1, v', rfl, g1, r1, hr1⟩
        · cases h
    · -- code
      rw [evN_succ] at h
      change codeD c T (evN T n) A H = .code e A' H' at h
      unfold codeD at h
      split at h
      · cases h; exact wp_skip ⟨rfl, E, Gd.refl _ _ _, ha, hr⟩
      · cases h; exact wp_ret ⟨rfl, E, Gd.refl _ _ _, ha, hr⟩
      · cases h; exact wp_exit ⟨rfl, E, Gd.refl _ _ _, ha, hr⟩
      · rename_i c1 c2
        refine wp_seq ?_
        rcases seqCode_ok h with h | ⟨id, ops, rfl, hf, h⟩
        case inr =>
          refine wp_mono (fork_ok hT hm hC hD hf rfl h ha.fresh hr) fun x a1 w1 hp => ?_
          obtain ⟨hx, hb⟩ := hp
          subst hx
          exact hb
        rcases hthen c1 c2 A H e A' H' h with ⟨A1, H1, h1, h2⟩ | ⟨hne, h1⟩
        · refine wp_mono (hD c1 A H _ _ _ h1 E a w ha hr) fun x a1 w1 hp => ?_
          obtain ⟨hx, E1, g1, ha1, hr1⟩ := hp
          subst hx
          exact wp_mono (hD c2 A1 H1 _ _ _ h2 E1 a1 w1 ha1 hr1) fun x2 a2 w2 hp2 => hp2.trans g1
        · refine wp_mono (hD c1 A H _ _ _ h1 E a w ha hr) fun x a1 w1 hp => ?_
          have hx := hp.1
          subst hx
          cases e with
          | normal => exact absurd rfl hne
          | exit id => exact hp
          | ret => exact hp
      · rename_i x c1 c2
        unfold condCode at h
        split at h
        · rename_i b hb
          have hc : a.eval x = .bool b := (ev_ok ha hb).bool
          refine wp_cond hc ?_
          have := hD _ A H _ _ _ h E a w ha hr
          cases b
          · exact this
          · exact this
        · cases h
      · rename_i id c1
        refine wp_block ?_
        unfold blockCode at h
        split at h
        · rename_i j A1 H1 hev
          have hw := hD c1 A H _ _ _ hev E a w ha hr
          cases hj : Nat.beq j id with
          | true =>
            rw [hj, ite'_true] at h
            cases h
            have := Nat.eq_of_beq_eq_true hj
            subst this
            refine wp_mono hw fun x a1 w1 hp => ?_
            have hx := hp.1
            subst hx
            show (if j = j then _ else _)
            rw [if_pos rfl]
            exact ⟨rfl, hp.2⟩
          | false =>
            rw [hj, ite'_false] at h
            cases h
            refine wp_mono hw fun x a1 w1 hp => ?_
            have hx := hp.1
            subst hx
            show (if j = id then _ else _)
            rw [if_neg (fun e => by subst e; rw [Nat.beq_refl] at hj; cases hj)]
            exact hp
        · rename_i hne
          refine wp_mono (hD c1 A H _ _ _ h E a w ha hr) fun x a1 w1 hp => ?_
          have hx := hp.1
          subst hx
          cases e with
          | normal => exact hp
          | exit j => exact absurd h (hne j A' H')
          | ret => exact hp
      · rename_i c1
        obtain ⟨m, hm1⟩ := hloop c1 A H e A' H' (by rw [evN_succ]; exact h)
        exact wp_loop_rounds m (hm1 E a w ha hr)
      · rename_i id ops d
        cases d with
        | true => exact drawZ_ok hT hm hC h ha.fresh hr
        | false => exact (region_ok hT hC h ha.fresh hr).2
      · cases h
end
end Go.Proofs.YtmdlkcppbenamaaDoor
