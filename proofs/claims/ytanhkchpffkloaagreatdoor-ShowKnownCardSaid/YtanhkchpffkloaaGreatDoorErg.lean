import Derived.Test.YtanhkchpffkloaaGreatDoorErf
namespace Go.Proofs.YtanhkchpffkloaaGreatDoor
open Go Go.RowKit
set_option linter.unusedVariables false
set_option linter.unusedSimpArgs false
noncomputable section
variable {ds : List Deferred}
/-! ### the closure's frame -/
structure IT (l : Nat) (pv : Value) (a : Act) : Prop where
  df : a.defers = []
  size : a.tmps.size = 19
  y : a.tmps[0]? = some (.func (.yield l) #[] #[])
  p : a.tmps[1]? = some pv
theorem IT.put {l : Nat} {pv : Value} {a : Act} (h : IT l pv a) (t : Nat) (v : Value) (h0 : t ≠ 0) (h1 : t ≠ 1) : IT l pv (a.put (some t) v) :=
  ⟨h.df, by simp [Act.put, h.size], by simp [Act.put, Array.getElem?_setIfInBounds_ne h0]; exact h.y, by simp [Act.put, Array.getElem?_setIfInBounds_ne h1]; exact h.p⟩
theorem tput_same {a : Act} {t : Nat} {v : Value} (h : t < a.tmps.size) : (a.put (some t) v).tmps[t]? = some v := by simp [Act.put, h]
theorem tput_other {a : Act} {t t' : Nat} {v : Value} (h : t ≠ t') : (a.put (some t) v).tmps[t']? = a.tmps[t']? := by simp [Act.put, Array.getElem?_setIfInBounds_ne h]
theorem eval_tmp {a : Act} {t : Nat} {v : Value} (h : a.tmps[t]? = some v) : a.eval (.tmp t) = v := by
  show a.tmps.getD t undef = v
  rw [Array.getD_eq_getD_getElem?, h]; rfl
section
variable {n : Nat} {P : Program} {ops : Array Oper} {Q : Exit → Act → World → Prop}
theorem opsIn_val {i : Nat} {rest : List Nat} {a : Act} {w : World} {o : Oper} {v : Value} {w' : World} (d : Option Tmp) (ho : ops[i]? = some o) (hd : o.dst = d) (hg : o.guard = none) (hnd : ∀ c, o.op ≠ .defer c) (hx : (execOp a.eval o).run P w = .ok (.value v) w') (h : wpOpsIn (FF none) n P ops Q rest (a.put d v) w') :
    wpOpsIn (FF none) n P ops Q (i :: rest) a w := by
  unfold wpOpsIn
  subst hd
  simp only [ho]
  rw [if_pos (by unfold Region.wanted; rw [hg])]
  refine ⟨fun _ _ => trivial, ?_⟩
  rw [Oper.semAt_eq _ _ _ hnd, hx]
  exact h
theorem opsIn_end {a : Act} {w : World} (h : Q .normal a w) : wpOpsIn (FF none) n P ops Q [] a w := h
end
def bwAA (i : Nat) (s : Value) : AA := ⟨0, 19, 0, .nil, [(14, .int .i64 (.ofNat i)), (13, s)]⟩
theorem bwAA_ok {E : Env} {N : Nat} {i : Nat} {s s' : Value} {a : Act} (hd : a.defers = []) (hs : a.tmps.size = 19) (h14 : a.tmps[14]? = some (.int .i64 (i : Int))) (h13 : a.tmps[13]? = some s') (hv : VR E N s s') : AR [] E N (bwAA i s) a := by
  refine ⟨hd, hs, fun g hg => absurd hg (Nat.not_lt_zero _), fun t v h => ?_⟩
  rw [AA.get_eq] at h
  have hb : bit (bwAA i s).k t = false := by
    show Nat.beq (Nat.land (Nat.shiftRight 0 t) 1) 1 = false
    have : Nat.shiftRight 0 t = 0 := Nat.zero_shiftRight t
    rw [this]; rfl
  rw [hb, ite'_false] at h
  change ite' (Nat.beq 14 t) (some (.int .i64 (.ofNat i))) (ite' (Nat.beq 13 t) (some s) none) = some v at h
  cases h1 : Nat.beq 14 t with
  | true =>
    rw [h1, ite'_true] at h
    cases h
    have := Nat.eq_of_beq_eq_true h1
    subst this
    exact ⟨_, h14, .same rfl⟩
  | false =>
    rw [h1, ite'_false] at h
    obtain ⟨h2, h3⟩ := ite'_some h
    cases h3
    have := Nat.eq_of_beq_eq_true h2
    subst this
    exact ⟨_, h13, hv⟩
def bwA4 (s : Value) : AA := ⟨0, 19, 0, .nil, [(4, s)]⟩
theorem bwA4_ok {E : Env} {N : Nat} {s s' : Value} {a : Act} (hd : a.defers = []) (hs : a.tmps.size = 19) (h4 : a.tmps[4]? = some s') (hv : VR E N s s') : AR [] E N (bwA4 s) a := by
  refine ⟨hd, hs, fun g hg => absurd hg (Nat.not_lt_zero _), fun t v h => ?_⟩
  rw [AA.get_eq] at h
  have hb : bit (bwA4 s).k t = false := by
    show Nat.beq (Nat.land (Nat.shiftRight 0 t) 1) 1 = false
    have : Nat.shiftRight 0 t = 0 := Nat.zero_shiftRight t
    rw [this]; rfl
  rw [hb, ite'_false] at h
  change ite' (Nat.beq 4 t) (some s) none = some v at h
  obtain ⟨h2, h3⟩ := ite'_some h
  cases h3
  have := Nat.eq_of_beq_eq_true h2
  subst this
  exact ⟨_, h4, hv⟩
/-- what is asked of a round, with the world before it. -/
structure Rd (E : Env) (H : Hp) (w : World) (rec : LoopState → Option Code → Loop) (E1 : Env) (H1 : Hp) (st : LoopState) (pe : Option Code) (W : World) : Prop where
  g : Gd E E1 H H1 w W
  r : HRel E1 H1 W
  l : W.heap[w.heap.size + 1]? = some (.loop (rec st pe))
  d : W.heap[w.heap.size]? = some (.deferred (some []))
theorem Rd.put {E : Env} {H : Hp} {w : World} {rec : LoopState → Option Code → Loop} {E1 : Env} {H1 : Hp} {st st' : LoopState} {pe pe' : Option Code} {W : World} (h : Rd E H w rec E1 H1 st pe W) : Rd E H w rec E1 H1 st' pe' (W.putObj (w.heap.size + 1) (.loop (rec st' pe'))) :=
  ⟨h.g.putL (by omega) _, h.r.putL h.l _, World.putObj_heap_same (Array.getElem?_eq_some_iff.1 h.l).1, (World.putObj_heap_other (by omega)).trans h.d⟩
theorem Rd.then {E : Env} {H : Hp} {w : World} {rec : LoopState → Option Code → Loop} {E1 E2 : Env} {H1 H2 : Hp} {st : LoopState} {pe : Option Code} {W W2 : World} (h : Rd E H w rec E1 H1 st pe W) (g : Gd E1 E2 H1 H2 W W2) (hr : HRel E2 H2 W2) : Rd E H w rec E2 H2 st pe W2 :=
  ⟨h.g.trans g, hr, g.keepL h.r h.l, g.keepD h.r h.d⟩
/-- the record of a range. -/
def recOf (fn : FuncId) (tmps : Array Value) (ps : Array Tmp) (assign body : Code) (D : Nat) (st : LoopState) (pe : Option Code) : Loop := { state := st, pending := pe, fn, tmps, params := ps, assign, body, defers := D }
def jumpOf : Ex → Option Code
  | .normal => none
  | .exit id => some (.exit id)
  | .ret => some .ret
/-- one round, as it is run: the parameters set, the assignment, the body. -/
theorem round_ok {P : Program} {T : Cx} {ih : Cmd → Out} (hD : CodesOk P T ih) {assign body : Code} (nda : ndCode assign = true) (ndb : ndCode body = true) (nra : nrCode assign = true) (nrb : nrCode body = true)
    {A : AA} {fn : FuncId} {p0 p1 : Nat} {i : Nat} {E : Env} {H : Hp} {w : World} {a : Act} (ha : AR ds E H.next A a) {E1 : Env} {H1 : Hp} {W : World} {v v' : Value}
    (hrd : Rd E H w (recOf fn a.tmps #[p0, p1] assign body w.heap.size) E1 H1 .ready none W) (hv : VR E1 H1.next v v') {A1 A2 A3 : AA} {H3 : Hp} (h0 : A.set p0 (.int .i64 (.ofNat i)) = some A1) (h1 : A1.set p1 v = some A2)
    (hasg : ih (.code assign A2 H1) = .code .normal A3 H3) {e : Ex} {A4 : AA} {H4 : Hp} (hbody : ih (.code body A3 H3) = .code e A4 H4) (n : Nat) :
    ∃ tmps, (Instr.yield (w.heap.size + 1) #[.int .i64 (i : Int), v']).run P W = .ok (.round (w.heap.size + 1) fn tmps assign body) W ∧ RoundIn (FF none) n P (w.heap.size + 1) fn tmps assign body W fun en W' =>
      en = .returned (.bool (jumpOf e).isNone) ∧ ∃ E4, Rd E H w (recOf fn a.tmps #[p0, p1] assign body w.heap.size) E4 H4 (if (jumpOf e).isNone then .ready else .done) (jumpOf e) W' := by
  refine ⟨_, run_yield hrd.l rfl, roundIn_of_wpIn trivial ?_⟩
  have ha2 : AR [] E1 H1.next A2 { tmps := ((#[p0, p1].zip #[.int .i64 (i : Int), v']).foldl (fun tmps (t, a) => tmps.setIfInBounds t a) a.tmps), defers := [] } := by
    have ha' : AR [] E1 H1.next A { tmps := a.tmps, defers := [] } := by
      have := ha.mono hrd.g.ag hrd.g.le
      exact ⟨rfl, this.size, this.gl, this.tm⟩
    have e := (ha'.put (d := some p0) h0 (.same rfl)).put (d := some p1) h1 hv
    have e2 : ((#[p0, p1].zip #[.int .i64 (i : Int), v']).foldl (fun tmps (t, a) => tmps.setIfInBounds t a) a.tmps) = (a.tmps.setIfInBounds p0 (.int .i64 (i : Int))).setIfInBounds p1 v' := by simp
    rw [e2]
    exact e
  refine wpIn_mono (hD _ _ _ _ _ _ hasg nda [] (some (w.heap.size + 1)) (.inr nra) E1 _ W ha2 hrd.r n) fun x a3 W3 hp => ?_
  obtain ⟨hx, E3, ms, g3, ha3, hr3, _⟩ := hp
  subst hx
  have hrd3 := hrd.then g3 hr3
  refine ⟨_, run_beginRound hrd3.l rfl, ?_⟩
  have hrd4 : Rd E H w (recOf fn a.tmps #[p0, p1] assign body w.heap.size) E3 H3 .busy none _ := hrd3.put
  refine wpIn_mono (hD _ _ _ _ _ _ hbody ndb _ (some (w.heap.size + 1)) (.inr nrb) E3 a3 _ ha3 hrd4.r n) fun x a4 W4 hp => ?_
  obtain ⟨hx, E4, ms4, g4, ha4, hr4, _⟩ := hp
  subst hx
  have hrd5 := hrd4.then g4 hr4
  cases e with
  | normal => exact ⟨_, _, run_endRound none hrd5.l, rfl, E4, hrd5.put⟩
  | exit id => exact ⟨_, _, run_endRound (some (.exit id)) hrd5.l, rfl, E4, hrd5.put⟩
  | ret => exact ⟨_, _, run_endRound (some .ret) hrd5.l, rfl, E4, hrd5.put⟩
/-- behind the range. -/
theorem range_end {P : Program} {ps : Array Tmp} {assign body : Code} {A : AA} {fn : FuncId} {E : Env} {H : Hp} {w : World} {a : Act} (ha : AR ds E H.next A a) {E1 : Env} {H1 : Hp} {W : World} {e : Ex} {st : LoopState} (hst : st ≠ .busy)
    (hrd : Rd E H w (recOf fn a.tmps ps assign body w.heap.size) E1 H1 st (jumpOf e) W) (n : Nat) (v : Value) :
    rangePost (FF none) n P (w.heap.size + 1) (PostM ds e A H1 E H w) { a with defers := [{ target := .collected w.heap.size, args := #[] }] ++ a.defers } (.returned v) W := by
  refine ⟨_, _, run_endLoop hrd.l hst, ?_⟩
  have hrd2 : Rd E H w (recOf fn a.tmps ps assign body w.heap.size) E1 H1 .exhausted (jumpOf e) _ := hrd.put
  have key : ∀ x, x = e.out → PostM ds e A H1 E H w x { a with defers := [{ target := .collected w.heap.size, args := #[] }] ++ a.defers } (W.putObj (w.heap.size + 1) (.loop (recOf fn a.tmps ps assign body w.heap.size .exhausted (jumpOf e)))) := fun x hx => by
    refine ⟨hx, E1, [w.heap.size], hrd2.g, ?_, hrd2.r, ⟨by simp, fun D hD => ?_⟩⟩
    · have := ha.mono hrd.g.ag hrd.g.le
      exact ⟨by show _ ++ a.defers = _; rw [this.df]; rfl, this.size, this.gl, this.tm⟩
    · have : D = w.heap.size := by simpa using hD
      subst this
      exact ⟨Nat.le_refl _, hrd2.d⟩
  cases e with
  | normal => exact key _ rfl
  | exit id => exact wpIn_exit (key _ rfl)
  | ret => exact wpIn_ret (key _ rfl)
end
end Go.Proofs.YtanhkchpffkloaaGreatDoor
