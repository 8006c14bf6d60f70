import Derived.Test.YtanhkchpffkloaaGreatDoorEb
namespace Go.Proofs.YtanhkchpffkloaaGreatDoor
open Go
set_option linter.unusedVariables false
set_option linter.unusedSimpArgs false
noncomputable section
variable {ds : List Deferred}
/-- a function's temporaries: those that outlive a region in a table (k: which, as bits), the others in a list; n: how many there are; g: how many blocks are globals. -/
structure AA where
  g : Nat
  n : Nat
  k : Nat
  v : Tr Value
  r : List (Nat × Value)
def bit (m t : Nat) : Bool := Nat.beq (Nat.land (Nat.shiftRight m t) 1) 1
def recGet (l : List (Nat × Value)) (t : Nat) : Option Value := List.rec (motive := fun _ => Option Value) none (fun p _ ih => ite' (Nat.beq p.1 t) (some p.2) ih) l
def AA.get (A : AA) (t : Nat) : Option Value := AA.rec (motive := fun _ => Option Value) (fun _ _ k v r => ite' (bit k t) (v.get t) (recGet r t)) A
theorem AA.get_eq (A : AA) (t : Nat) : A.get t = ite' (bit A.k t) (A.v.get t) (recGet A.r t) := by cases A; rfl
def AA.set (A : AA) (t : Nat) (x : Value) : Option AA := AA.rec (motive := fun _ => Option AA) (fun g n k v r => ite' (Nat.ble (Nat.succ t) n) (some (ite' (bit k t) ⟨g, n, k, v.put t (some x), r⟩ ⟨g, n, k, v, (t, x) :: r⟩)) none) A
theorem AA.set_eq (A : AA) (t : Nat) (x : Value) : A.set t x = ite' (Nat.ble (Nat.succ t) A.n) (some (ite' (bit A.k t) ⟨A.g, A.n, A.k, A.v.put t (some x), A.r⟩ ⟨A.g, A.n, A.k, A.v, (t, x) :: A.r⟩)) none := by cases A; rfl
theorem AA.set_spec {A A' : AA} {t : Nat} {x : Value} (h : A.set t x = some A') : t < A.n ∧ A'.n = A.n ∧ A'.g = A.g ∧ ∀ t', A'.get t' = if t' = t then some x else A.get t' := by
  rw [AA.set_eq] at h
  obtain ⟨h1, h2⟩ := ite'_some h
  cases h2
  refine ⟨Nat.le_of_ble_eq_true h1, ?_, ?_, fun t' => ?_⟩
  · cases bit A.k t <;> rfl
  · cases bit A.k t <;> rfl
  · cases hb : bit A.k t with
    | true =>
      show ite' (bit A.k t') ((A.v.put t (some x)).get t') (recGet A.r t') = _
      rw [AA.get_eq]
      rw [Tr.get_put]
      by_cases e : t' = t
      · subst e; rw [if_pos rfl, if_pos rfl, hb]
      · rw [if_neg e, if_neg e]
    | false =>
      show ite' (bit A.k t') (A.v.get t') (ite' (Nat.beq t t') (some x) (recGet A.r t')) = _
      rw [AA.get_eq]
      by_cases e : t' = t
      · subst e; rw [hb, if_pos rfl, show Nat.beq t' t' = true from Nat.beq_refl t']
      · rw [if_neg e, show Nat.beq t t' = false from by
          cases h3 : Nat.beq t t' with
          | false => rfl
          | true => exact absurd (Nat.eq_of_beq_eq_true h3).symm e]
structure AR (ds : List Deferred) (E : Env) (N : Nat) (A : AA) (a : Act) : Prop where
  df : a.defers = ds
  size : a.tmps.size = A.n
  gl : ∀ g, g < A.g → E.s g = g ∧ g < N
  tm : ∀ t v, A.get t = some v → ∃ v', a.tmps[t]? = some v' ∧ VR E N v v'
theorem AR.mono {E E' : Env} {N N' : Nat} {A : AA} {a : Act} (h : AR ds E N A a) (ha : Agree E E' N) (hN : N ≤ N') : AR ds E' N' A a :=
  ⟨h.df, h.size, fun g hg => ⟨((ha g (h.gl g hg).2).1).trans (h.gl g hg).1, Nat.lt_of_lt_of_le (h.gl g hg).2 hN⟩, fun t v hv => by
    obtain ⟨v', e, r⟩ := h.tm t v hv
    exact ⟨v', e, r.mono ha hN⟩⟩
/-- the list is forgotten. -/
def AA.fresh (A : AA) : AA := AA.rec (motive := fun _ => AA) (fun g n k v _ => ⟨g, n, k, v, []⟩) A
theorem AA.fresh_eq (A : AA) : A.fresh = ⟨A.g, A.n, A.k, A.v, []⟩ := by cases A; rfl
theorem AR.fresh {E : Env} {N : Nat} {A : AA} {a : Act} (h : AR ds E N A a) : AR ds E N A.fresh a := by
  rw [AA.fresh_eq]
  refine ⟨h.df, h.size, h.gl, fun t v hv => ?_⟩
  refine h.tm t v ?_
  rw [AA.get_eq] at hv ⊢
  cases hb : bit A.k t with
  | true => simp only [hb] at hv ⊢; exact hv
  | false => simp only [hb] at hv; cases hv
/-- one temporary is forgotten. -/
def filtR (t : Nat) (l : List (Nat × Value)) : List (Nat × Value) := List.rec (motive := fun _ => List (Nat × Value)) [] (fun p _ ih => ite' (Nat.beq p.1 t) ih (p :: ih)) l
def AA.forgetT (A : AA) (t : Nat) : AA := AA.rec (motive := fun _ => AA) (fun g n k v r => ⟨g, n, k, v.put t none, filtR t r⟩) A
theorem filtR_get (t : Nat) : ∀ (l : List (Nat × Value)) (t' : Nat), recGet (filtR t l) t' = if t' = t then none else recGet l t'
  | [], t' => by
    show none = if t' = t then none else none
    split <;> rfl
  | p :: l, t' => by
    have ih := filtR_get t l t'
    show recGet (ite' (Nat.beq p.1 t) (filtR t l) (p :: filtR t l)) t' = if t' = t then none else ite' (Nat.beq p.1 t') (some p.2) (recGet l t')
    cases h : Nat.beq p.1 t with
    | true =>
      have e := Nat.eq_of_beq_eq_true h
      rw [ite'_true, ih]
      by_cases e2 : t' = t
      · rw [if_pos e2, if_pos e2]
      · rw [if_neg e2, if_neg e2, show Nat.beq p.1 t' = false from by
          cases h3 : Nat.beq p.1 t' with
          | false => rfl
          | true => exact absurd (e ▸ (Nat.eq_of_beq_eq_true h3).symm) e2]
    | false =>
      show ite' (Nat.beq p.1 t') (some p.2) (recGet (filtR t l) t') = _
      rw [ih]
      by_cases e2 : t' = t
      · rw [if_pos e2, if_pos e2, e2, h]
      · rw [if_neg e2, if_neg e2]
theorem AA.forgetT_spec (A : AA) (t : Nat) : (A.forgetT t).n = A.n ∧ (A.forgetT t).g = A.g ∧ ∀ t', (A.forgetT t).get t' = if t' = t then none else A.get t' := by
  obtain ⟨g, n, k, v, r⟩ := A
  refine ⟨rfl, rfl, fun t' => ?_⟩
  show ite' (bit k t') ((v.put t none).get t') (recGet (filtR t r) t') = if t' = t then none else ite' (bit k t') (v.get t') (recGet r t')
  rw [Tr.get_put, filtR_get]
  by_cases e : t' = t
  · rw [if_pos e, if_pos e, if_pos e]; cases bit k t' <;> rfl
  · rw [if_neg e, if_neg e, if_neg e]
theorem AR.forgetT {E : Env} {N : Nat} {A : AA} {a : Act} (h : AR ds E N A a) (t : Nat) : AR ds E N (A.forgetT t) a := by
  obtain ⟨h1, h2, h3⟩ := A.forgetT_spec t
  refine ⟨h.df, by rw [h1]; exact h.size, fun g hg => h.gl g (h2 ▸ hg), fun t' v hv => ?_⟩
  rw [h3] at hv
  split at hv
  · cases hv
  · exact h.tm t' v hv
def putA (A : AA) (d : Option Tmp) (v : Value) : Option AA := match d with
  | some d => A.set d v
  | none => some A
theorem AR.put {E : Env} {N : Nat} {A A' : AA} {a : Act} {d : Option Tmp} {v v' : Value} (h : AR ds E N A a) (hp : putA A d v = some A') (hv : VR E N v v') : AR ds E N A' (a.put d v') := by
  cases d with
  | none => cases hp; exact h
  | some t =>
    obtain ⟨h1, h2, h3, h4⟩ := AA.set_spec hp
    refine ⟨h.df, by rw [h2, ← h.size]; simp [Act.put], fun g hg => h.gl g (h3 ▸ hg), fun t' u hu => ?_⟩
    rw [h4] at hu
    have hs := h.size
    split at hu
    · rename_i e; subst e; cases hu
      exact ⟨v', by simp [Act.put, hs, h1], hv⟩
    · rename_i e
      obtain ⟨u', e1, r⟩ := h.tm t' u hu
      exact ⟨u', by simp [Act.put, Array.getElem?_setIfInBounds_ne (Ne.symm e)]; exact e1, r⟩
theorem plainL_ok {E : Env} {N : Nat} : ∀ {l : List Value}, plainL l = true → VL E N l l
  | [], _ => .nil
  | v :: l, h => by
    change ite' (plainV v) (plainL l) false = true at h
    cases hv : plainV v with
    | true => rw [hv] at h; exact .cons (.same hv) (plainL_ok h)
    | false => rw [hv] at h; cases h
theorem constOk_ok {E : Env} {N : Nat} {z : Value} (h : constOk z = true) : VR E N z z := by
  unfold constOk at h
  split at h
  · rename_i cs
    have := VR.agg (plainL_ok (E := E) (N := N) h)
    simpa using this
  · exact .same h
structure EvC where
  run : AA → Option Value
def evC (x : Operand) : EvC := match x with
  | .tmp t => ⟨fun A => AA.get A t⟩
  | .const v => ⟨fun _ => ite' (constOk v) (some v) none⟩
  | .global g => ⟨fun A => ite' (Nat.ble (Nat.succ g) A.g) (some (.pointer (some ⟨g, 0, none⟩))) none⟩
  | .func f => ⟨fun _ => some (.func (.func f) #[] #[])⟩
def ev (A : AA) (x : Operand) : Option Value := (evC x).run A
theorem ev_ok {E : Env} {N : Nat} {A : AA} {a : Act} (h : AR ds E N A a) {x : Operand} {v : Value} (hv : ev A x = some v) : VR E N v (a.eval x) := by
  cases x with
  | tmp t =>
    obtain ⟨v', e, r⟩ := h.tm t v hv
    show VR E N v (a.tmps.getD t undef)
    rw [Array.getD_eq_getD_getElem?, e]; exact r
  | const c =>
    have hv : ite' (constOk c) (some c) none = some v := hv
    obtain ⟨h1, h2⟩ := ite'_some hv
    cases h2; exact constOk_ok h1
  | global g =>
    have hv : ite' (Nat.ble (Nat.succ g) A.g) (some (.pointer (some ⟨g, 0, none⟩))) none = some v := hv
    obtain ⟨h1, h2⟩ := ite'_some hv
    cases h2
    have := h.gl g (Nat.le_of_ble_eq_true h1)
    have z := VR.ptr (E := E) (o := 0) this.2
    rw [this.1] at z; exact z
  | func f => cases hv; exact .same rfl
def evL (A : AA) (l : List Operand) : Option (List Value) := List.rec (motive := fun _ => Option (List Value)) (some []) (fun x _ ih => match ev A x with
  | some v => (match ih with
    | some l => some (v :: l)
    | none => none)
  | none => none) l
theorem evL_ok {E : Env} {N : Nat} {A : AA} {a : Act} (h : AR ds E N A a) : ∀ {l : List Operand} {vs : List Value}, evL A l = some vs → VL E N vs (l.map a.eval)
  | [], vs, hv => by cases hv; exact .nil
  | x :: l, vs, hv => by
    change (match ev A x with
      | some v => (match evL A l with
        | some l => some (v :: l)
        | none => none)
      | none => none) = some vs at hv
    cases h1 : ev A x with
    | none => rw [h1] at hv; cases hv
    | some v =>
      cases h2 : evL A l with
      | none => rw [h1, h2] at hv; cases hv
      | some l2 =>
        rw [h1, h2] at hv; cases hv
        exact .cons (ev_ok h h1) (evL_ok h h2)
def Cx.und (T : Cx) (t : TypeId) : Option TypeDesc :=
  match T.ty.get t with
  | some i => (match i.desc with
    | .named _ u => (match T.ty.get u with
      | some j => some j.desc
      | none => none)
    | d => some d)
  | none => none
theorem Fits.und {P : Program} {T : Cx} (h : Fits P T) {t : TypeId} {d : TypeDesc} (hd : T.und t = some d) : P.underlying t = some d := by
  unfold Cx.und at hd
  unfold Program.underlying
  split at hd
  · rename_i i hi
    rw [h.ty t i hi]
    split at hd
    · rename_i nm u hu
      split at hd
      · rename_i j hj
        cases hd
        obtain ⟨desc, a, b, c, d, e, f, g, k, m⟩ := i
        simp only at hu; subst hu
        simp [h.ty u j hj]
      · cases hd
    · cases hd
      rename_i hn
      obtain ⟨desc, a, b, c, d, e, f, g, k, m⟩ := i
      simp only at hn ⊢
      split
      · rename_i e1; cases e1; exact absurd rfl (hn _ _)
      · rename_i e1; cases e1; rfl
      · rename_i e1; cases e1
  · cases hd
abbrev OpF := Cx → AA → Hp → Option (Value × Hp)
def Sound (ds : List Deferred) (P : Program) (T : Cx) (o : Oper) (f : OpF) : Prop := ∀ (A : AA) (H : Hp) (v : Value) (H' : Hp), f T A H = some (v, H') → ∀ (E : Env) (a : Act) (w : World), AR ds E H.next A a → HRel E H w →
  ∃ E' v' w' n, (execOp a.eval o).run P w = .ok n w' ∧ (n = .value v' ∨ (n = .skip ∧ v' = undef)) ∧ Gd E E' H H' w w' ∧ VR E' H'.next v v' ∧ HRel E' H' w'
/-- an operation that leaves the heap as it is. -/
theorem sound_pure {P : Program} {o : Oper} {E : Env} {a : Act} {w : World} {H : Hp} {v v' : Value} (hr : HRel E H w) (h : (execOp a.eval o).run P w = .ok (.value v') w) (hv : VR E H.next v v') :
    ∃ E' v' w' n, (execOp a.eval o).run P w = .ok n w' ∧ (n = .value v' ∨ (n = .skip ∧ v' = undef)) ∧ Gd E E' H H w w' ∧ VR E' H.next v v' ∧ HRel E' H w' :=
  ⟨E, v', w, _, h, .inl rfl, Gd.refl _ _ _, hv, hr⟩
section
variable {E : Env} {N : Nat}
theorem VR.bool {b : Bool} {v : Value} (h : VR E N (.bool b) v) : v = .bool b := by cases h; rfl
theorem VR.int {k : IntKind} {n : Int} {v : Value} (h : VR E N (.int k n) v) : v = .int k n := by cases h; rfl
theorem VR.string {s : ByteArray} {v : Value} (h : VR E N (.string s) v) : v = .string s := by cases h; rfl
theorem VR.pnil {v : Value} (h : VR E N (.pointer none) v) : v = .pointer none := by cases h; rfl
theorem VR.niface {v : Value} (h : VR E N .nilIface v) : v = .nilIface := by cases h; rfl
theorem VR.mnil {v : Value} (h : VR E N (.map none) v) : v = .map none := by cases h; rfl
theorem VR.pptr {p : Addr} {v : Value} (h : VR E N (.pointer (some p)) v) : p.spot = none ∧ p.block < N ∧ v = .pointer (some ⟨E.s p.block, p.off, none⟩) := by
  cases h with
  | same h => cases h
  | ptr h => exact ⟨rfl, h, rfl⟩
theorem VR.snil {l c : Nat} {v : Value} (h : VR E N (.slice none l c) v) : l = 0 ∧ c = 0 ∧ v = .slice none 0 0 := by
  cases h with
  | same h =>
    rcases l with _ | l <;> rcases c with _ | c <;> first | exact ⟨rfl, rfl, rfl⟩ | exact absurd h (by simp [plainV])
theorem VR.sl {p : Addr} {l c : Nat} {v : Value} (h : VR E N (.slice (some p) l c) v) : p.spot = none ∧ p.block < N ∧ ∃ c', v = .slice (some ⟨E.s p.block, p.off, none⟩) l c' ∧ ((c < OPN ∧ c' = c) ∨ (OPN < c ∧ l ≤ c' ∧ p.off + c' * (c - OPN) = E.k p.block)) := by
  cases h with
  | same h => cases h
  | slice h hc => exact ⟨rfl, h, _, rfl, .inl ⟨hc, rfl⟩⟩
  | open_ h hc hl hk => exact ⟨rfl, h, _, rfl, .inr ⟨hc, hl, hk⟩⟩
theorem VR.ag {cs : Array Value} {v : Value} (h : VR E N (.agg cs) v) : ∃ l', v = .agg l'.toArray ∧ VL E N cs.toList l' := by
  cases h with
  | same h => cases h
  | agg h => exact ⟨_, rfl, h⟩
theorem VR.tup {cs : Array Value} {v : Value} (h : VR E N (.tuple cs) v) : ∃ l', v = .tuple l'.toArray ∧ VL E N cs.toList l' := by
  cases h with
  | same h => cases h
  | tuple h => exact ⟨_, rfl, h⟩
theorem VR.tl {v : Value} (h : VR E N (.chan none) v) : ∃ a c, v = .slice (some a) 0 c := by
  cases h with
  | same h => cases h
  | tail => exact ⟨_, _, rfl⟩
theorem VR.undef : VR E N Go.undef Go.undef := .tuple (l := []) (l' := []) .nil
end
/-- an operation that looks at no memory: what it yields it yields in every world. -/
def SoundP (ds : List Deferred) (P : Program) (T : Cx) (o : Oper) (f : OpF) : Prop := ∀ (A : AA) (H : Hp) (v : Value) (H' : Hp), f T A H = some (v, H') → ∀ (E : Env) (a : Act), AR ds E H.next A a →
  ∃ v', H' = H ∧ VR E H.next v v' ∧ ∀ w, (execOp a.eval o).run P w = .ok (.value v') w
theorem SoundP.sound {P : Program} {T : Cx} {o : Oper} {f : OpF} (h : SoundP ds P T o f) : Sound ds P T o f := fun A H v H' hf E a w ha hr => by
  obtain ⟨v', e, hv, hw⟩ := h A H v H' hf E a ha
  subst e
  exact sound_pure hr (hw w) hv
theorem pure_ok {P : Program} {o : Oper} {E : Env} {a : Act} {H : Hp} {v v' : Value} (h : ∀ w, (execOp a.eval o).run P w = .ok (.value v') w) (hv : VR E H.next v v') :
    ∃ v', H = H ∧ VR E H.next v v' ∧ ∀ w, (execOp a.eval o).run P w = .ok (.value v') w := ⟨v', rfl, hv, h⟩
def o_move (x : Operand) : OpF := fun _ A H => match ev A x with
  | some v => some (v, H)
  | none => none
theorem move_ok {P : Program} {T : Cx} {o : Oper} {x : Operand} (h : o.op = .move x ∨ o.op = .assign x) : SoundP ds P T o (o_move x) := fun A H v H' hf E a ha => by
  unfold o_move at hf
  split at hf
  · rename_i u hu; cases hf
    refine pure_ok (fun w => ?_) (ev_ok ha hu)
    rcases h with h | h <;> simp [execOp, h, Sem.run, pure]
  · cases hf
def o_pick (c x y : Operand) : OpF := fun _ A H => match ev A c with
  | some (.bool b) => (match ite' b (ev A x) (ev A y) with
    | some v => some (v, H)
    | none => none)
  | _ => none
theorem pick_ok {P : Program} {T : Cx} {o : Oper} {c x y : Operand} (h : o.op = .pick c x y) : SoundP ds P T o (o_pick c x y) := fun A H v H' hf E a ha => by
  unfold o_pick at hf
  split at hf
  · rename_i b hb
    split at hf
    · rename_i u hu; cases hf
      have hc2 : a.eval c = .bool b := (ev_ok ha hb).bool
      refine pure_ok (v' := if b then a.eval x else a.eval y) (fun w => ?_) ?_
      · simp [execOp, h, hc2, asBool, Sem.run, pure, bind, Sem.bind]
      · cases b
        · exact ev_ok ha hu
        · exact ev_ok ha hu
    · cases hf
  · cases hf
end
end Go.Proofs.YtanhkchpffkloaaGreatDoor
