import Derived.Test.YtcpghlilbohohaaGreatDoorEq7
namespace Go.Proofs.YtcpghlilbohohaaGreatDoor
open Go Go.RowKit
set_option linter.unusedVariables false
set_option linter.unusedSimpArgs false
noncomputable section
/-! ### checkpoints: a run in pieces -/
/-- this piece of code comes to this. -/
def CodeGood (P : Program) (c : Code) (A : AA) (H : Hp) (e : Ex) (A' : AA) (H' : Hp) : Prop := ∀ (ds : List Deferred) (ro : Option Nat), (ro = none ∨ nrCode c = true) → ∀ (E : Env) (a : Act) (w : World), AR ds E H.next A a → HRel E H w → wpR ro P c (PostM ds e A' H' E H w) a w
def BSub (x y : Blk) : Prop := match x with
  | .row c n e o => ∃ c', y = .row c' n e o ∧ ∀ i v, c.get i = some v → c'.get i = some v
  | .map es k => y = .map es k
  | .siter s p => y = .siter s p
  | .rom c => ∃ c', y = .rom c' ∧ ∀ i v, c.get i = some v → c'.get i = some v
/-- less is known. -/
structure Sub (A1 : AA) (H1 : Hp) (A : AA) (H : Hp) : Prop where
  n : A1.n = A.n
  g : A1.g = A.g
  tm : ∀ t v, A1.get t = some v → A.get t = some v
  next : H.next ≤ H1.next
  bl : ∀ b x, H1.b.get b = some x → ∃ y, H.b.get b = some y ∧ BSub x y
theorem BSub.wr {x y : Blk} (h : BSub x y) : wr x = wr y := by
  cases x with
  | row c n e o => obtain ⟨c', rfl, _⟩ := h; rfl
  | map es k => cases h; rfl
  | siter s p => cases h; rfl
  | rom c => obtain ⟨c', rfl, _⟩ := h; rfl
theorem BSub.br {E : Env} {N b : Nat} {x y : Blk} {o : Option Obj} (h : BSub x y) (hb : BR E N b y o) : BR E N b x o := by
  cases x with
  | row c n e op =>
    obtain ⟨c', rfl, hc⟩ := h
    obtain ⟨cs, fz, h1, h2, h3, h4, h5⟩ := hb
    exact ⟨cs, fz, h1, h2, h3, h4, fun i v hi hv => h5 i v hi (hc i v hv)⟩
  | map es k => cases h; exact hb
  | siter s p => cases h; exact hb
  | rom c =>
    obtain ⟨c', rfl, hc⟩ := h
    obtain ⟨cs, e, fz, h1, h2⟩ := hb
    exact ⟨cs, e, fz, h1, fun i v hv => h2 i v (hc i v hv)⟩
theorem Sub.ar {A1 A : AA} {H1 H : Hp} (s : Sub A1 H1 A H) {ds : List Deferred} {E : Env} {a : Act} (h : AR ds E H.next A a) : AR ds E H1.next A1 a := by
  have h2 := h.mono (Agree.refl E H.next) s.next
  exact ⟨h2.df, h2.size.trans s.n.symm, fun g hg => h2.gl g (by rw [← s.g]; exact hg), fun t v hv => h2.tm t v (s.tm t v hv)⟩
theorem Sub.hr {A1 A : AA} {H1 H : Hp} (s : Sub A1 H1 A H) {E : Env} {w : World} (h : HRel E H w) : HRel E H1 w := by
  refine ⟨fun b x hb => ?_, fun b x hb => ?_, fun b b' x x' h1 h2 he => ?_⟩
  · obtain ⟨y, hy, _⟩ := s.bl b x hb
    exact Nat.lt_of_lt_of_le (h.lt b y hy) s.next
  · obtain ⟨y, hy, hs⟩ := s.bl b x hb
    exact hs.br ((h.rel b y hy).mono (Agree.refl _ _) s.next (h.lt b y hy))
  · obtain ⟨y, hy, _⟩ := s.bl b x h1
    obtain ⟨y', hy', _⟩ := s.bl b' x' h2
    exact h.inj _ _ _ _ hy hy' he
theorem Sub.gd {A1 A : AA} {H1 H : Hp} (s : Sub A1 H1 A H) {E E' : Env} {H0 : Hp} {w0 w : World} (g : Gd E E' H0 H w0 w) : Gd E E' H0 H1 w0 w :=
  ⟨Nat.le_trans g.le s.next, g.ag, fun b x hb => by
    obtain ⟨y, hy, hs⟩ := s.bl b x hb
    rcases g.dom b y hy with ⟨b0, x0, h1, h2, h3⟩ | h1
    · exact .inl ⟨b0, x0, h1, fun hw => h2 (by rw [← hs.wr]; exact hw), h3⟩
    · exact .inr h1, g.os, g.tape, g.output, g.size, g.frame⟩
theorem Sub.post {A1 A : AA} {H1 H : Hp} (s : Sub A1 H1 A H) {ds : List Deferred} {e : Ex} {E : Env} {H0 : Hp} {w0 : World} {x : Exit} {a : Act} {w : World} (h : PostM ds e A H E H0 w0 x a w) : PostM ds e A1 H1 E H0 w0 x a w := by
  obtain ⟨h1, E', ms, g, ha, hr, hm⟩ := h
  exact ⟨h1, E', ms, s.gd g, s.ar ha, s.hr hr, hm⟩
section
variable {P : Program} {c c1 c2 : Code} {A A1 A2 A' : AA} {H H1 H2 H' : Hp} {e : Ex}
theorem CodeGood.weak (h : CodeGood P c A H e A1 H1) (s : Sub A2 H2 A1 H1) : CodeGood P c A H e A2 H2 := fun ds ro hro E a w ha hr => wpR_mono (h ds ro hro E a w ha hr) fun _ _ _ hp => s.post hp
theorem CodeGood.seq (h1 : CodeGood P c1 A H .normal A1 H1) (h2 : CodeGood P c2 A1 H1 e A2 H2) : CodeGood P (.seq c1 c2) A H e A2 H2 := fun ds ro hro E a w ha hr => by
  have hro1 : ro = none ∨ nrCode c1 = true := hro.imp id fun hh => (ite'_true_eq (show ite' (nrCode c1) (nrCode c2) false = true from hh)).1
  have hro2 : ro = none ∨ nrCode c2 = true := hro.imp id fun hh => (ite'_true_eq (show ite' (nrCode c1) (nrCode c2) false = true from hh)).2
  refine wpR_seq (wpR_mono (h1 ds ro hro1 E a w ha hr) fun x a1 w1 hp => ?_)
  obtain ⟨hx, E1, ms1, g1, ha1, hr1, hk1⟩ := hp
  subst hx
  exact wpR_mono (h2 _ ro hro2 E1 a1 w1 ha1 hr1) fun x2 a2 w2 hp2 => PostM.comp g1 hr1 hk1 hp2
theorem CodeGood.seqL (hne : e ≠ .normal) (h1 : CodeGood P c1 A H e A1 H1) : CodeGood P (.seq c1 c2) A H e A1 H1 := fun ds ro hro E a w ha hr => by
  have hro1 : ro = none ∨ nrCode c1 = true := hro.imp id fun hh => (ite'_true_eq (show ite' (nrCode c1) (nrCode c2) false = true from hh)).1
  refine wpR_seq (wpR_mono (h1 ds ro hro1 E a w ha hr) fun x a1 w1 hp => ?_)
  have hx := hp.1
  subst hx
  cases e with
  | normal => exact absurd rfl hne
  | exit id => exact hp
  | ret => exact hp
theorem CodeGood.cond {x : Operand} {b : Bool} (hb : ev A x = some (.bool b)) (h : CodeGood P (if b then c1 else c2) A H e A1 H1) : CodeGood P (.cond x c1 c2) A H e A1 H1 := fun ds ro hro E a w ha hr => by
  have hc : a.eval x = .bool b := (ev_ok ha hb).bool
  refine wpR_cond hc ?_
  refine h ds ro ?_ E a w ha hr
  refine hro.imp id fun hh => ?_
  have hh2 := ite'_true_eq (show ite' (nrCode c1) (nrCode c2) false = true from hh)
  cases b
  · exact hh2.2
  · exact hh2.1
theorem CodeGood.block {id : Nat} (hne : ∀ j, e ≠ .exit j) (h : CodeGood P c A H e A1 H1) : CodeGood P (.block id c) A H e A1 H1 := fun ds ro hro E a w ha hr => by
  refine wpR_block (wpR_mono (h ds ro hro E a w ha hr) fun x a1 w1 hp => ?_)
  have hx := hp.1
  subst hx
  cases e with
  | normal => exact hp
  | exit j => exact absurd rfl (hne j)
  | ret => exact hp
theorem CodeGood.blockE {id : Nat} (h : CodeGood P c A H (.exit id) A1 H1) : CodeGood P (.block id c) A H .normal A1 H1 := fun ds ro hro E a w ha hr => by
  refine wpR_block (wpR_mono (h ds ro hro E a w ha hr) fun x a1 w1 hp => ?_)
  have hx := hp.1
  subst hx
  show (if id = id then _ else _)
  rw [if_pos rfl]
  exact ⟨rfl, hp.2⟩
/-- .. a loop. -/
def LoopGood (P : Program) (b : Code) (A : AA) (H : Hp) (e : Ex) (A' : AA) (H' : Hp) : Prop := ∃ m, ∀ (ds : List Deferred) (ro : Option Nat), (ro = none ∨ nrCode b = true) → ∀ (E : Env) (a : Act) (w : World), AR ds E H.next A a → HRel E H w → roundsR ro P b (PostM ds e A' H' E H w) m a w
theorem LoopGood.code (h : LoopGood P c A H e A1 H1) : CodeGood P (.loop c) A H e A1 H1 := fun ds ro hro E a w ha hr => by
  obtain ⟨m, hm⟩ := h
  exact wpR_loop_rounds m (hm ds ro hro E a w ha hr)
theorem LoopGood.round (h1 : CodeGood P c A H .normal A1 H1) (h2 : LoopGood P c A1 H1 e A2 H2) : LoopGood P c A H e A2 H2 := by
  obtain ⟨m, hm⟩ := h2
  refine ⟨m + 1, fun ds ro hro E a w ha hr => ?_⟩
  show wpR ro P c (Exit.then (roundsR ro P c _ _) _) a w
  refine wpR_mono (h1 ds ro hro E a w ha hr) fun x a1 w1 hp => ?_
  obtain ⟨hx, E1, ms1, g1, ha1, hr1, hk1⟩ := hp
  subst hx
  exact roundsR_mono (fun x2 a2 w2 hp2 => PostM.comp g1 hr1 hk1 hp2) m _ _ (hm _ ro hro E1 a1 w1 ha1 hr1)
theorem LoopGood.out (hne : e ≠ .normal) (h1 : CodeGood P c A H e A1 H1) : LoopGood P c A H e A1 H1 := by
  refine ⟨1, fun ds ro hro E a w ha hr => ?_⟩
  show wpR ro P c (Exit.then (roundsR ro P c _ _) _) a w
  refine wpR_mono (h1 ds ro hro E a w ha hr) fun x a1 w1 hp => ?_
  have hx := hp.1
  subst hx
  cases e with
  | normal => exact absurd rfl hne
  | exit id => exact hp
  | ret => exact hp
theorem LoopGood.weak (h : LoopGood P c A H e A1 H1) (s : Sub A2 H2 A1 H1) : LoopGood P c A H e A2 H2 := by
  obtain ⟨m, hm⟩ := h
  exact ⟨m, fun ds ro hro E a w ha hr => roundsR_mono (fun _ _ _ hp => s.post hp) m _ _ (hm ds ro hro E a w ha hr)⟩
end
/-- several rounds. -/
def iterStep (rest : AA → Hp → Out) (r : Out) : Out := match r with
  | .code .normal A H => rest A H
  | r => r
def iterN (ih : Cmd → Out) (b : Code) (j : Nat) : AA → Hp → Out := Nat.rec (motive := fun _ => AA → Hp → Out) (fun A H => .code .normal A H) (fun _ rest A H => iterStep rest (ih (.code b A H))) j
/-- several pieces, one behind the other. -/
def partsN (ih : Cmd → Out) (l : List Code) : AA → Hp → Out := List.rec (motive := fun _ => AA → Hp → Out) (fun A H => .code .normal A H) (fun c _ rest A H => iterStep rest (ih (.code c A H))) l
def seqL (l : List Code) (r : Code) : Code := List.rec (motive := fun _ => Code) r (fun c _ ih => .seq c ih) l
/-! #### a state as data -/
inductive CB where
  | row (r : VRow)
  | map (b : Nat) (es : List MapEntry) (k : Nat)
structure St8 where
  g : Nat
  n : Nat
  k : Nat
  ts : List (Nat × Value)
  rs : List (Nat × Value)
  bs : List CB
  next : Nat
def layT (l : List (Nat × Value)) : Tr Value := List.rec (motive := fun _ => Tr Value) .nil (fun p _ ih => ih.put p.1 (some p.2)) l
def St8.A (s : St8) : AA := ⟨s.g, s.n, s.k, layT s.ts, s.rs⟩
def CB.put (c : CB) (t : Tr Blk) : Tr Blk := match c with
  | .row r => t.put r.b (some r.blk)
  | .map b es k => t.put b (some (.map es k))
def putC (l : List CB) (t : Tr Blk) : Tr Blk := List.rec (motive := fun _ => Tr Blk) t (fun c _ ih => c.put ih) l
def St8.H (s : St8) (tabs : List (Nat × List Value)) : Hp := ⟨putC s.bs (romT tabs), s.next⟩
theorem layT_get : ∀ {l : List (Nat × Value)} {t : Nat} {v : Value}, (layT l).get t = some v → (t, v) ∈ l
  | [], t, v, h => by cases h
  | p :: l, t, v, h => by
    change ((layT l).put p.1 (some p.2)).get t = some v at h
    rw [Tr.get_put] at h
    split at h
    · rename_i e; subst e; cases h; exact List.mem_cons_self ..
    · exact List.mem_cons_of_mem _ (layT_get h)
theorem recGet_mem : ∀ {l : List (Nat × Value)} {t : Nat} {v : Value}, recGet l t = some v → (t, v) ∈ l
  | [], t, v, h => by cases h
  | p :: l, t, v, h => by
    change ite' (Nat.beq p.1 t) (some p.2) (recGet l t) = some v at h
    cases hb : Nat.beq p.1 t with
    | true =>
      rw [hb] at h; cases h
      have := Nat.eq_of_beq_eq_true hb
      subst this
      exact List.mem_cons_self ..
    | false => rw [hb] at h; exact List.mem_cons_of_mem _ (recGet_mem h)
def cbOk (H : Hp) (c : CB) : Bool := match c with
  | .row r => (match H.b.get r.b with
    | some (.row c n e o) => andB (Nat.beq n r.l.length) (andB (Nat.beq e r.e) (andB (ite' o r.o (Bool.not r.o)) (romLe c r.l 0)))
    | _ => false)
  | .map b es k => (match H.b.get b with
    | some (.map es' k') => andB (esEq es es') (Nat.beq k k')
    | _ => false)
def cbsOk (H : Hp) (l : List CB) : Bool := List.rec (motive := fun _ => Bool) true (fun c _ ih => ite' (cbOk H c) ih false) l
def tsOk (A : AA) (l : List (Nat × Value)) : Bool := List.rec (motive := fun _ => Bool) true (fun p _ ih => match A.get p.1 with
  | some v => ite' (eqD v p.2) ih false
  | none => false) l
def subB (tabs : List (Nat × List Value)) (s : St8) (A : AA) (H : Hp) : Bool := andB (Nat.beq s.n A.n) (andB (Nat.beq s.g A.g) (andB (Nat.ble H.next s.next) (andB (ite' (tsOk A s.ts) (tsOk A s.rs) false) (andB (cbsOk H s.bs) (romsOk H tabs)))))
theorem tsOk_mem {A : AA} : ∀ {l : List (Nat × Value)}, tsOk A l = true → ∀ p ∈ l, A.get p.1 = some p.2
  | [], _, p, hp => by cases hp
  | q :: l, h, p, hp => by
    change (match A.get q.1 with
      | some v => ite' (eqD v q.2) (tsOk A l) false
      | none => false) = true at h
    split at h
    · rename_i v hv
      obtain ⟨h1, h2⟩ := ite'_true_eq h
      rcases List.mem_cons.1 hp with e | e
      · subst e; rw [hv, eqD_eq h1]
      · exact tsOk_mem h2 p e
    · cases h
theorem putC_get {t : Tr Blk} {b : Nat} {x : Blk} : ∀ {l : List CB}, (putC l t).get b = some x → (∃ r, CB.row r ∈ l ∧ r.b = b ∧ x = r.blk) ∨ (∃ es k, CB.map b es k ∈ l ∧ x = .map es k) ∨ t.get b = some x
  | [], h => .inr (.inr h)
  | c :: l, h => by
    have rst : (putC l t).get b = some x → (∃ r, CB.row r ∈ c :: l ∧ r.b = b ∧ x = r.blk) ∨ (∃ es k, CB.map b es k ∈ c :: l ∧ x = .map es k) ∨ t.get b = some x := fun h2 => by
      rcases putC_get h2 with ⟨r, h1, h3⟩ | ⟨es, k, h1, h3⟩ | h1
      · exact .inl ⟨r, List.mem_cons_of_mem _ h1, h3⟩
      · exact .inr (.inl ⟨es, k, List.mem_cons_of_mem _ h1, h3⟩)
      · exact .inr (.inr h1)
    change (c.put (putC l t)).get b = some x at h
    cases c with
    | row r =>
      change ((putC l t).put r.b (some r.blk)).get b = some x at h
      rw [Tr.get_put] at h
      split at h
      · rename_i e; cases h
        exact .inl ⟨r, List.mem_cons_self .., e.symm, rfl⟩
      · exact rst h
    | map b2 es k =>
      change ((putC l t).put b2 (some (.map es k))).get b = some x at h
      rw [Tr.get_put] at h
      split at h
      · rename_i e; subst e; cases h
        exact .inr (.inl ⟨es, k, List.mem_cons_self .., rfl⟩)
      · exact rst h
theorem cbsOk_mem {H : Hp} : ∀ {l : List CB}, cbsOk H l = true → ∀ c ∈ l, cbOk H c = true
  | [], _, c, hc => by cases hc
  | q :: l, h, c, hc => by
    obtain ⟨h1, h2⟩ := ite'_true_eq (show ite' (cbOk H q) (cbsOk H l) false = true from h)
    rcases List.mem_cons.1 hc with e | e
    · subst e; exact h1
    · exact cbsOk_mem h2 c e
theorem subB_ok {tabs : List (Nat × List Value)} {s : St8} {A : AA} {H : Hp} (h : subB tabs s A H = true) : Sub s.A (s.H tabs) A H := by
  obtain ⟨h1, h⟩ := andB_iff.1 h
  obtain ⟨h2, h⟩ := andB_iff.1 h
  obtain ⟨h3, h⟩ := andB_iff.1 h
  obtain ⟨h4, h⟩ := andB_iff.1 h
  obtain ⟨h5, h6⟩ := andB_iff.1 h
  refine ⟨Nat.eq_of_beq_eq_true h1, Nat.eq_of_beq_eq_true h2, fun t v ht => ?_, Nat.le_of_ble_eq_true h3, fun b x hx => ?_⟩
  · rw [AA.get_eq] at ht
    change ite' (bit s.k t) ((layT s.ts).get t) (recGet s.rs t) = some v at ht
    obtain ⟨h41, h42⟩ := ite'_true_eq h4
    cases hb : bit s.k t with
    | true =>
      rw [hb, ite'_true] at ht
      exact tsOk_mem h41 (t, v) (layT_get ht)
    | false =>
      rw [hb, ite'_false] at ht
      exact tsOk_mem h42 (t, v) (recGet_mem ht)
  · rcases putC_get hx with ⟨r, hm, e1, e2⟩ | ⟨es, k, hm, e2⟩ | hx
    · subst e1 e2
      have hc : (match H.b.get r.b with
        | some (.row c n e o) => andB (Nat.beq n r.l.length) (andB (Nat.beq e r.e) (andB (ite' o r.o (Bool.not r.o)) (romLe c r.l 0)))
        | _ => false) = true := cbsOk_mem h5 _ hm
      split at hc
      · rename_i c n e o hb
        obtain ⟨k1, b⟩ := andB_iff.1 hc
        obtain ⟨k2, b⟩ := andB_iff.1 b
        obtain ⟨k3, k4⟩ := andB_iff.1 b
        have e1 := Nat.eq_of_beq_eq_true k1
        have e2 := Nat.eq_of_beq_eq_true k2
        have e3 : o = r.o := by cases o <;> cases hro : r.o <;> rw [hro] at k3 <;> first | rfl | cases k3
        subst e1 e2 e3
        refine ⟨_, hb, c, rfl, fun i v hv => ?_⟩
        rw [Tr.get_lay] at hv
        split at hv
        · have := romLe_ok k4 i v (by simpa using hv); rwa [Nat.zero_add] at this
        · cases hv
      · cases hc
    · subst e2
      have hc : (match H.b.get b with
        | some (.map es' k') => andB (esEq es es') (Nat.beq k k')
        | _ => false) = true := cbsOk_mem h5 _ hm
      split at hc
      · rename_i es' k' hb
        obtain ⟨k1, k2⟩ := andB_iff.1 hc
        have e1 := esEq_ok k1
        have e2 := Nat.eq_of_beq_eq_true k2
        subst e1 e2
        exact ⟨_, hb, rfl⟩
      · cases hc
    · obtain ⟨l, hm, e2⟩ := romT_get hx
      subst e2
      obtain ⟨c, hb, hv⟩ := romsOk_ok h6 _ hm
      refine ⟨_, hb, c, rfl, fun i v hiv => ?_⟩
      rw [Tr.get_lay] at hiv
      split at hiv
      · exact hv i v (by simpa using hiv)
      · cases hiv
/-! #### pieces that are run -/
def isCp (tabs : List (Nat × List Value)) (s : St8) (o : Out) : Bool := match o with
  | .code .normal A H => subB tabs s A H
  | _ => false
def isCpE (tabs : List (Nat × List Value)) (s : St8) (i : Nat) (o : Out) : Bool := match o with
  | .code (.exit j) A H => ite' (Nat.beq i j) (subB tabs s A H) false
  | _ => false
theorem isCpE_out {tabs : List (Nat × List Value)} {s : St8} {i : Nat} {o : Out} (h : isCpE tabs s i o = true) : ∃ A' H', o = .code (.exit i) A' H' ∧ subB tabs s A' H' = true := by
  unfold isCpE at h
  split at h
  · obtain ⟨h1, h2⟩ := ite'_true_eq h
    rw [Nat.eq_of_beq_eq_true h1]
    exact ⟨_, _, rfl, h2⟩
  · cases h
theorem isCp_out {tabs : List (Nat × List Value)} {s : St8} {o : Out} (h : isCp tabs s o = true) : ∃ A' H', o = .code .normal A' H' ∧ subB tabs s A' H' = true := by
  unfold isCp at h
  split at h
  · exact ⟨_, _, rfl, h⟩
  · cases h
section
variable {P : Program} {T : Cx} (hCD : ∀ n, CallsOk P T (evN T n) ∧ CodesOk P T (evN T n) ∧ LoopsOk P T (evN T n))
include hCD
theorem good_ev {n : Nat} {c : Code} {A A' : AA} {H H' : Hp} {e : Ex} (h : evN T n (.code c A H) = .code e A' H') (hnd : ndCode c = true) : CodeGood P c A H e A' H' := (hCD n).2.1 c A H e A' H' h hnd
theorem loop_ev {n : Nat} {c : Code} {A A' : AA} {H H' : Hp} {e : Ex} (h : evN T n (.code (.loop c) A H) = .code e A' H') (hnd : ndCode c = true) : LoopGood P c A H e A' H' := (hCD n).2.2 c A H e A' H' h hnd
theorem good_cp {tabs : List (Nat × List Value)} {s : St8} {n : Nat} {c : Code} {A : AA} {H : Hp} (h : isCp tabs s (evN T n (.code c A H)) = true) (hnd : ndCode c = true) : CodeGood P c A H .normal s.A (s.H tabs) := by
  obtain ⟨A', H', e, h2⟩ := isCp_out h
  exact (good_ev hCD e hnd).weak (subB_ok h2)
theorem rounds_cp {tabs : List (Nat × List Value)} {s : St8} {n : Nat} {c : Code} (hnd : ndCode c = true) {e : Ex} {A2 : AA} {H2 : Hp} (hL : LoopGood P c s.A (s.H tabs) e A2 H2) : ∀ (j : Nat) {A : AA} {H : Hp}, isCp tabs s (iterN (evN T n) c (j + 1) A H) = true → LoopGood P c A H e A2 H2
  | 0, A, H, h => by
    change isCp tabs s (iterStep (fun A H => .code .normal A H) (evN T n (.code c A H))) = true at h
    unfold iterStep at h
    split at h
    · rename_i A1 H1 h1
      exact LoopGood.round ((good_ev hCD h1 hnd).weak (subB_ok h)) hL
    · rename_i hne
      obtain ⟨A', H', e, _⟩ := isCp_out h
      exact absurd e (hne _ _)
  | j + 1, A, H, h => by
    change isCp tabs s (iterStep (iterN (evN T n) c (j + 1)) (evN T n (.code c A H))) = true at h
    unfold iterStep at h
    split at h
    · rename_i A1 H1 h1
      exact LoopGood.round (good_ev hCD h1 hnd) (rounds_cp hnd hL j h)
    · rename_i hne
      obtain ⟨A', H', e, _⟩ := isCp_out h
      exact absurd e (hne _ _)
theorem parts_cp {tabs : List (Nat × List Value)} {s : St8} {n : Nat} {r : Code} {e : Ex} {A2 : AA} {H2 : Hp} (hr : CodeGood P r s.A (s.H tabs) e A2 H2) : ∀ {l : List Code} {A : AA} {H : Hp}, (∀ c ∈ l, ndCode c = true) → l ≠ [] → isCp tabs s (partsN (evN T n) l A H) = true → CodeGood P (seqL l r) A H e A2 H2
  | [], _, _, _, h0, _ => absurd rfl h0
  | [c], A, H, hnd, _, h => by
    change isCp tabs s (iterStep (fun A H => .code .normal A H) (evN T n (.code c A H))) = true at h
    unfold iterStep at h
    split at h
    · rename_i A1 H1 h1
      exact CodeGood.seq ((good_ev hCD h1 (hnd c (List.mem_cons_self ..))).weak (subB_ok h)) hr
    · rename_i hne
      obtain ⟨A', H', e, _⟩ := isCp_out h
      exact absurd e (hne _ _)
  | c :: c2 :: l, A, H, hnd, _, h => by
    change isCp tabs s (iterStep (partsN (evN T n) (c2 :: l)) (evN T n (.code c A H))) = true at h
    unfold iterStep at h
    split at h
    · rename_i A1 H1 h1
      exact CodeGood.seq (good_ev hCD h1 (hnd c (List.mem_cons_self ..))) (parts_cp hr (fun c' hc' => hnd c' (List.mem_cons_of_mem _ hc')) (by simp) h)
    · rename_i hne
      obtain ⟨A', H', e, _⟩ := isCp_out h
      exact absurd e (hne _ _)
theorem loop_cp {tabs : List (Nat × List Value)} {s : St8} {n i : Nat} {c : Code} {A : AA} {H : Hp} (h : isCpE tabs s i (evN T n (.code (.loop c) A H)) = true) (hnd : ndCode c = true) : LoopGood P c A H (.exit i) s.A (s.H tabs) := by
  obtain ⟨A', H', e, h2⟩ := isCpE_out h
  exact (loop_ev hCD e hnd).weak (subB_ok h2)
end
/-! #### a region in pieces (one that asks for no order) -/
def OpsGood (P : Program) (ops : Array Oper) (k : Nat) (A : AA) (H : Hp) (A' : AA) (H' : Hp) : Prop := ∀ (ds : List Deferred) (E : Env) (a : Act) (w : World), AR ds E H.next A a → HRel E H w → ∀ {Q : Exit → Act → World → Prop}, (∀ E1 a1 w1, Gd E E1 H H' w w1 → AR ds E1 H'.next A' a1 → HRel E1 H' w1 → Q .normal a1 w1) → wpOps P ops Q (List.range' k (ops.size - k)) a w
theorem OpsGood.region {P : Program} {id : Nat} {ops : Array Oper} {A A' : AA} {H H' : Hp} (hnd : ndOps ops.toList = true) (h : OpsGood P ops 0 A.fresh H A' H') : CodeGood P (.region id ops false) A H .normal A' H' := fun ds ro hro E a w ha hr => by
  refine wpR_mono (wpR_region (noDefer_of hnd) (post_stays (ds := ds) (e := .normal) (A' := A') (H' := H') (E := E) (H := H) (w := w)) ?_) fun _ _ _ hp => hp.m
  have := h ds E a w ha.fresh hr (Q := Post ds .normal A' H' E H w) fun E1 a1 w1 g ha1 hr1 => ⟨rfl, E1, g, ha1, hr1⟩
  rw [Nat.sub_zero] at this
  rw [List.range_eq_range']
  exact this
theorem seg_ok {P : Program} {T : Cx} (hT : Fits P T) {ih : Cmd → Out} (hih : CallsOk P T ih) {ops : Array Oper} {id : Nat} {A' A2 : AA} {H' H2 : Hp} : ∀ (m k : Nat) {A : AA} {H : Hp}, k + m ≤ ops.size → runOps T ih ops.toList id ((ops.toList.drop k).take m) A H = .code .normal A' H' → OpsGood P ops (k + m) A' H' A2 H2 → OpsGood P ops k A H A2 H2
  | 0, k, A, H, hk, h, hg => by
    rw [List.take_zero, runOps_nil] at h
    cases h
    exact hg
  | m + 1, k, A, H, hk, h, hg => fun ds E a w ha hr Q hQ => by
    have hlt : k < ops.size := by omega
    rw [List.drop_eq_getElem_cons (by simpa using hlt), List.take_succ_cons, runOps_cons] at h
    simp only [Array.getElem_toList] at h
    have hn : ops.size - k = (ops.size - (k + 1)) + 1 := by omega
    rw [hn, List.range'_succ]
    unfold wpOps
    rw [Array.getElem?_eq_getElem hlt]
    simp only
    have next : ∀ E1 A1 H1 a1 w1, runOps T ih ops.toList id ((ops.toList.drop (k + 1)).take m) A1 H1 = .code .normal A' H' → Gd E E1 H H1 w w1 → AR ds E1 H1.next A1 a1 → HRel E1 H1 w1 → wpOps P ops Q (List.range' (k + 1) (ops.size - (k + 1))) a1 w1 := fun E1 A1 H1 a1 w1 hh g ha1 hr1 => by
      have hg2 : OpsGood P ops (k + 1) A1 H1 A2 H2 := seg_ok hT hih m (k + 1) (by omega) hh (by rw [show k + 1 + m = k + (m + 1) from by omega]; exact hg)
      exact hg2 ds E1 a1 w1 ha1 hr1 fun E2 a2 w2 g2 ha2 hr2 => hQ E2 a2 w2 (g.trans g2) ha2 hr2
    cases hw : wantedA ops.toList A ops[k] with
    | none => rw [hw] at h; cases h
    | some b =>
      rw [hw] at h
      have hwant := wantedA_ok ha hw
      cases b with
      | true =>
        rw [hwant, if_pos rfl]
        exact .inl (doOp_ok hT hih h ha hr next)
      | false =>
        rw [hwant, if_neg (by simp)]
        obtain ⟨A1, hp, hrest⟩ := put1_ok h
        exact next E A1 H _ _ hrest (Gd.refl _ _ _) (ha.put hp VR.undef) hr
theorem OpsGood.weakL {P : Program} {ops : Array Oper} {k : Nat} {A A1 A2 : AA} {H H1 H2 : Hp} (s : Sub A1 H1 A H) (h : OpsGood P ops k A1 H1 A2 H2) : OpsGood P ops k A H A2 H2 := fun ds E a w ha hr Q hQ =>
  h ds E a w (s.ar ha) (s.hr hr) fun E1 a1 w1 g ha1 hr1 => hQ E1 a1 w1 ⟨Nat.le_trans s.next g.le, fun b hb => g.ag b (Nat.lt_of_lt_of_le hb s.next), fun b x hb => by
    rcases g.dom b x hb with ⟨b0, x0, k1, k2, k3⟩ | k1
    · obtain ⟨y, hy, hs⟩ := s.bl b0 x0 k1
      exact .inl ⟨b0, y, hy, fun hw => by rw [← hs.wr]; exact k2 hw, k3⟩
    · exact .inr k1, g.os, g.tape, g.output, g.size, fun i hi hf => g.frame i hi fun b x hb hwx => by
      obtain ⟨y, hy, hs⟩ := s.bl b x hb
      exact hf b y hy (by rw [← hs.wr]; exact hwx)⟩ ha1 hr1
theorem seg_end {P : Program} {T : Cx} (hT : Fits P T) {ih : Cmd → Out} (hih : CallsOk P T ih) {ops : Array Oper} {id k : Nat} {A A' : AA} {H H' : Hp} (hk : k ≤ ops.size) (h : runOps T ih ops.toList id (ops.toList.drop k) A H = .code .normal A' H') : OpsGood P ops k A H A' H' := fun ds E a w ha hr Q hQ =>
  runOps_ok hT hih k h ha hr (fun E1 a1 w1 _ g ha1 hr1 => hQ E1 a1 w1 g ha1 hr1) hk
theorem seg_cp {P : Program} {T : Cx} (hT : Fits P T) {ih : Cmd → Out} (hih : CallsOk P T ih) {ops : Array Oper} {id : Nat} {tabs : List (Nat × List Value)} {s : St8} {A2 : AA} {H2 : Hp} (m k : Nat) {A : AA} {H : Hp} (hk : k + m ≤ ops.size) (h : isCp tabs s (runOps T ih ops.toList id ((ops.toList.drop k).take m) A H) = true) (hg : OpsGood P ops (k + m) s.A (s.H tabs) A2 H2) : OpsGood P ops k A H A2 H2 := by
  obtain ⟨A', H', e, h2⟩ := isCp_out h
  exact seg_ok hT hih m k hk e (OpsGood.weakL (subB_ok h2) hg)
/-- a function whose body is run in pieces. -/
theorem orc_of_good {P : Program} {T : Cx} (hT : Fits P T) {tabs : List (Nat × List Value)} {f : FuncId} {fn : Func} {c : Code} {e : Ex} {A1 : AA} {H1 : Hp} {v : Value} {args : List Value} (hf : P.funcs[f]? = some fn) (hn : (fn.name == "runtime.NumGoroutine") = false) (hb : fn.body = some c) (pa : constL args = true) (pr : resOk v = true)
    (hgood : CodeGood P c (entryA T fn c args) ⟨romT tabs, T.g⟩ e A1 H1) (he : e = .normal ∨ e = .ret) (hres : resultsA T A1 H1 fn.results.toList = some v) : OrcOk P T.g tabs f args v := by
  refine ⟨⟨fn, hf, hn, by rw [hb]; rfl⟩, pa, pr, fun E w hr hg => ?_⟩
  have hw := hgood [] none (.inl rfl) E _ w (entry_ok (T := T) (fn := fn) (c := c) (constL_ok (E := E) (N := T.g) pa) (fun g' hg' => ⟨hg g' hg', hg'⟩)) hr
  refine callsIn_FF.1 (callsIn_of_wp_marks (F := FF none) (n := 0) hf hb trivial (wpIn_mono (hw 0) fun x a1 w1 hp => ?_))
  obtain ⟨hx, E1, ms1, g1, ha1, hr1, hk1⟩ := hp
  have hend : ∀ w2, HRel E1 H1 w2 → Gd E E1 ⟨romT tabs, T.g⟩ H1 w w2 → ∃ u, (results fn a1.tmps).run P w2 = .ok u w2 ∧ (Ending.returned u = .returned v ∧ Below w.heap.size w w2) := fun w2 hr2 g2 => by
    obtain ⟨v', r1, r2⟩ := results_ok (P := P) hT ha1 hr2 hres
    rw [resOk_eq pr r1] at r2
    exact ⟨v, r2, rfl, g2.os, g2.tape, g2.output, g2.size, fun i hi => g2.frame i hi (fun b x hx hwx => by
      obtain ⟨l, _, h2⟩ := romT_get hx
      subst h2; cases hwx)⟩
  have hlv := leave_ms (n := 0) (R := fun e w' => e = .returned v ∧ Below w.heap.size w w') hend ms1 w1 hk1 hr1 g1
  have hdf : a1.defers = ms1.map markD := by rw [ha1.df, List.append_nil]
  rcases he with rfl | rfl
  · subst hx
    show LeavesInM _ _ _ _ _ _ a1.defers _ _
    rw [hdf]; exact hlv
  · subst hx
    show LeavesInM _ _ _ _ _ _ a1.defers _ _
    rw [hdf]; exact hlv
/-- the last piece. -/
def isEnd (T : Cx) (rs : List ResultVar) (v : Value) (o : Out) : Bool := match o with
  | .code .normal A H => (match resultsA T A H rs with
    | some u => eqD u v
    | none => false)
  | .code .ret A H => (match resultsA T A H rs with
    | some u => eqD u v
    | none => false)
  | _ => false
theorem isEnd_out {T : Cx} {rs : List ResultVar} {v : Value} {o : Out} (h : isEnd T rs v o = true) : ∃ e A H, o = .code e A H ∧ (e = .normal ∨ e = .ret) ∧ resultsA T A H rs = some v := by
  unfold isEnd at h
  split at h
  · split at h
    · rename_i u hu
      rw [eqD_eq h] at hu
      exact ⟨_, _, _, rfl, .inl rfl, hu⟩
    · cases h
  · split at h
    · rename_i u hu
      rw [eqD_eq h] at hu
      exact ⟨_, _, _, rfl, .inr rfl, hu⟩
    · cases h
  · cases h
end
end Go.Proofs.YtcpghlilbohohaaGreatDoor
