import Derived.Test.YtanhkchpffkloaaGreatDoorEnz
namespace Go.Proofs.YtanhkchpffkloaaGreatDoor
open Go
set_option linter.unusedVariables false
set_option linter.unusedSimpArgs false
noncomputable section
variable {ds : List Deferred}
/-! ### how many are left -/
def cntL (l : List Bool) : Nat := (l.filter fun b => !b).length
theorem cntL_set : ∀ (l : List Bool) (i : Nat), l[i]? = some false → cntL (l.set i true) + 1 = cntL l
  | [], i, h => by simp at h
  | b :: l, 0, h => by
    simp at h; subst h
    simp [cntL]
  | b :: l, i + 1, h => by
    have ih := cntL_set l i (by simpa using h)
    unfold cntL at ih ⊢
    cases b
    · simp at ih ⊢; omega
    · simp at ih ⊢; omega
def cntF (listed : Array Bool) : Nat := cntL listed.toList
theorem cntF_set {listed : Array Bool} {i : Nat} (h : listed.getD i true = false) : cntF (listed.setIfInBounds i true) + 1 = cntF listed := by
  have h1 : listed.toList[i]? = some false := by
    obtain ⟨h2, h3⟩ := getD_tf.1 h
    simp [Array.getD_eq_getD_getElem?, h2] at h3
    simp [h2, h3]
  unfold cntF
  rw [Array.toList_setIfInBounds]
  exact cntL_set _ _ h1
theorem cntF_start (n : Nat) : cntF (Array.replicate n false) = n := by simp [cntF, cntL]
/-! ### what one temporary's turning leaves alone -/
def Quiet (ops : Array Oper) (x y : OI) : Prop := ∀ d, x.o.dst = some d → d ∉ y.o.looksAt ops ∧ y.o.dst ≠ some d
theorem quiet_of {ops : Array Oper} {x y : OI} (hx : IsOI ops x) (hy : IsOI ops y) (h : disM x.dm (Nat.lor y.lm y.dm) = true) : Quiet ops x y := fun d hd =>
  ⟨fun h1 => disM_ok h (hx.dm.2 hd) (tb_lor_iff.2 (.inl (hy.lm.2 h1))), fun h1 => disM_ok h (hx.dm.2 hd) (tb_lor_iff.2 (.inr (hy.dm.2 h1)))⟩
theorem quiet_of2 {ops : Array Oper} {x y : OI} (hx : IsOI ops x) (hy : IsOI ops y) (h : disM x.dm y.lm = true) (h2 : disM y.dm (Nat.lor x.lm x.dm) = true) : Quiet ops x y := fun d hd =>
  ⟨fun h1 => disM_ok h (hx.dm.2 hd) (hy.lm.2 h1), fun h1 => disM_ok h2 (hy.dm.2 h1) (tb_lor_iff.2 (.inr (hx.dm.2 hd)))⟩
theorem put_get_ne {a : Act} {d : Option Tmp} {d' : Tmp} {v : Value} (h : d ≠ some d') : (a.put d v).tmps[d']? = a.tmps[d']? := by
  cases d with
  | none => rfl
  | some t =>
    have : t ≠ d' := fun e => h (by rw [e])
    simp [Act.put, Array.getElem?_setIfInBounds_ne this]
theorem put_same {a : Act} {d : Tmp} {v : Value} (h : a.tmps[d]? = some v) : a.put (some d) v = a := by
  obtain ⟨t, ds⟩ := a
  simp only [Act.put] at h ⊢
  congr 1
  apply Array.ext_getElem?
  intro i
  by_cases e : d = i
  · subst e
    obtain ⟨h1, h2⟩ := Array.getElem?_eq_some_iff.1 h
    simp [h1, h2]
  · rw [Array.getElem?_setIfInBounds_ne e]
/-- what is known of an operation that has been taken. -/
def KF (P : Program) (ops : Array Oper) (x : OI) (a : Act) : Prop := ∃ d v, x.o.dst = some d ∧ a.tmps[d]? = some v ∧ YieldsIf P ops (fun _ => True) x.o v a
inductive Mo where
  | late
  | void
  | at (s : Nat)
def Mo.up (m : Mo) : Bool := match m with
  | .late => false
  | _ => true
/-- .. of one that made memory. -/
def ZF (P : Program) (ops : Array Oper) (x : OI) (mo : Mo) (a : Act) (w : World) : Prop := match mo with
  | .late => True
  | .void => Region.wanted x.o (yielded ops a.tmps) = false ∧ ∃ d, x.o.dst = some d ∧ a.tmps[d]? = some undef
  | .at s => Region.wanted x.o (yielded ops a.tmps) = true ∧ ∃ (d : Tmp) (l' : List Value) (e : TypeId) (sh : Sh), x.o.dst = some d ∧ a.tmps[d]? = some (sh.at s) ∧ (∀ w2 : World, (execOp a.eval x.o).run P w2 = .ok (.value (sh.at w2.heap.size)) (w2.alloc (obOf sh l' e))) ∧ w.heap[s]? = some (obOf sh l' e)
section
variable {P : Program} {ops : Array Oper}
theorem KF.put {x y : OI} {a : Act} (h : KF P ops y a) (hs : ∀ cs b, y.o.op ≠ .select cs b) {dst : Option Tmp} (hq : ∀ d, dst = some d → d ∉ y.o.looksAt ops ∧ y.o.dst ≠ some d) (u : Value) : KF P ops y (a.put dst u) := by
  obtain ⟨d, v, h1, h2, h3⟩ := h
  refine ⟨d, v, h1, ?_, h3.of_same (execOp_put y.o hs a dst u fun d hd => (hq d hd).1) (wanted_put y.o a dst u fun d hd => (hq d hd).1)⟩
  rw [put_get_ne (fun e => (hq d e).2 h1)]; exact h2
theorem ZF.put {y : OI} {mo : Mo} {a : Act} {w : World} (h : ZF P ops y mo a w) (hs : ∀ cs b, y.o.op ≠ .select cs b) {dst : Option Tmp} (hq : ∀ d, dst = some d → d ∉ y.o.looksAt ops ∧ y.o.dst ≠ some d) (u : Value) : ZF P ops y mo (a.put dst u) w := by
  cases mo with
  | late => trivial
  | void =>
    obtain ⟨h1, d, h2, h3⟩ := h
    exact ⟨by rw [wanted_put y.o a dst u fun d hd => (hq d hd).1]; exact h1, d, h2, by rw [put_get_ne (fun e => (hq d e).2 h2)]; exact h3⟩
  | «at» s =>
    obtain ⟨h1, d, l', e, sh, h2, h3, h4, h5⟩ := h
    exact ⟨by rw [wanted_put y.o a dst u fun d hd => (hq d hd).1]; exact h1, d, l', e, sh, h2, by rw [put_get_ne (fun e => (hq d e).2 h2)]; exact h3, by rw [execOp_put y.o hs a dst u fun d hd => (hq d hd).1]; exact h4, h5⟩
theorem ZF.world {y : OI} {mo : Mo} {a : Act} {w w1 : World} (h : ZF P ops y mo a w) (hw : ∀ s, mo = .at s → s < w.heap.size → w1.heap[s]? = w.heap[s]?) : ZF P ops y mo a w1 := by
  cases mo with
  | late => trivial
  | void => exact h
  | «at» s =>
    obtain ⟨h1, d, l', e, sh, h2, h3, h4, h5⟩ := h
    exact ⟨h1, d, l', e, sh, h2, h3, h4, by rw [hw s rfl (Array.getElem?_eq_some_iff.1 h5).1]; exact h5⟩
/-- .. of all of a cluster. -/
def CF (P : Program) (ops : Array Oper) (c : Clu) (mo : Mo) (a : Act) (w : World) : Prop := ZF P ops c.z mo a w ∧ (mo.up = true → ∀ x ∈ c.ks, KF P ops x a)
theorem CF.put {c : Clu} {mo : Mo} {a : Act} {w : World} (h : CF P ops c mo a w) (hs : ∀ y ∈ c.all, ∀ cs b, y.o.op ≠ .select cs b) {dst : Option Tmp} (hq : ∀ y ∈ c.all, ∀ d, dst = some d → d ∉ y.o.looksAt ops ∧ y.o.dst ≠ some d) (u : Value) : CF P ops c mo (a.put dst u) w :=
  ⟨h.1.put (hs _ (List.mem_cons_self ..)) (hq _ (List.mem_cons_self ..)) u, fun hu x hx => KF.put (x := x) (h.2 hu x hx) (hs x (List.mem_cons_of_mem _ hx)) (hq x (List.mem_cons_of_mem _ hx)) u⟩
end
/-- acts that differ in these operations' temporaries alone. -/
inductive Puts : List OI → Act → Act → Prop
  | nil {a : Act} : Puts [] a a
  | cons {x : OI} {l : List OI} {a a' : Act} {v : Value} (h : Puts l (a.put x.o.dst v) a') : Puts (x :: l) a a'
theorem AR.blind {E : Env} {N : Nat} {A : AA} {a : Act} (h : AR ds E N A a) {d : Option Tmp} (hd : ∀ t, d = some t → A.get t = none) (u : Value) : AR ds E N A (a.put d u) := by
  cases d with
  | none => exact h
  | some t =>
    refine ⟨h.df, by rw [← h.size]; simp [Act.put], h.gl, fun t' v hv => ?_⟩
    have hne : t' ≠ t := fun e => by rw [e, hd t rfl] at hv; cases hv
    obtain ⟨v', e1, r⟩ := h.tm t' v hv
    exact ⟨v', by rw [put_get_ne (fun e => hne (Option.some.inj e).symm)]; exact e1, r⟩
theorem Puts.ar {E : Env} {N : Nat} {A : AA} {l : List OI} {a a' : Act} (h : Puts l a a') (ha : AR ds E N A a) (hf : ∀ x ∈ l, ∀ t, x.o.dst = some t → A.get t = none) : AR ds E N A a' := by
  induction h with
  | nil => exact ha
  | cons h ih => exact ih (ha.blind (hf _ (List.mem_cons_self ..)) _) fun x hx => hf x (List.mem_cons_of_mem _ hx)
theorem Puts.cf {P : Program} {ops : Array Oper} {l : List OI} {a a' : Act} (h : Puts l a a') {c : Clu} {mo : Mo} {w : World} (hc : CF P ops c mo a w) (hs : ∀ y ∈ c.all, ∀ cs b, y.o.op ≠ .select cs b) (hq : ∀ x ∈ l, ∀ y ∈ c.all, Quiet ops x y) : CF P ops c mo a' w := by
  induction h with
  | nil => exact hc
  | @cons x l a a' v h ih => exact ih (hc.put hs (fun y hy d hd => hq _ (List.mem_cons_self ..) y hy d hd) v) fun x hx => hq x (List.mem_cons_of_mem _ hx)
theorem Puts.zf {P : Program} {ops : Array Oper} {l : List OI} {a a' : Act} (h : Puts l a a') {y : OI} {mo : Mo} {w : World} (hc : ZF P ops y mo a w) (hs : ∀ cs b, y.o.op ≠ .select cs b) (hq : ∀ x ∈ l, Quiet ops x y) : ZF P ops y mo a' w := by
  induction h with
  | nil => exact hc
  | @cons x l a a' v h ih => exact ih (hc.put hs (fun d hd => hq _ (List.mem_cons_self ..) d hd) v) fun x hx => hq x (List.mem_cons_of_mem _ hx)
theorem Puts.kf {P : Program} {ops : Array Oper} {l : List OI} {a a' : Act} (h : Puts l a a') {y : OI} (hc : KF P ops y a) (hs : ∀ cs b, y.o.op ≠ .select cs b) (hq : ∀ x ∈ l, Quiet ops x y) : KF P ops y a' := by
  induction h with
  | nil => exact hc
  | @cons x l a a' v h ih => exact ih (KF.put (x := x) hc hs (fun d hd => hq _ (List.mem_cons_self ..) d hd) v) fun x hx => hq x (List.mem_cons_of_mem _ hx)
/-! ### a cluster as it stands in the plan -/
theorem maskL_iff {k : Nat} : ∀ {l : List OI}, (maskL l).testBit k = true ↔ ∃ x ∈ l, x.i = k
  | [] => by
    show (0 : Nat).testBit k = true ↔ _
    simp
  | x :: l => by
    show (Nat.lor (bm x.i) (maskL l)).testBit k = true ↔ _
    rw [tb_lor_iff, tb_bm_iff, maskL_iff (l := l)]
    constructor
    · rintro (h | ⟨y, h1, h2⟩)
      · exact ⟨x, List.mem_cons_self .., h.symm⟩
      · exact ⟨y, List.mem_cons_of_mem _ h1, h2⟩
    · rintro ⟨y, h1, h2⟩
      rcases List.mem_cons.1 h1 with h3 | h3
      · subst h3; exact .inl h2.symm
      · exact .inr ⟨y, h3, h2⟩
theorem zmask_iff {k : Nat} : ∀ {Z : List Clu}, (zmask Z).testBit k = true ↔ ∃ c ∈ Z, (cmask c).testBit k = true
  | [] => by
    show (0 : Nat).testBit k = true ↔ _
    simp
  | c :: Z => by
    show (Nat.lor (cmask c) (zmask Z)).testBit k = true ↔ _
    rw [tb_lor_iff, zmask_iff (Z := Z)]
    simp
structure KOK (ops : Array Oper) (D : Nat → Bool) (m : Nat) (pre : List OI) (x : OI) : Prop where
  oi : IsOI ops x
  pu : isPure x.o.op = true
  ds : isSomeD x.o.dst = true
  own : disM x.dm x.lm = true
  qu : ∀ y ∈ pre, Quiet ops x y
  nd : D x.i = false
  dep : ∃ k, x.pm.testBit k = true ∧ (maskL pre).testBit k = true
  new : ¬ (maskL pre).testBit x.i = true
  fr : ∃ m0, (∀ k, m0.testBit k = true → m.testBit k = true ∨ (maskL pre).testBit k = true) ∧ subM x.pm m0 = true ∧ freeM (infos ops) m0 x = true
def CVk (ops : Array Oper) (D : Nat → Bool) (m : Nat) : List OI → List OI → Prop
  | _, [] => True
  | pre, x :: ks => KOK ops D m pre x ∧ CVk ops D m (pre ++ [x]) ks
structure CV (ops : Array Oper) (D : Nat → Bool) (m : Nat) (c : Clu) : Prop where
  oi : IsOI ops c.z
  ds : isSomeD c.z.o.dst = true
  own : disM c.z.dm c.z.lm = true
  pm : subM c.z.pm m = true
  ks : CVk ops D m [c.z] c.ks
section
variable {ops : Array Oper} {D : Nat → Bool}
theorem KOK.mono {m m' : Nat} (hm : ∀ k, m.testBit k = true → m'.testBit k = true) {pre : List OI} {x : OI} (h : KOK ops D m pre x) : KOK ops D m' pre x := by
  obtain ⟨m0, h1, h2, h3⟩ := h.fr
  exact ⟨h.oi, h.pu, h.ds, h.own, h.qu, h.nd, h.dep, h.new, m0, fun k hk => (h1 k hk).imp (hm k) id, h2, h3⟩
theorem CVk.mono {m m' : Nat} (hm : ∀ k, m.testBit k = true → m'.testBit k = true) : ∀ {ks pre : List OI}, CVk ops D m pre ks → CVk ops D m' pre ks
  | [], _, _ => trivial
  | _ :: _, _, h => ⟨h.1.mono hm, CVk.mono hm h.2⟩
theorem CV.mono {m m' : Nat} (hm : ∀ k, m.testBit k = true → m'.testBit k = true) {c : Clu} (h : CV ops D m c) : CV ops D m' c :=
  ⟨h.oi, h.ds, h.own, subM_of fun k hk => hm k (subM_ok h.pm hk), h.ks.mono hm⟩
theorem CVk.snoc {m : Nat} {x : OI} : ∀ {ks pre : List OI}, CVk ops D m pre ks → KOK ops D m (pre ++ ks) x → CVk ops D m pre (ks ++ [x])
  | [], pre, _, hx => ⟨by simpa using hx, trivial⟩
  | k :: ks, pre, h, hx => ⟨h.1, CVk.snoc h.2 (by simpa using hx)⟩
theorem CVk.oi {m : Nat} : ∀ {ks pre : List OI}, CVk ops D m pre ks → ∀ x ∈ ks, IsOI ops x ∧ isSomeD x.o.dst = true
  | [], _, _, x, hx => by cases hx
  | k :: ks, pre, h, x, hx => by
    rcases List.mem_cons.1 hx with e | e
    · subst e; exact ⟨h.1.oi, h.1.ds⟩
    · exact CVk.oi h.2 x e
theorem CV.all {m : Nat} {c : Clu} (h : CV ops D m c) : ∀ x ∈ c.all, IsOI ops x := fun x hx => by
  rcases List.mem_cons.1 hx with e | e
  · subst e; exact h.oi
  · exact (h.ks.oi x e).1
theorem CVk.dep {m : Nat} : ∀ {ks pre : List OI}, CVk ops D m pre ks → ∀ x ∈ ks, ∃ k, x.pm.testBit k = true ∧ (maskL (pre ++ ks)).testBit k = true
  | [], _, _, x, hx => by cases hx
  | y :: ks, pre, h, x, hx => by
    rcases List.mem_cons.1 hx with e | e
    · subst e
      obtain ⟨k, h1, h2⟩ := h.1.dep
      obtain ⟨z, h3, h4⟩ := maskL_iff.1 h2
      exact ⟨k, h1, maskL_iff.2 ⟨z, List.mem_append_left _ h3, h4⟩⟩
    · obtain ⟨k, h1, h2⟩ := CVk.dep h.2 x e
      exact ⟨k, h1, by simpa using h2⟩
theorem CVk.notpre {m : Nat} : ∀ {ks pre : List OI}, CVk ops D m pre ks → ∀ x ∈ ks, ¬ (maskL pre).testBit x.i = true
  | [], _, _, x, hx => by cases hx
  | y :: ks, pre, h, x, hx => by
    rcases List.mem_cons.1 hx with e | e
    · subst e; exact h.1.new
    · intro hh
      obtain ⟨z, h3, h4⟩ := maskL_iff.1 hh
      exact CVk.notpre h.2 x e (maskL_iff.2 ⟨z, List.mem_append_left _ h3, h4⟩)
end
theorem CVk.quiet {ops : Array Oper} {D : Nat → Bool} {m : Nat} : ∀ {ks pre : List OI}, CVk ops D m pre ks → ∀ x ∈ ks, ∀ y ∈ pre, Quiet ops x y
  | [], _, _, x, hx => by cases hx
  | z :: ks, pre, h, x, hx => fun y hy => by
    rcases List.mem_cons.1 hx with e | e
    · subst e; exact h.1.qu y hy
    · exact CVk.quiet h.2 x e y (List.mem_append_left _ hy)
theorem isSomeD_ok {d : Option Tmp} (h : isSomeD d = true) : ∃ t, d = some t := by
  cases d with
  | none => cases h
  | some t => exact ⟨t, rfl⟩
/-! ### what is taken behind an operation that has come up early -/
theorem runK_cons (T : Cx) (ops : List Oper) (x : OI) (l : List OI) (A : AA) (H : Hp) : runK T ops (x :: l) A H = runK1 T ops x (runK T ops l) A H := rfl
/-- one step of it. -/
theorem runK1_ok {P : Program} {T : Cx} (hT : Fits P T) {ops : Array Oper} {x : OI} {k : AA → Hp → AH} {A : AA} {H : Hp} {r : AA × Hp} (h : runK1 T ops.toList x k A H = some r) (hpu : isPure x.o.op = true) {E : Env} {a : Act} (ha : AR ds E H.next A a) :
    ∃ v v' A1, YieldsIf P ops (fun _ => True) x.o v' a ∧ VR E H.next v v' ∧ putA A x.o.dst v = some A1 ∧ k A1 H = some r := by
  unfold runK1 at h
  split at h
  · rename_i hw
    have hwant := wantedA_ok ha hw
    split at h
    · rename_i q hop
      obtain ⟨v, H1⟩ := q
      unfold thenA at h
      split at h
      · rename_i A1 hp
        obtain ⟨v', e1, hv, hrun⟩ := opD_pure hT hpu A H v H1 hop E a ha
        exact ⟨v, v', A1, .inl ⟨hwant, fun w _ => hrun w⟩, hv, hp, h⟩
      · cases h
    · cases h
  · rename_i hw
    have hwant := wantedA_ok ha hw
    unfold thenA at h
    split at h
    · rename_i A1 hp
      exact ⟨undef, undef, A1, .inr ⟨hwant, rfl⟩, VR.undef, hp, h⟩
    · cases h
  · cases h
theorem KF.now {P : Program} {ops : Array Oper} {x : OI} (hx : IsOI ops x) (hs : ∀ cs b, x.o.op ≠ .select cs b) (hown : disM x.dm x.lm = true) {a : Act} {v' v : Value} {A A1 : AA} {E : Env} {N : Nat} (ha : AR ds E N A a) (hp : putA A x.o.dst v = some A1) (hd : isSomeD x.o.dst = true) (hy : YieldsIf P ops (fun _ => True) x.o v' a) : KF P ops x (a.put x.o.dst v') := by
  obtain ⟨d, hdd⟩ := isSomeD_ok hd
  have hl : ∀ t, x.o.dst = some t → t ∉ x.o.looksAt ops := fun t ht h => disM_ok hown (hx.dm.2 ht) (hx.lm.2 h)
  refine ⟨d, v', hdd, ?_, hy.of_same (execOp_put x.o hs a _ v' hl) (wanted_put x.o a _ v' hl)⟩
  rw [hdd] at hp ⊢
  obtain ⟨h1, _⟩ := AA.set_spec (show A.set d v = some A1 from hp)
  have hs := ha.size
  simp [Act.put, hs, h1]
theorem take_oi {P : Program} {ops : Array Oper} {Q : Exit → Act → World → Prop} {S S1 : World → Prop} {D : Nat → Bool} {x : OI} (hx : IsOI ops x) (hns : Region.noSelect ops = true) (hQ : ∀ c a w v, Q (.panic c) (a.put x.o.dst v) w → Q (.panic c) a w) (hDi : D x.i = false)
    (hD : (∀ w, S1 w) ∨ ((∀ w, S w → S1 w) ∧ ∀ j, D j = true → (ops[j]?).isSome = true ∧ ∃ n, reachB ops x.i n j = true)) {m0 : Nat} {M : Nat → Prop} {n : Nat} {listed : Array Bool} {a : Act} {w : World} {v : Value} (hl : LM ops M listed) (hcl : ClosedL ops listed)
    (hm : ∀ k, m0.testBit k = true → M k) (hp : subM x.pm m0 = true) (hf : freeM (infos ops) m0 x = true) (hn : ¬ M x.i) (hy : YieldsIf P ops S1 x.o v a) (hS : NoD D listed → S w)
    (h : wpD P ops Q D S n (listed.setIfInBounds x.i true) (a.put x.o.dst v) w) : wpD P ops Q D S (n + 1) listed a w :=
  wpD_take hx.1 hns (fun c a w => hQ c a w v) hDi hD n listed a w hcl (free_oi hl hx hf hm) (oi_ready hl hx hn fun k hk => hm k (subM_ok hp hk)) hy hS h
theorem take_ks {P : Program} {T : Cx} (hT : Fits P T) {ops : Array Oper} (hns : Region.noSelect ops = true) {D : Nat → Bool} {Q : Exit → Act → World → Prop} (hQ : ∀ c a w d v, Q (.panic c) (a.put d v) w → Q (.panic c) a w) {S : World → Prop} {m : Nat} {w : World} {E : Env} {H : Hp} {r : AA × Hp} :
    ∀ (ks pre : List OI) (M : Nat → Prop) (listed : Array Bool) (a : Act) (A : AA) (f : Nat), cntF listed ≤ f → CVk ops D m pre ks → runK T ops.toList ks A H = some r → AR ds E H.next A a → LM ops M listed → ClosedL ops listed → (∀ k, m.testBit k = true ∨ (maskL pre).testBit k = true → M k) → (∀ x ∈ ks, ¬ M x.i) → (NoD D listed → S w) →
      (∀ listed' a' g, g ≤ f → cntF listed' ≤ g → LM ops (fun k => M k ∨ (maskL ks).testBit k = true) listed' → ClosedL ops listed' → (NoD D listed' → NoD D listed) → Puts ks a a' → (∀ x ∈ ks, KF P ops x a') → wpD P ops Q D S g listed' a' w) → wpD P ops Q D S f listed a w
  | [], pre, M, listed, a, A, f, hcf, hcv, hrun, ha, hl, hcl, hm, hn, hS, hK => by
    refine hK listed a f (Nat.le_refl _) hcf ⟨hl.size, fun k => ?_⟩ hcl id .nil (fun x hx => by cases hx)
    rw [hl.at_]
    constructor
    · exact .inl
    · rintro (h | h)
      · exact h
      · change (0 : Nat).testBit k = true at h; simp at h
  | x :: ks, pre, M, listed, a, A, f, hcf, hcv, hrun, ha, hl, hcl, hm, hn, hS, hK => by
    obtain ⟨hx, hcv2⟩ := hcv
    rw [runK_cons] at hrun
    obtain ⟨v, v', A1, hy, hv, hp, hrest⟩ := runK1_ok hT hrun hx.pu ha
    obtain ⟨m0, h1, h2, h3⟩ := hx.fr
    have hsel : ∀ cs b, x.o.op ≠ .select cs b := fun cs b => Region.noSelect_spec hns _ _ cs b hx.oi.1
    have hnx := hn x (List.mem_cons_self ..)
    have hlt : listed.getD x.i true = false := by
      refine getD_tf.2 ⟨by rw [hl.size]; exact (Array.getElem?_eq_some_iff.1 hx.oi.1).1, ?_⟩
      cases h : listed.getD x.i false with
      | false => rfl
      | true => exact absurd ((hl.at_ _).1 h) hnx
    have hrd := oi_ready hl hx.oi hnx fun k hk => hm k (h1 k (subM_ok h2 hk))
    have hc1 := cntF_set hlt
    obtain ⟨f, rfl⟩ : ∃ f1, f = f1 + 1 := ⟨f - 1, by omega⟩
    refine take_oi (S1 := fun _ => True) hx.oi hns (fun c a w v => hQ c a w _ v) hx.nd (.inl fun _ => trivial) hl hcl (fun k hk => hm k (h1 k hk)) h2 h3 hnx hy hS ?_
    refine take_ks hT hns hQ ks (pre ++ [x]) (fun k => k = x.i ∨ M k) _ _ A1 f (by omega) hcv2 hrest (ha.put hp hv) (hl.set hx.oi fun k => Iff.rfl) (closed_step hcl hrd) (fun k hk => ?_) (fun y hy2 => ?_) (fun hn2 => hS (noD_set hn2)) ?_
    · rcases hk with hk | hk
      · exact .inr (hm k (.inl hk))
      · obtain ⟨z, hz1, hz2⟩ := maskL_iff.1 hk
        rcases List.mem_append.1 hz1 with h4 | h4
        · exact .inr (hm k (.inr (maskL_iff.2 ⟨z, h4, hz2⟩)))
        · rw [List.mem_singleton] at h4; subst h4; exact .inl hz2.symm
    · rintro (e | e)
      · exact CVk.notpre hcv2 y hy2 (maskL_iff.2 ⟨x, List.mem_append_right _ (List.mem_singleton_self _), e.symm⟩)
      · exact hn y (List.mem_cons_of_mem _ hy2) e
    · intro listed' a' g q7 q8 q1 q2 q4 q5 q6
      refine hK listed' a' g (by omega) q8 ⟨q1.size, fun k => ?_⟩ q2 (fun h => noD_set (q4 h)) (.cons q5) (fun y hy2 => ?_)
      · rw [q1.at_]
        show (k = x.i ∨ M k) ∨ _ ↔ M k ∨ (Nat.lor (bm x.i) (maskL ks)).testBit k = true
        rw [tb_lor_iff, tb_bm_iff]
        constructor
        · rintro ((h | h) | h)
          · exact .inr (.inl h)
          · exact .inl h
          · exact .inr (.inr h)
        · rintro (h | h | h)
          · exact .inl (.inr h)
          · exact .inl (.inl h)
          · exact .inr h
      · rcases List.mem_cons.1 hy2 with e | e
        · subst e
          refine q5.kf (KF.now hx.oi hsel hx.own ha hp hx.ds hy) hsel fun z hz => ?_
          have : ∀ (l pre : List OI), CVk ops D m pre l → y ∈ pre → ∀ z ∈ l, Quiet ops z y := by
            intro l
            induction l with
            | nil => intro pre _ _ z hz; cases hz
            | cons u l ihl =>
              intro pre hc hmem z hz
              rcases List.mem_cons.1 hz with e2 | e2
              · subst e2; exact hc.1.qu y hmem
              · exact ihl (pre ++ [u]) hc.2 (List.mem_append_left _ hmem) z e2
          exact this ks _ hcv2 (List.mem_append_right _ (List.mem_singleton_self _)) z hz
        · exact q6 y e
end
end Go.Proofs.YtanhkchpffkloaaGreatDoor
