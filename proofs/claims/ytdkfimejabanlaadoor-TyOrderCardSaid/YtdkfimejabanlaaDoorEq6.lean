import Derived.Test.YtdkfimejabanlaaDoorEq5
namespace Go.Proofs.YtdkfimejabanlaaDoor
open Go
set_option linter.unusedVariables false
set_option linter.unusedSimpArgs false
noncomputable section
variable {ds : List Deferred}
/-! ### how many are left -/
def cntL (l : List Bool) : Nat := (l.filter fun b => !b).length
theorem cntL_set : ∀ (l : List Bool) (i : Nat), l[i]? = some false → cntL (l.set i true) + 1 = cntL l
  | [], i, h => by simp at h
  | b :: l, 0, h => by
    simp at h; subst h
    simp [cntL]
  | b :: l, i + 1, h => by
    have ih := cntL_set l i (by simpa using h)
    unfold cntL at ih ⊢
    cases b
    · simp at ih ⊢; omega
    · simp at ih ⊢; omega
def cntF (listed : Array Bool) : Nat := cntL listed.toList
theorem cntF_set {listed : Array Bool} {i : Nat} (h : listed.getD i true = false) : cntF (listed.setIfInBounds i true) + 1 = cntF listed := by
  have h1 : listed.toList[i]? = some false := by
    obtain ⟨h2, h3⟩ := getD_tf.1 h
    simp [Array.getD_eq_getD_getElem?, h2] at h3
    simp [h2, h3]
  unfold cntF
  rw [Array.toList_setIfInBounds]
  exact cntL_set _ _ h1
theorem cntF_start (n : Nat) : cntF (Array.replicate n false) = n := by simp [cntF, cntL]
/-! ### what one temporary's turning leaves alone -/
def Quiet (ops : Array Oper) (x y : OI) : Prop := ∀ d, x.o.dst = some d → d ∉ y.o.looksAt ops ∧ y.o.dst ≠ some d
theorem quiet_of {ops : Array Oper} {x y : OI} (hx : IsOI ops x) (hy : IsOI ops y) (h : disM x.dm (Nat.lor y.lm y.dm) = true) : Quiet ops x y := fun d hd =>
  ⟨fun h1 => disM_ok h (hx.dm.2 hd) (tb_lor_iff.2 (.inl (hy.lm.2 h1))), fun h1 => disM_ok h (hx.dm.2 hd) (tb_lor_iff.2 (.inr (hy.dm.2 h1)))⟩
theorem quiet_of2 {ops : Array Oper} {x y : OI} (hx : IsOI ops x) (hy : IsOI ops y) (h : disM x.dm y.lm = true) (h2 : disM y.dm (Nat.lor x.lm x.dm) = true) : Quiet ops x y := fun d hd =>
  ⟨fun h1 => disM_ok h (hx.dm.2 hd) (hy.lm.2 h1), fun h1 => disM_ok h2 (hy.dm.2 h1) (tb_lor_iff.2 (.inr (hx.dm.2 hd)))⟩
theorem put_get_ne {a : Act} {d : Option Tmp} {d' : Tmp} {v : Value} (h : d ≠ some d') : (a.put d v).tmps[d']? = a.tmps[d']? := by
  cases d with
  | none => rfl
  | some t =>
    have : t ≠ d' := fun e => h (by rw [e])
    simp [Act.put, Array.getElem?_setIfInBounds_ne this]
theorem put_same {a : Act} {d : Tmp} {v : Value} (h : a.tmps[d]? = some v) : a.put (some d) v = a := by
  obtain ⟨t, ds⟩ := a
  simp only [Act.put] at h ⊢
  congr 1
  apply Array.ext_getElem?
  intro i
  by_cases e : d = i
  · subst e
    obtain ⟨h1, h2⟩ := Array.getElem?_eq_some_iff.1 h
    simp [h1, h2]
  · rw [Array.getElem?_setIfInBounds_ne e]
/-- what is known of an operation that has been taken. -/
def KF (P : Program) (ops : Array Oper) (x : OI) (a : Act) : Prop := ∃ d v, x.o.dst = some d ∧ a.tmps[d]? = some v ∧ YieldsIf P ops (fun _ => True) x.o v a
inductive Mo where
  | late
  | void
  | at (s : Nat)
def Mo.up (m : Mo) : Bool := match m with
  | .late => false
  | _ => true
/-- .. of one that made memory. -/
def ZF (P : Program) (ops : Array Oper) (x : OI) (mo : Mo) (a : Act) (w : World) : Prop := match mo with
  | .late => True
  | .void => Region.wanted x.o (yielded ops a.tmps) = false ∧ ∃ d, x.o.dst = some d ∧ a.tmps[d]? = some undef
  | .at s => Region.wanted x.o (yielded ops a.tmps) = true ∧ ∃ (d : Tmp) (l' : List Value) (e : TypeId) (sh : Sh), x.o.dst = some d ∧ a.tmps[d]? = some (sh.at s) ∧ (∀ w2 : World, (execOp a.eval x.o).run P w2 = .ok (.value (sh.at w2.heap.size)) (w2.alloc (obOf sh l' e))) ∧ w.heap[s]? = some (obOf sh l' e)
section
variable {P : Program} {ops : Array Oper}
theorem KF.put {x y : OI} {a : Act} (h : KF P ops y a) (hs : ∀ cs b, y.o.op ≠ .select cs b) {dst : Option Tmp} (hq : ∀ d, dst = some d → d ∉ y.o.looksAt ops ∧ y.o.dst ≠ some d) (u : Value) : KF P ops y (a.put dst u) := by
  obtain ⟨d, v, h1, h2, h3⟩ := h
  refine ⟨d, v, h1, ?_, h3.of_same (execOp_put y.o hs a dst u fun d hd => (hq d hd).1) (wanted_put y.o a dst u fun d hd => (hq d hd).1)⟩
  rw [put_get_ne (fun e => (hq d e).2 h1)]; exact h2
theorem ZF.put {y : OI} {mo : Mo} {a : Act} {w : World} (h : ZF P ops y mo a w) (hs : ∀ cs b, y.o.op ≠ .select cs b) {dst : Option Tmp} (hq : ∀ d, dst = some d → d ∉ y.o.looksAt ops ∧ y.o.dst ≠ some d) (u : Value) : ZF P ops y mo (a.put dst u) w := by
  cases mo with
  | late => trivial
  | void =>
    obtain ⟨h1, d, h2, h3⟩ := h
    exact ⟨by rw [wanted_put y.o a dst u fun d hd => (hq d hd).1]; exact h1, d, h2, by rw [put_get_ne (fun e => (hq d e).2 h2)]; exact h3⟩
  | «at» s =>
    obtain ⟨h1, d, l', e, sh, h2, h3, h4, h5⟩ := h
    exact ⟨by rw [wanted_put y.o a dst u fun d hd => (hq d hd).1]; exact h1, d, l', e, sh, h2, by rw [put_get_ne (fun e => (hq d e).2 h2)]; exact h3, by rw [execOp_put y.o hs a dst u fun d hd => (hq d hd).1]; exact h4, h5⟩
theorem ZF.world {y : OI} {mo : Mo} {a : Act} {w w1 : World} (h : ZF P ops y mo a w) (hw : ∀ s, mo = .at s → s < w.heap.size → w1.heap[s]? = w.heap[s]?) : ZF P ops y mo a w1 := by
  cases mo with
  | late => trivial
  | void => exact h
  | «at» s =>
    obtain ⟨h1, d, l', e, sh, h2, h3, h4, h5⟩ := h
    exact ⟨h1, d, l', e, sh, h2, h3, h4, by rw [hw s rfl (Array.getElem?_eq_some_iff.1 h5).1]; exact h5⟩
/-- .. of all of a cluster. -/
def CF (P : Program) (ops : Array Oper) (c : Clu) (mo : Mo) (a : Act) (w : World) : Prop := ZF P ops c.z mo a w ∧ (mo.up = true → ∀ x ∈ c.ks, KF P ops x a)
theorem CF.put {c : Clu} {mo : Mo} {a : Act} {w : World} (h : CF P ops c mo a w) (hs : ∀ y ∈ c.all, ∀ cs b, y.o.op ≠ .select cs b) {dst : Option Tmp} (hq : ∀ y ∈ c.all, ∀ d, dst = some d → d ∉ y.o.looksAt ops ∧ y.o.dst ≠ some d) (u : Value) : CF P ops c mo (a.put dst u) w :=
  ⟨h.1.put (hs _ (List.mem_cons_self ..)) (hq _ (List.mem_cons_self ..)) u, fun hu x hx => KF.put (x := x) (h.2 hu x hx) (hs x (List.mem_cons_of_mem _ hx)) (hq x (List.mem_cons_of_mem _ hx)) u⟩
end
/-- acts that differ in these operations' temporaries alone. -/
inductive Puts : List OI → Act → Act → Prop
  | nil {a : Act} : Puts [] a a
  | cons {x : OI} {l : List OI} {a a' : Act} {v : Value} (h : Puts l (a.put x.o.dst v) a') : Puts (x :: l) a a'
theorem AR.blind {E : Env} {N : Nat} {A : AA} {a : Act} (h : AR ds E N A a) {d : Option Tmp} (hd : ∀ t, d = some t → A.get t = none) (u : Value) : AR ds E N A (a.put d u) := by
  cases d with
  | none => exact h
  | some t =>
    refine ⟨h.df, by rw [← h.size]; simp [Act.put], h.gl, fun t' v hv => ?_⟩
    have hne : t' ≠ t := fun e => by rw [e, hd t rfl] at hv; cases hv
    obtain ⟨v', e1, r⟩ := h.tm t' v hv
    exact ⟨v', by rw [put_get_ne (fun e => hne (Option.some.inj e).symm)]; exact e1, r⟩
theorem Puts.ar {E : Env} {N : Nat} {A : AA} {l : List OI} {a a' : Act} (h : Puts l a a') (ha : AR ds E N A a) (hf : ∀ x ∈ l, ∀ t, x.o.dst = some t → A.get t = none) : AR ds E N A a' := by
  induction h with
  | nil => exact ha
  | cons h ih => exact ih (ha.blind (hf _ (List.mem_cons_self ..)) _) fun x hx => hf x (List.mem_cons_of_mem _ hx)
theorem Puts.cf {P : Program} {ops : Array Oper} {l : List OI} {a a' : Act} (h : Puts l a a') {c : Clu} {mo : Mo} {w : World} (hc : CF P ops c mo a w) (hs : ∀ y ∈ c.all, ∀ cs b, y.o.op ≠ .select cs b) (hq : ∀ x ∈ l, ∀ y ∈ c.all, Quiet ops x y) : CF P ops c mo a' w := by
  induction h with
  | nil => exact hc
  | @cons x l a a' v h ih => exact ih (hc.put hs (fun y hy d hd => hq _ (List.mem_cons_self ..) y hy d hd) v) fun x hx => hq x (List.mem_cons_of_mem _ hx)
theorem Puts.zf {P : Program} {ops : Array Oper} {l : List OI} {a a' : Act} (h : Puts l a a') {y : OI} {mo : Mo} {w : World} (hc : ZF P ops y mo a w) (hs : ∀ cs b, y.o.op ≠ .select cs b) (hq : ∀ x ∈ l, Quiet ops x y) : ZF P ops y mo a' w := by
  induction h with
  | nil => exact hc
  | @cons x l a a' v h ih => exact ih (hc.put hs (fun d hd => hq _ (List.mem_cons_self ..) d hd) v) fun x hx => hq x (List.mem_cons_of_mem _ hx)
theorem Puts.kf {P : Program} {ops : Array Oper} {l : List OI} {a a' : Act} (h : Puts l a a') {y : OI} (hc : KF P ops y a) (hs : ∀ cs b, y.o.op ≠ .select cs b) (hq : ∀ x ∈ l, Quiet ops x y) : KF P ops y a' := by
  induction h with
  | nil => exact hc
  | @cons x l a a' v h ih => exact ih (KF.put (x := x) hc hs (fun d hd => hq _ (List.mem_cons_self ..) d hd) v) fun x hx => hq x (List.mem_cons_of_mem _ hx)
/-! ### a cluster as it stands in the plan -/
theorem maskL_iff {k : Nat} : ∀ {l : List OI}, (maskL l).testBit k = true ↔ ∃ x ∈ l, x.i = k
  | [] => by
    show (0 : Nat).testBit k = true ↔ _
    simp
  | x :: l => by
    show (Nat.lor (bm x.i) (maskL l)).testBit k = true ↔ _
    rw [tb_lor_iff, tb_bm_iff, maskL_iff (l := l)]
    constructor
    · rintro (h | ⟨y, h1, h2⟩)
      · exact ⟨x, List.mem_cons_self .., h.symm⟩
      · exact ⟨y, List.mem_cons_of_mem _ h1, h2⟩
    · rintro ⟨y, h1, h2⟩
      rcases List.mem_cons.1 h1 with h3 | h3
      · subst h3; exact .inl h2.symm
      · exact .inr ⟨y, h3, h2⟩
theorem zmask_iff {k : Nat} : ∀ {Z : List Clu}, (zmask Z).testBit k = true ↔ ∃ c ∈ Z, (cmask c).testBit k = true
  | [] => by
    show (0 : Nat).testBit k = true ↔ _
    simp
  | c :: Z => by
    show (Nat.lor (cmask c) (zmask Z)).testBit k = true ↔ _
    rw [tb_lor_iff, zmask_iff (Z := Z)]
    simp
structure KOK (ops : Array Oper) (D : Nat → Bool) (m : Nat) (pre : List OI) (x : OI) : Prop where
  oi : IsOI ops x
  pu : isPure x.o.op = true
  ds : isSomeD x.o.dst = true
  own : disM x.dm x.lm = true
  qu : ∀ y ∈ pre, Quiet ops x y
  nd : D x.i = false
  dep : ∃ k, x.pm.testBit k = true ∧ (maskL pre).testBit k = true
  new : ¬ (maskL pre).testBit x.i = true
  fr : ∃ m0, (∀ k, m0.testBit k = true → m.testBit k = true ∨ (maskL pre).testBit k = true) ∧ subM x.pm m0 = true ∧ freeM (infos ops) m0 x = true
def CVk (ops : Array Oper) (D : Nat → Bool) (m : Nat) : List OI → List OI → Prop
  | _, [] => True
  | pre, x :: ks => KOK ops D m pre x ∧ CVk ops D m (pre ++ [x]) ks
structure CV (ops : Array Oper) (D : Nat → Bool) (m : Nat) (c : Clu) : Prop where
  oi : IsOI ops c.z
  ds : isSomeD c.z.o.dst = true
  own : disM c.z.dm c.z.lm = true
  pm : subM c.z.pm m = true
  ks : CVk ops D m [c.z] c.ks
section
variable {ops : Array Oper} {D : Nat → Bool}
theorem KOK.mono {m m' : Nat} (hm : ∀ k, m.testBit k = true → m'.testBit k = true) {pre : List OI} {x : OI} (h : KOK ops D m pre x) : KOK ops D m' pre x := by
  obtain ⟨m0, h1, h2, h3⟩ := h.fr
  exact ⟨h.oi, h.pu, h.ds, h.own, h.qu, h.nd, h.dep, h.new, m0, fun k hk => (h1 k hk).imp (hm k) id, h2, h3⟩
theorem CVk.mono {m m' : Nat} (hm : ∀ k, m.testBit k = true → m'.testBit k = true) : ∀ {ks pre : List OI}, CVk ops D m pre ks → CVk ops D m' pre ks
  | [], _, _ => trivial
  | _ :: _, _, h => ⟨h.1.mono hm, CVk.mono hm h.2⟩
theorem CV.mono {m m' : Nat} (hm : ∀ k, m.testBit k = true → m'.testBit k = true) {c : Clu} (h : CV ops D m c) : CV ops D m' c :=
  ⟨h.oi, h.ds, h.own, subM_of fun k hk => hm k (subM_ok h.pm hk), h.ks.mono hm⟩
theorem CVk.snoc {m : Nat} {x : OI} : ∀ {ks pre : List OI}, CVk ops D m pre ks → KOK ops D m (pre ++ ks) x → CVk ops D m pre (ks ++ [x])
  | [], pre, _, hx => ⟨by simpa using hx, trivial⟩
  | k :: ks, pre, h, hx => ⟨h.1, CVk.snoc h.2 (by simpa using hx)⟩
theorem CVk.oi {m : Nat} : ∀ {ks pre : List OI}, CVk ops D m pre ks → ∀ x ∈ ks, IsOI ops x ∧ isSomeD x.o.dst = true
  | [], _, _, x, hx => by cases hx
  | k :: ks, pre, h, x, hx => by
    rcases List.mem_cons.1 hx with e | e
    · subst e; exact ⟨h.1.oi, h.1.ds⟩
    · exact CVk.oi h.2 x e
theorem CV.all {m : Nat} {c : Clu} (h : CV ops D m c) : ∀ x ∈ c.all, IsOI ops x := fun x hx => by
  rcases List.mem_cons.1 hx with e | e
  · subst e; exact h.oi
  · exact (h.ks.oi x e).1
theorem CVk.dep {m : Nat} : ∀ {ks pre : List OI}, CVk ops D m pre ks → ∀ x ∈ ks, ∃ k, x.pm.testBit k = true ∧ (maskL (pre ++ ks)).testBit k = true
  | [], _, _, x, hx => by cases hx
  | y :: ks, pre, h, x, hx => by
    rcases List.mem_cons.1 hx with e | e
    · subst e
      obtain ⟨k, h1, h2⟩ := h.1.dep
      obtain ⟨z, h3, h4⟩ := maskL_iff.1 h2
      exact ⟨k, h1, maskL_iff.2 ⟨z, List.mem_append_left _ h3, h4⟩⟩
    · obtain ⟨k, h1, h2⟩ := CVk.dep h.2 x e
      exact ⟨k, h1, by simpa using h2⟩
theorem CVk.notpre {m : Nat} : ∀ {ks pre : List OI}, CVk ops D m pre ks → ∀ x ∈ ks, ¬ (maskL pre).testBit x.i = true
  | [], _, _, x, hx => by cases hx
  | y :: ks, pre, h, x, hx => by
    rcases List.mem_cons.1 hx with e | e
    · subst e; exact h.1.new
    · intro hh
      obtain ⟨z, h3, h4⟩ := maskL_iff.1 hh
      exact CVk.notpre h.2 x e (maskL_iff.2 ⟨z, List.mem_append_left _ h3, h4⟩)
end
theorem CVk.quiet {ops : Array Oper} {D : Nat → Bool} {m : Nat} : ∀ {ks pre : List OI}, CVk ops D m pre ks → ∀ x ∈ ks, ∀ y ∈ pre, Quiet ops x y
  | [], _, _, x, hx => by cases hx
  | z :: ks, pre, h, x, hx => fun y hy => by
    rcases List.mem_cons.1 hx with e | e
    · subst e; exact h.1.qu y hy
    · exact CVk.quiet h.2 x e y (List.mem_append_left _ hy)
theorem isSomeD_ok {d : Option Tmp} (h : isSomeD d = true) : ∃ t, d = some t := by
  cases d with
  | none => cases h
  | some t => exact ⟨t, rfl⟩
/-! ### what is taken behind an operation that has come up early -/
theorem runK_cons (T : Cx) (ops : List Oper) (x : OI) (l : List OI) (A : AA) (H : Hp) : runK T ops (x :: l) A H = runK1 T ops x (runK T ops l) A H := rfl
/-- one step of it. -/
theorem runK1_ok {P : Program} {T : Cx} (hT : Fits P T) {ops : Array Oper} {x : OI} {k : AA → Hp → AH} {A : AA} {H : Hp} {r : AA × Hp} (h : runK1 T ops.toList x k A H = some r) (hpu : isPure x.o.op = true) {E : Env} {a : Act} (ha : AR ds E H.next A a) :
    ∃ v v' A1, YieldsIf P ops (fun _ => True) x.o v' a ∧ VR E H.next v v' ∧ putA A x.o.dst v = some A1 ∧ k A1 H = some r := by
  unfold runK1 at h
  split at h
  · rename_i hw
    have hwant := wantedA_ok ha hw
    split at h
    · rename_i q hop
      obtain ⟨v, H1⟩ := q
      unfold thenA at h
      split at h
      · rename_i A1 hp
        obtain ⟨v', e1, hv, hrun⟩ := opD_pure hT hpu A H v H1 hop E a ha
        exact ⟨v, v', A1, .inl ⟨hwant, fun w _ => hrun w⟩, hv, hp, h⟩
      · cases h
    · cases h
  · rename_i hw
    have hwant := wantedA_ok ha hw
    unfold thenA at h
    split at h
    · rename_i A1 hp
      exact ⟨undef, undef, A1, .inr ⟨hwant, rfl⟩, VR.undef, hp, h⟩
    · cases h
  · cases h
theorem KF.now {P : Program} {ops : Array Oper} {x : OI} (hx : IsOI ops x) (hs : ∀ cs b, x.o.op ≠ .select cs b) (hown : disM x.dm x.lm = true) {a : Act} {v' v : Value} {A A1 : AA} {E : Env} {N : Nat} (ha : AR ds E N A a) (hp : putA A x.o.dst v = some A1) (hd : isSomeD x.o.dst = true) (hy : YieldsIf P ops (fun _ => True) x.o v' a) : KF P ops x (a.put x.o.dst v') := by
  obtain ⟨d, hdd⟩ := isSomeD_ok hd
  have hl : ∀ t, x.o.dst = some t → t ∉ x.o.looksAt ops := fun t ht h => disM_ok hown (hx.dm.2 ht) (hx.lm.2 h)
  refine ⟨d, v', hdd, ?_, hy.of_same (execOp_put x.o hs a _ v' hl) (wanted_put x.o a _ v' hl)⟩
  rw [hdd] at hp ⊢
  obtain ⟨h1, _⟩ := AA.set_spec (show A.set d v = some A1 from hp)
  have hs := ha.size
  simp [Act.put, hs, h1]
theorem take_oi {P : Program} {ops : Array Oper} {Q : Exit → Act → World → Prop} {S S1 : World → Prop} {D : Nat → Bool} {x : OI} (hx : IsOI ops x) (hns : Region.noSelect ops = true) (hQ : ∀ c a w v, Q (.panic c) (a.put x.o.dst v) w → Q (.panic c) a w) (hDi : D x.i = false)
    (hD : (∀ w, S1 w) ∨ ((∀ w, S w → S1 w) ∧ ∀ j, D j = true → (ops[j]?).isSome = true ∧ ∃ n, reachB ops x.i n j = true)) {m0 : Nat} {M : Nat → Prop} {n : Nat} {listed : Array Bool} {a : Act} {w : World} {v : Value} (hl : LM ops M listed) (hcl : ClosedL ops listed)
    (hm : ∀ k, m0.testBit k = true → M k) (hp : subM x.pm m0 = true) (hf : freeM (infos ops) m0 x = true) (hn : ¬ M x.i) (hy : YieldsIf P ops S1 x.o v a) (hS : NoD D listed → S w)
    (h : wpD P ops Q D S n (listed.setIfInBounds x.i true) (a.put x.o.dst v) w) : wpD P ops Q D S (n + 1) listed a w :=
  wpD_take hx.1 hns (fun c a w => hQ c a w v) hDi hD n listed a w hcl (free_oi hl hx hf hm) (oi_ready hl hx hn fun k hk => hm k (subM_ok hp hk)) hy hS h
theorem take_ks {P : Program} {T : Cx} (hT : Fits P T) {ops : Array Oper} (hns : Region.noSelect ops = true) {D : Nat → Bool} {Q : Exit → Act → World → Prop} (hQ : ∀ c a w d v, Q (.panic c) (a.put d v) w → Q (.panic c) a w) {S : World → Prop} {m : Nat} {w : World} {E : Env} {H : Hp} {r : AA × Hp} :
    ∀ (ks pre : List OI) (M : Nat → Prop) (listed : Array Bool) (a : Act) (A : AA) (f : Nat), cntF listed ≤ f → CVk ops D m pre ks → runK T ops.toList ks A H = some r → AR ds E H.next A a → LM ops M listed → ClosedL ops listed → (∀ k, m.testBit k = true ∨ (maskL pre).testBit k = true → M k) → (∀ x ∈ ks, ¬ M x.i) → (NoD D listed → S w) →
      (∀ listed' a' g, g ≤ f → cntF listed' ≤ g → LM ops (fun k => M k ∨ (maskL ks).testBit k = true) listed' → ClosedL ops listed' → (NoD D listed' → NoD D listed) → Puts ks a a' → (∀ x ∈ ks, KF P ops x a') → wpD P ops Q D S g listed' a' w) → wpD P ops Q D S f listed a w
  | [], pre, M, listed, a, A, f, hcf, hcv, hrun, ha, hl, hcl, hm, hn, hS, hK => by
    refine hK listed a f (Nat.le_refl _) hcf ⟨hl.size, fun k => ?_⟩ hcl id .nil (fun x hx => by cases hx)
    rw [hl.at_]
    constructor
    · exact .inl
    · rintro (h | h)
      · exact h
      · change (0 : Nat).testBit k = true at h; simp at h
  | x :: ks, pre, M, listed, a, A, f, hcf, hcv, hrun, ha, hl, hcl, hm, hn, hS, hK => by
    obtain ⟨hx, hcv2⟩ := hcv
    rw [runK_cons] at hrun
    obtain ⟨v, v', A1, hy, hv, hp, hrest⟩ := runK1_ok hT hrun hx.pu ha
    obtain ⟨m0, h1, h2, h3⟩ := hx.fr
    have hsel : ∀ cs b, x.o.op ≠ .select cs b := fun cs b => Region.noSelect_spec hns _ _ cs b hx.oi.1
    have hnx := hn x (List.mem_cons_self ..)
    have hlt : listed.getD x.i true = false := by
      refine getD_tf.2 ⟨by rw [hl.size]; exact (Array.getElem?_eq_some_iff.1 hx.oi.1).1, ?_⟩
      cases h : listed.getD x.i false with
      | false => rfl
      | true => exact absurd ((hl.at_ _).1 h) hnx
    have hrd := oi_ready hl hx.oi hnx fun k hk => hm k (h1 k (subM_ok h2 hk))
    have hc1 := cntF_set hlt
    obtain ⟨f, rfl⟩ : ∃ f1, f = f1 + 1 := ⟨f - 1, by omega⟩
    refine take_oi (S1 := fun _ => True) hx.oi hns (fun c a w v => hQ c a w _ v) hx.nd (.inl fun _ => trivial) hl hcl (fun k hk => hm k (h1 k hk)) h2 h3 hnx hy hS ?_
    refine take_ks hT hns hQ ks (pre ++ [x]) (fun k => k = x.i ∨ M k) _ _ A1 f (by omega) hcv2 hrest (ha.put hp hv) (hl.set hx.oi fun k => Iff.rfl) (closed_step hcl hrd) (fun k hk => ?_) (fun y hy2 => ?_) (fun hn2 => hS (noD_set hn2)) ?_
    · rcases hk with hk | hk
      · exact .inr (hm k (.inl hk))
      · obtain ⟨z, hz1, hz2⟩ := maskL_iff.1 hk
        rcases List.mem_append.1 hz1 with h4 | h4
        · exact .inr (hm k (.inr (maskL_iff.2 ⟨z, h4, hz2⟩)))
        · rw [List.mem_singleton] at h4; subst h4; exact .inl hz2.symm
    · rintro (e | e)
      · exact CVk.notpre hcv2 y hy2 (maskL_iff.2 ⟨x, List.mem_append_right _ (List.mem_singleton_self _), e.symm⟩)
      · exact hn y (List.mem_cons_of_mem _ hy2) e
    · intro listed' a' g q7 q8 q1 q2 q4 q5 q6
      refine hK listed' a' g (by omega) q8 ⟨q1.size, fun k => ?_⟩ q2 (fun h => noD_set (q4 h)) (.cons q5) (fun y hy2 => ?_)
      · rw [q1.at_]
        show (k = x.i ∨ M k) ∨ _ ↔ M k ∨ (Nat.lor (bm x.i) (maskL ks)).testBit k = true
        rw [tb_lor_iff, tb_bm_iff]
        constructor
        · rintro ((h | h) | h)
          · exact .inr (.inl h)
          · exact .inl h
          · exact .inr (.inr h)
        · rintro (h | h | h)
          · exact .inl (.inr h)
          · exact .inl (.inl h)
          · exact .inr h
      · rcases List.mem_cons.1 hy2 with e | e
        · subst e
          refine q5.kf (KF.now hx.oi hsel hx.own ha hp hx.ds hy) hsel fun z hz => ?_
          have : ∀ (l pre : List OI), CVk ops D m pre l → y ∈ pre → ∀ z ∈ l, Quiet ops z y := by
            intro l
            induction l with
            | nil => intro pre _ _ z hz; cases hz
            | cons u l ihl =>
              intro pre hc hmem z hz
              rcases List.mem_cons.1 hz with e2 | e2
              · subst e2; exact hc.1.qu y hmem
              · exact ihl (pre ++ [u]) hc.2 (List.mem_append_left _ hmem) z e2
          exact this ks _ hcv2 (List.mem_append_right _ (List.mem_singleton_self _)) z hz
        · exact q6 y e
end
end Go.Proofs.YtdkfimejabanlaaDoor
namespace Go.Proofs.YtdkfimejabanlaaDoor
open Go
set_option linter.unusedVariables false
set_option linter.unusedSimpArgs false
noncomputable section
variable {ds : List Deferred}
/-! ### an operation in its turn: what its temporary turns into is told, too -/
def Cont2 (ds : List Deferred) (o : Oper) (E : Env) (A : AA) (a : Act) (H : Hp) (w : World) (rest : Rest) (e : Ex) (A' : AA) (H' : Hp) (K : Act → World → Prop) : Prop :=
  ∀ E1 A1 H1 v v' w1, rest A1 H1 = .code e A' H' → putA A o.dst v = some A1 → Gd E E1 H H1 w w1 → AR ds E1 H1.next A1 (a.put o.dst v') → HRel E1 H1 w1 → K (a.put o.dst v') w1
theorem doOp_ok2 {P : Program} {T : Cx} (hT : Fits P T) {ih : Cmd → Out} (hih : CallsOk P T ih) {id : Nat} {o : Oper} {rest : Rest} {A A' : AA} {H H' : Hp} {e : Ex} (h : doOp T ih id o rest A H = .code e A' H') {E : Env} {a : Act} {w : World} (ha : AR ds E H.next A a) (hr : HRel E H w)
    {K : Act → World → Prop} {Q : Exit → Act → World → Prop} (hK : Cont2 ds o E A a H w rest e A' H' K) : o.wp P a w K Q := by
  unfold doOp at h
  cases hx : xcallOf T A H o.op with
  | some r =>
    obtain ⟨v, H1⟩ := r
    rw [hx] at h
    obtain ⟨A1, hp, hrest⟩ := put1_ok h
    obtain ⟨E1, v', w', h1, h2, h3, h4⟩ := ext_ok (P := P) hT ha hx hr
    unfold Oper.wp
    rw [h1]
    exact hK E1 A1 H1 v v' _ hrest hp h2 ((ha.mono h2.ag h2.le).put hp h3) h4
  | none =>
  rw [hx] at h
  change doOp0 T ih id o rest A H = .code e A' H' at h
  unfold doOp0 at h
  cases hk : kdOf o.op with
  | plain =>
    rw [hk] at h
    change doPlain T id o rest A H = .code e A' H' at h
    rw [doPlain_def] at h
    split at h
    · rename_i r hop
      obtain ⟨v, H1⟩ := r
      obtain ⟨A1, hp, hrest⟩ := put1_ok h
      obtain ⟨E1, v', w1, n, h1, h2, h3, h4, h5⟩ := opF_ok hT A H v H1 hop E a w ha hr
      have ha1 := (ha.mono h3.ag h3.le).put hp h4
      unfold Oper.wp
      rw [h1]
      rcases h2 with rfl | ⟨rfl, rfl⟩
      · exact hK E1 A1 H1 _ _ _ hrest hp h3 ha1 h5
      · exact hK E1 A1 H1 _ _ _ hrest hp h3 ha1 h5
    · cases h
  | inv x m args =>
    rw [hk] at h
    change doInv T ih o rest A H (methV T (ev A x) m) (evL A args) = .code e A' H' at h
    unfold doInv at h
    split at h
    · rename_i f u hm
      split at h
      · rename_i vs hvs
        obtain ⟨hg, h⟩ : Nat.beq A.g T.g = true ∧ doCall2 o rest A (ih (.call f (u :: vs) H)) = .code e A' H' := by
          cases hb : Nat.beq A.g T.g with
          | true => rw [hb] at h; exact ⟨rfl, h⟩
          | false => rw [hb] at h; cases h
        unfold doCall2 at h
        split at h
        · rename_i v H1 hcall
          obtain ⟨A1, hp, hrest⟩ := put1_ok h
          obtain ⟨as', hrun, hC⟩ := inv_run hT hih hk hm hvs hcall (Nat.eq_of_beq_eq_true hg) ha hr
          unfold Oper.wp
          rw [hrun, Oper.upon_enter]
          refine hC.mono fun en w1 hh => ?_
          obtain ⟨E1, v', rfl, g1, g2, g3⟩ := hh
          exact hK E1 A1 H1 _ _ _ hrest hp g1 ((ha.mono g1.ag g1.le).put hp g2) g3
        · cases h
        · cases h
      · cases h
    · cases h
  | call f args =>
    rw [hk] at h
    change doCall T ih o rest A H (ev A f) (evL A args) = .code e A' H' at h
    unfold doCall at h
    split at h
    · rename_i fid x1 x2 hf
      split at h
      · rename_i vs hvs
        obtain ⟨hg, h⟩ : Nat.beq A.g T.g = true ∧ doCall2 o rest A (ih (.call fid (addCap (addFirst x1.toList vs) x2.toList) H)) = .code e A' H' := by
          cases hb : Nat.beq A.g T.g with
          | true => rw [hb] at h; exact ⟨rfl, h⟩
          | false => rw [hb] at h; cases h
        have hg2 := Nat.eq_of_beq_eq_true hg
        unfold doCall2 at h
        split at h
        · rename_i v H1 hcall
          obtain ⟨A1, hp, hrest⟩ := put1_ok h
          obtain ⟨⟨fn, q1, q2, q3⟩, hc⟩ := hih fid _ H v H1 hcall
          obtain ⟨tys, ho⟩ := kdOf_call hk
          obtain ⟨l', m', e3, r1, r2⟩ := (ev_ok ha hf).fn
          have hvl := addCap_vl r2 (addFirst_vl r1 (evL_ok ha hvs))
          have hC := hc E _ w hvl hr (fun g hgg => ha.gl g (by rw [hg2]; exact hgg))
          unfold Oper.wp
          have hrun : (execOp a.eval o).run P w = .ok (.enter fid ((l' ++ args.map a.eval) ++ m').toArray) w := by
            simp [execOp, ho, resolve, Deferred.ofValue, e3, invoke, call_run q1 q2 q3]
          rw [hrun, Oper.upon_enter]
          refine hC.mono fun en w1 hh => ?_
          obtain ⟨E1, v', rfl, g1, g2, g3⟩ := hh
          exact hK E1 A1 H1 _ _ _ hrest hp g1 ((ha.mono g1.ag g1.le).put hp g2) g3
        · cases h
        · cases h
      · cases h
    · cases h
/-! ### an operation that is taken first -/
theorem tk_ok {P : Program} {T : Cx} (hT : Fits P T) {ops : Array Oper} (hns : Region.noSelect ops = true) {id : Nat} {A' : AA} {H' : Hp} {e : Ex} {D : Nat → Bool} {Q : Exit → Act → World → Prop} (hQ : ∀ c a w d v, Q (.panic c) (a.put d v) w → Q (.panic c) a w) {x : OI} (hx : IsOI ops x) {rest : Rest2} {held : List (Nat × Nat × Value)} {HL : List (Addr × Value)} {S : World → Prop} {A : AA} {H : Hp} {E : Env} {a : Act} {w : World} {M : Nat → Prop} {listed : Array Bool} {g m0 : Nat}
    (h : tkStep T id x.o rest held A H (wantedA ops.toList A x.o) = .code e A' H') (hl : LM ops M listed) (hcl : ClosedL ops listed) (hm : ∀ k, m0.testBit k = true → M k) (hp : subM x.pm m0 = true) (hf : freeM (infos ops) m0 x = true) (hn : ¬ M x.i)
    (hd : ∀ j, D j = true → x.i ≠ j ∧ (ops[j]?).isSome = true ∧ (pureAt T ops x.i = false → ∃ n, reachB ops x.i n j = true)) (ha : AR ds E H.next A a) (hr : HRel E H w) (hh : HeldR E H.next held HL) (hs : Keeps D S HL listed w)
    (hK : ∀ held2 HL2 S2 A1 v v', rest held2 A1 H = .code e A' H' → putA A x.o.dst v = some A1 → AR ds E H.next A1 (a.put x.o.dst v') → HeldR E H.next held2 HL2 → Keeps D S2 HL2 (listed.setIfInBounds x.i true) w → wpD P ops Q D S2 g (listed.setIfInBounds x.i true) (a.put x.o.dst v') w) :
    wpD P ops Q D S (g + 1) listed a w := by
  have hrd := oi_ready hl hx hn fun k hk => hm k (subM_ok hp hk)
  have hDi : D x.i = false := by
    cases hD : D x.i with
    | false => rfl
    | true => exact absurd rfl (hd _ hD).1
  have hs1 : Keeps D S HL (listed.setIfInBounds x.i true) w := fun hn => hs (noD_set hn)
  have take : ∀ {S S1 : World → Prop} {v : Value}, ((∀ w, S1 w) ∨ ((∀ w, S w → S1 w) ∧ ∀ j, D j = true → (ops[j]?).isSome = true ∧ ∃ n, reachB ops x.i n j = true)) → YieldsIf P ops S1 x.o v a → (NoD D listed → S w) → wpD P ops Q D S g (listed.setIfInBounds x.i true) (a.put x.o.dst v) w → wpD P ops Q D S (g + 1) listed a w := fun h1 h2 h3 h4 =>
    take_oi hx hns (fun c a w v => hQ c a w _ v) hDi h1 hl hcl hm hp hf hn h2 h3 h4
  have hNo : pureAt T ops x.i = false → (∀ j, D j = true → (ops[j]?).isSome = true ∧ ∃ n, reachB ops x.i n j = true) ∧ NoD D listed := fun hpa => by
    have hDr : ∀ j, D j = true → (ops[j]?).isSome = true ∧ ∃ n, reachB ops x.i n j = true := fun j hj => by
      obtain ⟨_, h2, h3⟩ := hd j hj
      exact ⟨h2, h3 hpa⟩
    refine ⟨hDr, fun d hd0 => ?_⟩
    cases hlb : listed.getD d false with
    | false => rfl
    | true =>
      obtain ⟨h3, n0, h4⟩ := hDr d hd0
      obtain ⟨o2, ho2⟩ := Option.isSome_iff_exists.1 h3
      have := reach_listed hcl n0 d o2 ho2 (hcl d o2 ho2 hlb) h4
      exact absurd ((hl.at_ _).1 this) hn
  rw [tkStep_def] at h
  split at h
  · rename_i hw
    have hwant := wantedA_ok ha hw
    rw [takeStep_def] at h
    cases hpu : isPure x.o.op with
    | true =>
      rw [hpu, ite'_true] at h
      rw [takePut_def] at h
      split at h
      · rename_i r hop
        obtain ⟨v, H1⟩ := r
        obtain ⟨A1, hput, hrest⟩ := put1_ok h
        obtain ⟨v', e1, hv, hrun⟩ := opD_pure hT hpu A H v H1 hop E a ha
        have e1' : H1 = H := e1
        subst e1'
        exact take (S1 := fun _ => True) (.inl fun _ => trivial) (.inl ⟨hwant, fun w2 _ => hrun w2⟩) (fun hn => (hs hn).1 _ (hs hn).2) (hK held HL S A1 v v' hrest hput (ha.put hput hv) hh hs1)
      · unfold takeMem at h
        split at h
        · rename_i c hc
          obtain ⟨sT, dT, y⟩ := c
          have hop : x.o.op = .convert sT dT y := by
            unfold convOf at hc
            split at hc
            · cases hc; assumption
            · cases hc
          simp only at h
          unfold takeConv at h
          split at h
          · rename_i p n c0 hxx
            split at h
            · rename_i cl hcl2
              obtain ⟨hb, h⟩ := ite'_out h
              split at h
              · rename_i v hv
                obtain ⟨A1, hput, hrest⟩ := put1_ok h
                have hpa : pureAt T ops x.i = false := by
                  unfold pureAt; rw [hx.1]
                  show ite' (isPure x.o.op) (convB T (convOf x.o.op)) false = false
                  rw [hpu, ite'_true, hc]
                  show Bool.not (b2s T sT dT) = false
                  rw [hb]; rfl
                obtain ⟨hDr, hNoD⟩ := hNo hpa
                obtain ⟨e0, q1, q2, q3⟩ := b2s_ok hT hb
                obtain ⟨_, hpb, c', e2, _⟩ := (ev_ok ha hxx).sl
                obtain ⟨hcn, l', r1, hcw⟩ := hr.cells hcl2
                have hcw2 : ∀ i u, l'[i]? = some u → w.cell? ⟨E.s p.block, p.off + i, none⟩ = some u := fun i u hu => by
                  rw [hcw i (by have := (List.getElem?_eq_some_iff.1 hu).1; rw [← r1.length, hcn] at this; exact this)]; exact hu
                obtain ⟨HL2, hh2, hiff⟩ := heldOf_ok (E := E) hpb hh p.off r1
                have hs2 : SS HL2 w := (hiff w).2 ⟨hcw2, (hs hNoD).2⟩
                have hto : ∀ w2, SS HL2 w2 → S w2 := fun w2 hw2 => (hs hNoD).1 w2 ((hiff w2).1 hw2).2
                have hpl := (textOf_run (P := P) (b := E.s p.block) (off := p.off) (c := c') q1 q2 q3 hv r1 hcn (w := w) hcw2).2
                refine wpD_mono (S' := SS HL2) hto _ _ _ _ ?_
                refine take (S1 := SS HL2) (v := v) (.inr ⟨fun _ h => h, hDr⟩) (.inl ⟨hwant, fun w2 hw2 => ?_⟩) (fun _ => hs2) (hK _ HL2 (SS HL2) A1 v v hrest hput (ha.put hput (.same hpl)) hh2 (fun _ => ⟨fun _ h => h, hs2⟩))
                have := (textOf_run (P := P) (b := E.s p.block) (off := p.off) (c := c') q1 q2 q3 hv r1 hcn (w := w2) ((hiff w2).1 hw2).1).1
                simp [execOp, hop, e2, this]
              · cases h
            · cases h
          · rename_i l0 c0 hxx
            obtain ⟨hb, h⟩ := ite'_out h
            obtain ⟨A1, hput, hrest⟩ := put1_ok h
            obtain ⟨e0, q1, q2, q3⟩ := b2s_ok hT hb
            obtain ⟨_, _, e2⟩ := (ev_ok ha hxx).snil
            refine take (S1 := fun _ => True) (v := .string ByteArray.empty) (.inl fun _ => trivial) (.inl ⟨hwant, fun w2 _ => ?_⟩) (fun hn => (hs hn).1 _ (hs hn).2) (hK held HL S A1 _ _ hrest hput (ha.put hput (.same rfl)) hh hs1)
            have := run_convert_bytes_nil (P := P) w2 sT e0 q1 q2 0 0 dT q3
            simp [execOp, hop, e2, this]
          · cases h
        · cases h
    | false =>
      rw [hpu, ite'_false] at h
      have hpa : pureAt T ops x.i = false := by
        unfold pureAt; rw [hx.1]
        show ite' (isPure x.o.op) (convB T (convOf x.o.op)) false = false
        rw [hpu]
      obtain ⟨hDr, hNoD⟩ := hNo hpa
      split at h
      · rename_i t y hop
        unfold takeLoad at h
        split at h
        · rename_i p hxx
          split at h
          · rename_i n hnn
            split at h
            · rename_i cl hcl2
              rw [takePut_def] at h
              split at h
              · rename_i r hopd
                obtain ⟨v, H1⟩ := r
                obtain ⟨A1, hput, hrest⟩ := put1_ok h
                rw [hop] at hopd
                change o_load t y T A H = some (v, H1) at hopd
                unfold o_load at hopd
                rw [hxx] at hopd
                simp only at hopd
                split at hopd
                · rename_i u hu
                  cases hopd
                  obtain ⟨_, hpb, e2⟩ := (ev_ok ha hxx).pptr
                  obtain ⟨l', v', r1, r2, hl', hcw, hrun⟩ := load_held (P := P) hT hr hu hnn hcl2
                  obtain ⟨HL2, hh2, hiff⟩ := heldOf_ok (E := E) hpb hh p.off r1
                  have hs2 : SS HL2 w := (hiff w).2 ⟨hcw, (hs hNoD).2⟩
                  have hto : ∀ w2, SS HL2 w2 → S w2 := fun w2 hw2 => (hs hNoD).1 w2 ((hiff w2).1 hw2).2
                  refine wpD_mono (S' := SS HL2) hto _ _ _ _ ?_
                  refine take (S1 := SS HL2) (v := v') (.inr ⟨fun _ h => h, hDr⟩) (.inl ⟨hwant, fun w2 hw2 => ?_⟩) (fun _ => hs2) (hK _ HL2 (SS HL2) A1 _ v' hrest hput (ha.put hput r2) hh2 (fun _ => ⟨fun _ h => h, hs2⟩))
                  have := hrun w2 ((hiff w2).1 hw2).1
                  simp [execOp, hop, e2, Instr.loadAt, Instr.sureAddr, this]
                · cases hopd
              · cases h
            · cases h
          · cases h
        · cases h
      · cases h
  · rename_i hw
    have hwant := wantedA_ok ha hw
    obtain ⟨A1, hput, hrest⟩ := put1_ok h
    exact take (S1 := fun _ => True) (.inl fun _ => trivial) (.inr ⟨hwant, rfl⟩) (fun hn => (hs hn).1 _ (hs hn).2) (hK held HL S A1 _ _ hrest hput (ha.put hput VR.undef) hh hs1)
  · cases h
/-! ### what came up early is claimed -/
theorem runK_early {P : Program} {T : Cx} (hT : Fits P T) {ops : Array Oper} {D : Nat → Bool} {m : Nat} {E : Env} {H : Hp} {a : Act} (w : World) {r : AA × Hp} : ∀ (ks pre : List OI) (A : AA), CVk ops D m pre ks → runK T ops.toList ks A H = some r → AR ds E H.next A a → (∀ x ∈ ks, KF P ops x a) → AR ds E H.next r.1 a ∧ r.2 = H
  | [], pre, A, hcv, h, ha, hk => by
    cases h; exact ⟨ha, rfl⟩
  | x :: ks, pre, A, hcv, h, ha, hk => by
    rw [runK_cons] at h
    obtain ⟨v, v', A1, hy, hv, hp, hrest⟩ := runK1_ok (P := P) hT h hcv.1.pu ha
    obtain ⟨d, u, h1, h2, h3⟩ := hk x (List.mem_cons_self ..)
    have e : v' = u := by
      rcases hy with ⟨w1, y1⟩ | ⟨w1, y1⟩ <;> rcases h3 with ⟨w2, y2⟩ | ⟨w2, y2⟩
      · have e1 := y1 w trivial
        rw [y2 w trivial] at e1
        cases e1; rfl
      · rw [w1] at w2; cases w2
      · rw [w1] at w2; cases w2
      · rw [y1, y2]
    subst e
    have ha1 := ha.put hp hv
    rw [h1, put_same h2] at ha1
    exact runK_early hT w ks _ A1 hcv.2 hrest ha1 fun y hy => hk y (List.mem_cons_of_mem _ hy)
theorem alloc_inj {w : World} {o o2 : Obj} (h : w.alloc o = w.alloc o2) : o = o2 := by
  have h1 : (w.alloc o).heap = (w.alloc o2).heap := by rw [h]
  have h2 : w.heap.push o = w.heap.push o2 := h1
  have h3 : (w.heap.push o)[w.heap.size]? = (w.heap.push o2)[w.heap.size]? := by rw [h2]
  simpa using h3
theorem close_early {P : Program} {T : Cx} (hT : Fits P T) {ops : Array Oper} {D : Nat → Bool} {m : Nat} {c : Clu} {mo : Mo} {E : Env} {A : AA} {H : Hp} {a : Act} {w : World} {r : AA × Hp} (h : closeC T ops.toList A H c = some r) (hcv : CV ops D m c) (ha : AR ds E H.next A a) (hr : HRel E H w) (hcf : CF P ops c mo a w) (hup : mo.up = true) (hun : ∀ s, mo = .at s → ∀ b x, H.b.get b = some x → E.s b ≠ s) :
    ∃ E2, Agree E E2 H.next ∧ H.next ≤ r.2.next ∧ AR ds E2 r.2.next r.1 a ∧ HRel E2 r.2 w ∧ ∀ b x, r.2.b.get b = some x → (H.b.get b = some x ∧ E2.s b = E.s b) ∨ mo = .at (E2.s b) := by
  obtain ⟨hz, hks⟩ := hcf
  have hks2 : ∀ x ∈ c.ks, KF P ops x a := hks hup
  unfold closeC at h
  split at h
  · rename_i hw
    have hwant := wantedA_ok ha hw
    split at h
    · rename_i k hk
      cases mo with
      | late => cases hup
      | void => rw [hz.1] at hwant; cases hwant
      | «at» s =>
        obtain ⟨_, d, l', e, sh, h2, h3, h4, h5⟩ := hz
        obtain ⟨l2, r1, r2, r3⟩ := lateZ_ok (P := P) hT hk ha
        have e1 := r2 w
        rw [h4 w] at e1
        injection e1 with e1 e2
        injection e1 with e1
        have e3 := Sh.at_inj e1
        have e4 := alloc_inj e2
        subst e3
        rw [e4] at h5
        have hcl := hr.claim h5 (hun s rfl) r1
        unfold thenA at h
        split at h
        · rename_i A1 hp
          have hs1 : (E.add H.next s 0).s H.next = s := by simp [Env.add]
          have ha0 : AR ds (E.add H.next s 0) (H.next + 1) A a := ha.mono (Env.add_agree _ _ _ _) (Nat.le_succ _)
          have ha1 := ha0.put hp (Sh.vr (E := E.add H.next s 0) (N := H.next) r3 hs1)
          rw [h2, put_same h3] at ha1
          obtain ⟨q1, q2⟩ := runK_early (P := P) (E := E.add H.next s 0) hT w c.ks _ A1 hcv.ks h ha1 hks2
          refine ⟨E.add H.next s 0, Env.add_agree _ _ _ _, by rw [q2]; exact Nat.le_succ _, by rw [q2]; exact q1, by rw [q2]; exact hcl, fun b x hb => ?_⟩
          rw [q2] at hb
          simp only [newB, Hp.new, Tr.get_put] at hb
          split at hb
          · rename_i e5; subst e5; exact .inr (by rw [hs1])
          · exact .inl ⟨hb, (Env.add_agree E H.next s 0 b (hr.lt _ _ hb)).1⟩
        · cases h
    · cases h
  · rename_i hw
    have hwant := wantedA_ok ha hw
    cases mo with
    | late => cases hup
    | «at» s => rw [hz.1] at hwant; cases hwant
    | void =>
      obtain ⟨_, d, h2, h3⟩ := hz
      unfold thenA at h
      split at h
      · rename_i A1 hp
        have ha1 := ha.put hp (VR.undef (E := E) (N := H.next))
        rw [h2, put_same h3] at ha1
        obtain ⟨q1, q2⟩ := runK_early (P := P) hT w c.ks _ A1 hcv.ks h ha1 hks2
        exact ⟨E, Agree.refl _ _, by rw [q2]; exact Nat.le_refl _, by rw [q2]; exact q1, by rw [q2]; exact hr, fun b x hb => .inl ⟨by rw [q2] at hb; exact hb, rfl⟩⟩
      · cases h
  · cases h
end
end Go.Proofs.YtdkfimejabanlaaDoor
namespace Go.Proofs.YtdkfimejabanlaaDoor
open Go
set_option linter.unusedVariables false
set_option linter.unusedSimpArgs false
noncomputable section
variable {ds : List Deferred}
/-! ### the clusters that are open -/
structure ZI (ops : Array Oper) (D : Nat → Bool) (m : Nat) (Z : List Clu) : Prop where
  nd : (Z.map fun c => c.z.i).Nodup
  cv : ∀ c ∈ Z, CV ops D m c
  dm : ∀ c ∈ Z, ∀ k, (cmask c).testBit k = true → ¬ m.testBit k = true
  dz : ∀ c ∈ Z, ∀ c' ∈ Z, c.z.i ≠ c'.z.i → ∀ k, (cmask c).testBit k = true → ¬ (cmask c').testBit k = true
  qt : ∀ c ∈ Z, ∀ c' ∈ Z, c.z.i ≠ c'.z.i → ∀ x ∈ c.all, ∀ y ∈ c'.all, Quiet ops x y
theorem ZI.of_perm {ops : Array Oper} {D : Nat → Bool} {m : Nat} {Z Z' : List Clu} (h : ZI ops D m Z) (p : Z.Perm Z') : ZI ops D m Z' :=
  ⟨(p.map _).nodup_iff.1 h.nd, fun c hc => h.cv c (p.mem_iff.2 hc), fun c hc => h.dm c (p.mem_iff.2 hc), fun c hc c' hc' => h.dz c (p.mem_iff.2 hc) c' (p.mem_iff.2 hc'), fun c hc c' hc' => h.qt c (p.mem_iff.2 hc) c' (p.mem_iff.2 hc')⟩
theorem ZI.tail {ops : Array Oper} {D : Nat → Bool} {m : Nat} {c : Clu} {Z : List Clu} (h : ZI ops D m (c :: Z)) : ZI ops D m Z :=
  ⟨(List.nodup_cons.1 h.nd).2, fun c hc => h.cv c (List.mem_cons_of_mem _ hc), fun c hc => h.dm c (List.mem_cons_of_mem _ hc), fun c hc c' hc' => h.dz c (List.mem_cons_of_mem _ hc) c' (List.mem_cons_of_mem _ hc'), fun c hc c' hc' => h.qt c (List.mem_cons_of_mem _ hc) c' (List.mem_cons_of_mem _ hc')⟩
theorem ZI.mono {ops : Array Oper} {D : Nat → Bool} {m m' : Nat} {Z : List Clu} (h : ZI ops D m Z) (hm : ∀ k, m.testBit k = true → m'.testBit k = true) (hd : ∀ c ∈ Z, ∀ k, (cmask c).testBit k = true → ¬ m'.testBit k = true) : ZI ops D m' Z :=
  ⟨h.nd, fun c hc => (h.cv c hc).mono hm, hd, h.dz, h.qt⟩
theorem ZI.ne {ops : Array Oper} {D : Nat → Bool} {m : Nat} {c : Clu} {Z : List Clu} (h : ZI ops D m (c :: Z)) : ∀ c' ∈ Z, c'.z.i ≠ c.z.i := fun c' hc' e =>
  (List.nodup_cons.1 h.nd).1 (List.mem_map.2 ⟨c', hc', e⟩)
theorem findC_spec : ∀ {Z : List Clu} {z : Nat} {r : Clu × List Clu}, findC Z z = some r → Z.Perm (r.1 :: r.2) ∧ r.1.z.i = z
  | [], z, r, h => by cases h
  | c :: Z, z, r, h => by
    change ite' (Nat.beq c.z.i z) (some (c, Z)) (match findC Z z with
      | some r => some (r.1, c :: r.2)
      | none => none) = some r at h
    cases hb : Nat.beq c.z.i z with
    | true => rw [hb] at h; cases h; exact ⟨List.Perm.refl _, Nat.eq_of_beq_eq_true hb⟩
    | false =>
      rw [hb, ite'_false] at h
      split at h
      · rename_i q hq
        cases h
        obtain ⟨p, e⟩ := findC_spec hq
        exact ⟨(p.cons c).trans (List.Perm.swap _ _ _), e⟩
      · cases h
theorem cmask_iff {c : Clu} {k : Nat} : (cmask c).testBit k = true ↔ ∃ x ∈ c.all, x.i = k := maskL_iff
theorem cmask_z (c : Clu) : (cmask c).testBit c.z.i = true := cmask_iff.2 ⟨c.z, List.mem_cons_self .., rfl⟩
/-- what has come up. -/
def UpM (m : Nat) (Z : List Clu) (md : Nat → Mo) (k : Nat) : Prop := m.testBit k = true ∨ ∃ c ∈ Z, (md c.z.i).up = true ∧ (cmask c).testBit k = true
theorem LM.congr {ops : Array Oper} {M M' : Nat → Prop} {listed : Array Bool} (h : LM ops M listed) (e : ∀ k, M k ↔ M' k) : LM ops M' listed := ⟨h.size, fun k => (h.at_ k).trans (e k)⟩
/-- what holds of the memory and the temporaries of those that are open. -/
structure DI (P : Program) (ops : Array Oper) (Z : List Clu) (md : Nat → Mo) (A : AA) (H : Hp) (E : Env) (a : Act) (w w0 : World) : Prop where
  cf : ∀ c ∈ Z, CF P ops c (md c.z.i) a w
  un : ∀ c ∈ Z, ∀ s, md c.z.i = .at s → w0.heap.size ≤ s ∧ ∀ b x, H.b.get b = some x → E.s b ≠ s
  ds : ∀ c ∈ Z, ∀ c' ∈ Z, ∀ s, md c.z.i = .at s → md c'.z.i = .at s → c.z.i = c'.z.i
  fg : ∀ c ∈ Z, ∀ x ∈ c.all, ∀ t, x.o.dst = some t → A.get t = none
theorem DI.of_perm {P : Program} {ops : Array Oper} {Z Z' : List Clu} {md : Nat → Mo} {A : AA} {H : Hp} {E : Env} {a : Act} {w w0 : World} (h : DI P ops Z md A H E a w w0) (p : Z.Perm Z') : DI P ops Z' md A H E a w w0 :=
  ⟨fun c hc => h.cf c (p.mem_iff.2 hc), fun c hc => h.un c (p.mem_iff.2 hc), fun c hc c' hc' => h.ds c (p.mem_iff.2 hc) c' (p.mem_iff.2 hc'), fun c hc => h.fg c (p.mem_iff.2 hc)⟩
theorem DI.tail {P : Program} {ops : Array Oper} {c : Clu} {Z : List Clu} {md : Nat → Mo} {A : AA} {H : Hp} {E : Env} {a : Act} {w w0 : World} (h : DI P ops (c :: Z) md A H E a w w0) : DI P ops Z md A H E a w w0 :=
  ⟨fun c hc => h.cf c (List.mem_cons_of_mem _ hc), fun c hc => h.un c (List.mem_cons_of_mem _ hc), fun c hc c' hc' => h.ds c (List.mem_cons_of_mem _ hc) c' (List.mem_cons_of_mem _ hc'), fun c hc => h.fg c (List.mem_cons_of_mem _ hc)⟩
theorem putA_get {A A1 : AA} {d : Option Tmp} {v : Value} (h : putA A d v = some A1) {t : Tmp} (ht : d ≠ some t) : A1.get t = A.get t := by
  cases d with
  | none => cases h; rfl
  | some t' =>
    obtain ⟨_, _, _, h4⟩ := AA.set_spec (show A.set t' v = some A1 from h)
    rw [h4, if_neg (fun e => ht (by rw [e]))]
/-- another operation has come up. -/
theorem DI.step {P : Program} {ops : Array Oper} (hsel : ∀ y, IsOI ops y → ∀ cs b, y.o.op ≠ .select cs b) {Z : List Clu} {md : Nat → Mo} {A A1 : AA} {H H1 : Hp} {E E1 : Env} {a : Act} {w w1 w0 : World} {x : OI} {v v' : Value} (h : DI P ops Z md A H E a w w0) (hoi : ∀ c ∈ Z, ∀ y ∈ c.all, IsOI ops y) (hq : ∀ c ∈ Z, ∀ y ∈ c.all, Quiet ops x y)
    (hp : putA A x.o.dst v = some A1) (g : Gd E E1 H H1 w w1) : DI P ops Z md A1 H1 E1 (a.put x.o.dst v') w1 w0 := by
  have hrow : ∀ c ∈ Z, ∀ s, md c.z.i = .at s → s < w.heap.size → w1.heap[s]? = w.heap[s]? := fun c hc s hs hlt => g.frame s hlt fun b y hb _ => (h.un c hc s hs).2 b y hb
  refine ⟨fun c hc => ?_, fun c hc s hs => ⟨(h.un c hc s hs).1, fun b y hb => ?_⟩, h.ds, fun c hc y hy t ht => ?_⟩
  · have h1 := (h.cf c hc).put (fun y hy => hsel y (hoi c hc y hy)) (dst := x.o.dst) (fun y hy d hd => hq c hc y hy d hd) v'
    exact ⟨h1.1.world fun s hs hlt => hrow c hc s hs hlt, h1.2⟩
  · rcases g.dom b y hb with ⟨b0, y0, h1, _, h2⟩ | h1
    · rw [h2]; exact (h.un c hc s hs).2 b0 y0 h1
    · have hz := (h.cf c hc).1
      rw [hs] at hz
      obtain ⟨_, d, l', e, sh, _, _, _, h5⟩ := hz
      have := (Array.getElem?_eq_some_iff.1 h5).1
      omega
  · rw [putA_get hp fun e => (hq c hc y hy t e).2 ht]
    exact h.fg c hc y hy t ht
end
end Go.Proofs.YtdkfimejabanlaaDoor
namespace Go.Proofs.YtdkfimejabanlaaDoor
open Go
set_option linter.unusedVariables false
set_option linter.unusedSimpArgs false
noncomputable section
variable {ds : List Deferred}
theorem nodup_inj {α : Type} {f : α → Nat} : ∀ {l : List α}, (l.map f).Nodup → ∀ x ∈ l, ∀ y ∈ l, f x = f y → x = y
  | [], _, x, hx, _, _, _ => by cases hx
  | z :: l, h, x, hx, y, hy, e => by
    have h1 := List.nodup_cons.1 h
    rcases List.mem_cons.1 hx with e1 | e1 <;> rcases List.mem_cons.1 hy with e2 | e2
    · rw [e1, e2]
    · subst e1; exact absurd (List.mem_map.2 ⟨y, e2, e.symm⟩) h1.1
    · subst e2; exact absurd (List.mem_map.2 ⟨x, e1, e⟩) h1.1
    · exact nodup_inj h1.2 x e1 y e2 e
theorem IsOI.eq {ops : Array Oper} {x y : OI} (hx : IsOI ops x) (hy : IsOI ops y) (e : x.i = y.i) : x = y := by
  have h1 := hx.1
  rw [e, hy.1] at h1
  have h2 : x.o = y.o := (Option.some.inj h1).symm
  rw [hx.2, hy.2, e, h2]
theorem okAH_some {r : AH} (h : okAH r = true) : ∃ q, r = some q := by
  cases r with
  | none => cases h
  | some q => exact ⟨q, rfl⟩
theorem closeC_get {T : Cx} {ops : List Oper} {A : AA} {H : Hp} {c : Clu} {r : AA × Hp} (h : closeC T ops A H c = some r) {t : Tmp} (ht : ∀ x ∈ c.all, x.o.dst ≠ some t) : r.1.get t = A.get t := by
  have key : ∀ (ks : List OI) (A : AA) (H : Hp), (∀ x ∈ ks, x.o.dst ≠ some t) → runK T ops ks A H = some r → r.1.get t = A.get t := by
    intro ks
    induction ks with
    | nil => intro A H _ h; cases h; rfl
    | cons x ks ih =>
      intro A H hx h
      rw [runK_cons] at h
      unfold runK1 at h
      have hx1 := hx x (List.mem_cons_self ..)
      have hx2 := fun y hy => hx y (List.mem_cons_of_mem _ hy)
      split at h
      · split at h
        · unfold thenA at h
          split at h
          · rename_i A1 hp
            rw [ih _ _ hx2 h, putA_get hp hx1]
          · cases h
        · cases h
      · unfold thenA at h
        split at h
        · rename_i A1 hp
          rw [ih _ _ hx2 h, putA_get hp hx1]
        · cases h
      · cases h
  have hz := ht c.z (List.mem_cons_self ..)
  have hk := fun y hy => ht y (List.mem_cons_of_mem _ hy)
  unfold closeC at h
  split at h
  · split at h
    · unfold thenA at h
      split at h
      · rename_i A1 hp
        rw [key _ _ _ hk h, putA_get hp hz]
      · cases h
    · cases h
  · unfold thenA at h
    split at h
    · rename_i A1 hp
      rw [key _ _ _ hk h, putA_get hp hz]
    · cases h
  · cases h
theorem runK_append (T : Cx) (ops : List Oper) (l : List OI) (x : OI) (A : AA) (H : Hp) : ∀ {r : AA × Hp}, runK T ops (l ++ [x]) A H = some r → ∃ q, runK T ops l A H = some q ∧ runK T ops [x] q.1 q.2 = some r := by
  induction l generalizing A H with
  | nil => intro r h; exact ⟨(A, H), rfl, h⟩
  | cons y l ih =>
    intro r h
    rw [List.cons_append, runK_cons] at h
    rw [runK_cons]
    unfold runK1 at h ⊢
    split at h
    · rename_i hw
      split at h
      · rename_i q hq
        unfold thenA at h
        split at h
        · rename_i A1 hp
          obtain ⟨q2, h1, h2⟩ := ih A1 H h
          refine ⟨q2, ?_, h2⟩
          simp only [hw, hq, thenA, hp]; exact h1
        · cases h
      · cases h
    · rename_i hw
      unfold thenA at h
      split at h
      · rename_i A1 hp
        obtain ⟨q2, h1, h2⟩ := ih A1 H h
        refine ⟨q2, ?_, h2⟩
        simp only [hw, thenA, hp]; exact h1
      · cases h
    · cases h
theorem closeC_snoc {T : Cx} {ops : List Oper} {A : AA} {H : Hp} {z : OI} {l : List OI} {x : OI} {r : AA × Hp} (h : closeC T ops A H ⟨z, l ++ [x]⟩ = some r) : ∃ q, closeC T ops A H ⟨z, l⟩ = some q ∧ runK T ops [x] q.1 q.2 = some r := by
  unfold closeC at h ⊢
  simp only at h ⊢
  split at h
  · rename_i hw
    split at h
    · rename_i k hk
      unfold thenA at h
      split at h
      · rename_i A1 hp
        obtain ⟨q, h1, h2⟩ := runK_append _ _ _ _ _ _ h
        refine ⟨q, ?_, h2⟩
        simp only [hw, hk, thenA, hp]; exact h1
      · cases h
    · cases h
  · rename_i hw
    unfold thenA at h
    split at h
    · rename_i A1 hp
      obtain ⟨q, h1, h2⟩ := runK_append _ _ _ _ _ _ h
      refine ⟨q, ?_, h2⟩
      simp only [hw, thenA, hp]; exact h1
    · cases h
  · cases h
/-- what may come up: the one that is wanted, or one that is open. -/
theorem ready_cases {ops : Array Oper} {D : Nat → Bool} {m : Nat} {Z Z2 : List Clu} {md : Nat → Mo} {listed : Array Bool} (hz : ZI ops D m Z) (hl : LM ops (UpM m Z md) listed) {i : Nat} (ho : onlyR (infos ops) (Nat.lor m (zmask Z2)) i = true) (hup : ∀ k, UpM m Z md k → (Nat.lor m (zmask Z2)).testBit k = true) (hs : ∀ k, (zmask Z2).testBit k = true → (zmask Z).testBit k = true)
    {r : Nat} (hr : r ∈ Region.ready .any ops listed) : r = i ∨ ∃ c ∈ Z, md c.z.i = .late ∧ r = c.z.i := by
  obtain ⟨hn, x, hx, hxi, hp⟩ := ready_oi hl hr
  by_cases hm : (zmask Z).testBit r = true
  · obtain ⟨c, hc, hck⟩ := zmask_iff.1 hm
    have hlate : (md c.z.i).up = false := by
      cases h : (md c.z.i).up with
      | false => rfl
      | true => exact absurd (.inr ⟨c, hc, h, hck⟩) hn
    have hlate2 : md c.z.i = .late := by
      cases h : md c.z.i with
      | late => rfl
      | void => rw [h] at hlate; cases hlate
      | «at» s => rw [h] at hlate; cases hlate
    obtain ⟨y, hy, hyi⟩ := cmask_iff.1 hck
    rcases List.mem_cons.1 hy with e | e
    · subst e; exact .inr ⟨c, hc, hlate2, hyi.symm⟩
    · have hcv := hz.cv c hc
      have hyo := (hcv.ks.oi y e).1
      have hxy : y = x := hyo.eq (infos_mem hx) (by rw [hyi, hxi])
      obtain ⟨k, h1, h2⟩ := hcv.ks.dep y e
      rw [hxy] at h1
      have h3 : (cmask c).testBit k = true := h2
      rcases hp k h1 with h4 | ⟨c', hc', h5, h6⟩
      · exact absurd h4 (hz.dm c hc k h3)
      · by_cases he : c.z.i = c'.z.i
        · rw [← he, hlate] at h5; cases h5
        · exact absurd h6 (hz.dz c hc c' hc' he k h3)
  · have h1 := allI_iff.1 ho x hx
    rw [hxi] at h1
    have h2 : bit (Nat.lor m (zmask Z2)) r = false := by
      rw [bit_tb]
      cases h : (Nat.lor m (zmask Z2)).testBit r with
      | false => rfl
      | true =>
        rcases tb_lor_iff.1 h with h3 | h3
        · exact absurd (.inl h3) hn
        · exact absurd (hs _ h3) hm
    rw [h2, ite'_false] at h1
    cases h3 : Nat.beq r i with
    | true => exact .inl (Nat.eq_of_beq_eq_true h3)
    | false =>
      rw [h3, ite'_false] at h1
      have h4 : subM x.pm (Nat.lor m (zmask Z2)) = true := subM_of fun k hk => hup k (hp k hk)
      rw [h4] at h1; cases h1
theorem runZ_cons (T : Cx) (ih : Cmd → Out) (ops : List Oper) (D : Nat → Bool) (id : Nat) (s : Step) (l : List Step) (held : List (Nat × Nat × Value)) (A : AA) (H : Hp) : runZ T ih ops D id (s :: l) held A H = stepZ T ih ops D id s (runZ T ih ops D id l) held A H := rfl
theorem cnt_pos {ops : Array Oper} {M : Nat → Prop} {listed : Array Bool} (hl : LM ops M listed) {x : OI} (hx : IsOI ops x) (hn : ¬ M x.i) : cntF (listed.setIfInBounds x.i true) + 1 = cntF listed := by
  refine cntF_set (getD_tf.2 ⟨by rw [hl.size]; exact (Array.getElem?_eq_some_iff.1 hx.1).1, ?_⟩)
  cases h : listed.getD x.i false with
  | false => rfl
  | true => exact absurd ((hl.at_ _).1 h) hn
theorem not_up {m : Nat} {Z : List Clu} {md : Nat → Mo} {i : Nat} (h : Bool.not (bit (Nat.lor m (zmask Z)) i) = true) : ¬ UpM m Z md i ∧ ¬ m.testBit i = true ∧ ∀ c ∈ Z, ¬ (cmask c).testBit i = true := by
  have h1 : ¬ (Nat.lor m (zmask Z)).testBit i = true := fun e => by rw [bit_tb, e] at h; cases h
  have h2 : ¬ m.testBit i = true := fun e => h1 (tb_lor_iff.2 (.inl e))
  have h3 : ∀ c ∈ Z, ¬ (cmask c).testBit i = true := fun c hc e => h1 (tb_lor_iff.2 (.inr (zmask_iff.2 ⟨c, hc, e⟩)))
  refine ⟨?_, h2, h3⟩
  rintro (e | ⟨c, hc, _, e⟩)
  · exact h2 e
  · exact h3 c hc e
theorem quietZ_ok {ops : Array Oper} {x : OI} (hx : IsOI ops x) {Z : List Clu} (hoi : ∀ c ∈ Z, ∀ y ∈ c.all, IsOI ops y) (h : quietZ x Z = true) : ∀ c ∈ Z, ∀ y ∈ c.all, Quiet ops x y := fun c hc y hy =>
  quiet_of hx (hoi c hc y hy) (allI_iff.1 (allC_iff.1 h c hc) y hy)
/-- one that is open comes up now. -/
theorem early_ok {P : Program} {T : Cx} (hT : Fits P T) {ops : Array Oper} (hns : Region.noSelect ops = true) {D : Nat → Bool} {Q : Exit → Act → World → Prop} (hQ : ∀ c a w d v, Q (.panic c) (a.put d v) w → Q (.panic c) a w) {m : Nat} {Z : List Clu} {md : Nat → Mo} {listed : Array Bool} {f : Nat} {HL : List (Addr × Value)} {S : World → Prop} {A : AA} {H H0 : Hp} {E E0 : Env} {a : Act} {w w0 : World}
    (hz : ZI ops D m Z) (hl : LM ops (UpM m Z md) listed) (hcn : cntF listed ≤ f + 1) (hcl : ClosedL ops listed) (ha : AR ds E H.next A a) (hr : HRel E H w) (hs : Keeps D S HL listed w) (g : Gd E0 E H0 H w0 w) (di : DI P ops Z md A H E a w w0)
    {c : Clu} (hcZ : c ∈ Z) (hlate : md c.z.i = .late) {r : AA × Hp} (hclose : closeC T ops.toList A H c = some r) (hrd : c.z.i ∈ Region.ready .any ops listed)
    (ih : ∀ md' listed' g' a' w', g' ≤ f → cntF listed' ≤ g' → LM ops (UpM m Z md') listed' → ClosedL ops listed' → AR ds E H.next A a' → HRel E H w' → Keeps D S HL listed' w' → Gd E0 E H0 H w0 w' → DI P ops Z md' A H E a' w' w0 → wpD P ops Q D S g' listed' a' w') :
    wpOp P ops Q c.z.i (fun a' w' => (NoD D (listed.setIfInBounds c.z.i true) → S w') ∧ wpD P ops Q D S f (listed.setIfInBounds c.z.i true) a' w') a w := by
  have hsel : ∀ y, IsOI ops y → ∀ cs b, y.o.op ≠ .select cs b := fun y hy cs b => Region.noSelect_spec hns _ _ cs b hy.1
  have hcv := hz.cv c hcZ
  have hzoi := hcv.oi
  have hmem : ∀ x ∈ c.all, ¬ UpM m Z md x.i := fun x hx => by
    have hxc : (cmask c).testBit x.i = true := cmask_iff.2 ⟨x, hx, rfl⟩
    rintro (h1 | ⟨c', h1, h2, h3⟩)
    · exact hz.dm c hcZ _ hxc h1
    · by_cases e : c.z.i = c'.z.i
      · rw [← e, hlate] at h2; cases h2
      · exact hz.dz c hcZ c' h1 e _ hxc h3
  have hcnt := cnt_pos hl hzoi (hmem _ (List.mem_cons_self ..))
  have after : ∀ (mo : Mo) (w1 : World) (A1 : AA) (H1 : Hp) (E1 : Env) (v : Value), mo.up = true → runK T ops.toList c.ks A1 H1 = some r → AR ds E1 H1.next A1 (a.put c.z.o.dst v) → ZF P ops c.z mo (a.put c.z.o.dst v) w1 → (∀ s, s < w.heap.size → w1.heap[s]? = w.heap[s]?) → HRel E H w1 → Gd E0 E H0 H w0 w1 →
      (∀ s, mo = .at s → w.heap.size ≤ s ∧ w0.heap.size ≤ s ∧ ∀ b x, H.b.get b = some x → E.s b ≠ s) → (NoD D (listed.setIfInBounds c.z.i true) → S w1) ∧ wpD P ops Q D S f (listed.setIfInBounds c.z.i true) (a.put c.z.o.dst v) w1 := by
    intro mo w1 A1 H1 E1 v hup hrun ha1 hzf hrow hr1 g1 hun
    have hcell : ∀ q u, w.cell? q = some u → w1.cell? q = some u := fun q u hu => by
      have hlt : q.block < w.heap.size := by
        unfold World.cell? at hu
        cases h : w.heap[q.block]? with
        | none => rw [h] at hu; simp at hu
        | some o => exact (Array.getElem?_eq_some_iff.1 h).1
      unfold World.cell? at hu ⊢
      rw [hrow _ hlt]; exact hu
    have hSS : SS HL w → SS HL w1 := fun h q hq => hcell _ _ (h q hq)
    have hs1 : Keeps D S HL (listed.setIfInBounds c.z.i true) w1 := fun hn => ⟨(hs (noD_set hn)).1, hSS (hs (noD_set hn)).2⟩
    refine ⟨fun hn => (hs1 hn).1 _ (hs1 hn).2, ?_⟩
    refine take_ks hT hns hQ c.ks [c.z] (fun k => k = c.z.i ∨ UpM m Z md k) _ _ A1 f (by omega) hcv.ks hrun ha1 (hl.set hzoi fun k => Iff.rfl) (closed_step hcl hrd) (fun k hk => ?_) (fun x hx => ?_) (fun hn => (hs1 hn).1 _ (hs1 hn).2) ?_
    · rcases hk with hk | hk
      · exact .inr (.inl hk)
      · obtain ⟨y, h1, h2⟩ := maskL_iff.1 hk
        rw [List.mem_singleton] at h1
        subst h1; exact .inl h2.symm
    · rintro (e | e)
      · exact CVk.notpre hcv.ks x hx (maskL_iff.2 ⟨c.z, List.mem_singleton_self _, e.symm⟩)
      · exact hmem x (List.mem_cons_of_mem _ hx) e
    · intro listed' a' g' q7 q8 q1 q2 q4 q5 q6
      have hmd : ∀ c' ∈ Z, (if c'.z.i = c.z.i then mo else md c'.z.i) = if c'.z.i = c.z.i then mo else md c'.z.i := fun _ _ => rfl
      have hinj : ∀ c' ∈ Z, c'.z.i = c.z.i → c' = c := fun c' hc' e => nodup_inj hz.nd c' hc' c hcZ e
      have hpz : Puts (c.z :: c.ks) a a' := .cons q5
      refine ih (fun i => if i = c.z.i then mo else md i) listed' g' a' w1 q7 q8 (q1.congr fun k => ?_) q2 ?_ hr1 (fun hn => hs1 (q4 hn)) g1 ⟨fun c' hc' => ?_, fun c' hc' s hs' => ?_, fun c1 h1 c2 h2 s e1 e2 => ?_, di.fg⟩
      · constructor
        · rintro ((h | h | ⟨c', h1, h2, h3⟩) | h)
          · exact .inr ⟨c, hcZ, by simpa using hup, by rw [h]; exact cmask_z c⟩
          · exact .inl h
          · refine .inr ⟨c', h1, ?_, h3⟩
            by_cases e : c'.z.i = c.z.i
            · simpa [e] using hup
            · simpa [e] using h2
          · obtain ⟨y, h1, h2⟩ := maskL_iff.1 h
            exact .inr ⟨c, hcZ, by simpa using hup, cmask_iff.2 ⟨y, List.mem_cons_of_mem _ h1, h2⟩⟩
        · rintro (h | ⟨c', h1, h2, h3⟩)
          · exact .inl (.inr (.inl h))
          · by_cases e : c'.z.i = c.z.i
            · rw [hinj c' h1 e] at h3
              obtain ⟨y, h4, h5⟩ := cmask_iff.1 h3
              rcases List.mem_cons.1 h4 with h6 | h6
              · subst h6; exact .inl (.inl h5.symm)
              · exact .inr (maskL_iff.2 ⟨y, h6, h5⟩)
            · exact .inl (.inr (.inr ⟨c', h1, by simpa [e] using h2, h3⟩))
      · exact hpz.ar ha fun x hx t ht => di.fg c hcZ x hx t ht
      · by_cases e : c'.z.i = c.z.i
        · have e2 := hinj c' hc' e
          subst e2
          simp only [if_true]
          exact ⟨q5.zf hzf (hsel _ hzoi) fun x hx => CVk.quiet hcv.ks x hx _ (List.mem_singleton_self _), fun _ => q6⟩
        · simp only [e, if_false]
          have h1 := hpz.cf (di.cf c' hc') (fun y hy => hsel y ((hz.cv c' hc').all y hy)) fun x hx y hy => hz.qt c hcZ c' hc' (Ne.symm e) x hx y hy
          exact ⟨h1.1.world fun s _ hlt => hrow s hlt, h1.2⟩
      · by_cases e : c'.z.i = c.z.i
        · simp only [e, if_true] at hs'
          exact (hun s hs').2
        · simp only [e, if_false] at hs'
          exact di.un c' hc' s hs'
      · have hat : ∀ c' ∈ Z, md c'.z.i = .at s → s < w.heap.size := fun c' hc' e => by
          have hzf' := (di.cf c' hc').1
          rw [e] at hzf'
          obtain ⟨_, d, l', e', sh, _, _, _, h5⟩ := hzf'
          exact (Array.getElem?_eq_some_iff.1 h5).1
        by_cases f1 : c1.z.i = c.z.i <;> by_cases f2 : c2.z.i = c.z.i
        · rw [f1, f2]
        · simp only [f1, if_true] at e1
          simp only [f2, if_false] at e2
          have := hat c2 h2 e2
          have := (hun s e1).1
          omega
        · simp only [f1, if_false] at e1
          simp only [f2, if_true] at e2
          have := hat c1 h1 e1
          have := (hun s e2).1
          omega
        · simp only [f1, if_false] at e1
          simp only [f2, if_false] at e2
          exact di.ds c1 h1 c2 h2 s e1 e2
  obtain ⟨d, hd⟩ := isSomeD_ok hcv.ds
  have hown : ∀ t, c.z.o.dst = some t → t ∉ c.z.o.looksAt ops := fun t ht h => disM_ok hcv.own (hzoi.dm.2 ht) (hzoi.lm.2 h)
  have hdl : ∀ {A1 : AA} {v : Value}, putA A c.z.o.dst v = some A1 → d < a.tmps.size := fun {A1 v} hp => by
    rw [hd] at hp
    obtain ⟨h1, _⟩ := AA.set_spec (show A.set d v = some A1 from hp)
    rw [ha.size]; exact h1
  have hrown : ∀ s, s < w.heap.size → ∀ b x, H.b.get b = some x → E.s b < w.heap.size := fun s hs b x hb => by
    have := hr.rel b x hb
    unfold BR at this
    split at this
    · obtain ⟨cs, fz, h1, _⟩ := this; exact (Array.getElem?_eq_some_iff.1 h1).1
    · obtain ⟨es', h1, _⟩ := this; exact (Array.getElem?_eq_some_iff.1 h1).1
    · exact (Array.getElem?_eq_some_iff.1 this).1
    · obtain ⟨cs, e, fz, h1, _⟩ := this; exact (Array.getElem?_eq_some_iff.1 h1).1
  unfold closeC at hclose
  split at hclose
  · rename_i hw
    have hwant := wantedA_ok ha hw
    split at hclose
    · rename_i k hk
      unfold thenA at hclose
      split at hclose
      · rename_i A1 hp
        obtain ⟨l', r1, r2, r3⟩ := lateZ_ok (P := P) hT hk ha
        have hheap : ∀ i, (w.alloc (obOf k.s l' k.e)).heap[i]? = if i = w.heap.size then some (obOf k.s l' k.e) else w.heap[i]? := fun i => by
          show (w.heap.push _)[i]? = _
          rw [Array.getElem?_push]
        have hrow : ∀ s, s < w.heap.size → (w.alloc (obOf k.s l' k.e)).heap[s]? = w.heap[s]? := fun s hs => by rw [hheap, if_neg (by omega)]
        have hnam : ∀ b x, H.b.get b = some x → E.s b < w.heap.size := fun b x hb => by
          have := hr.rel b x hb
          unfold BR at this
          split at this
          · obtain ⟨cs, fz, h1, _⟩ := this; exact (Array.getElem?_eq_some_iff.1 h1).1
          · obtain ⟨es', h1, _⟩ := this; exact (Array.getElem?_eq_some_iff.1 h1).1
          · exact (Array.getElem?_eq_some_iff.1 this).1
          · obtain ⟨cs, e, fz, h1, _⟩ := this; exact (Array.getElem?_eq_some_iff.1 h1).1
        have hr1 : HRel E H (w.alloc (obOf k.s l' k.e)) := ⟨hr.lt, fun b x hb => by rw [hrow _ (hnam b x hb)]; exact hr.rel b x hb, hr.inj⟩
        have g1 : Gd E0 E H0 H w0 (w.alloc (obOf k.s l' k.e)) := ⟨g.le, g.ag, g.dom, g.os, g.tape, g.output, by show _ ≤ (w.heap.push _).size; rw [Array.size_push]; exact Nat.le_succ_of_le g.size, fun i hi hf => by rw [hrow _ (Nat.lt_of_lt_of_le hi g.size)]; exact g.frame i hi hf⟩
        have hs1 : (E.add H.next w.heap.size 0).s H.next = w.heap.size := by simp [Env.add]
        have ha0 : AR ds (E.add H.next w.heap.size 0) (H.next + 1) A a := ha.mono (Env.add_agree _ _ _ _) (Nat.le_succ _)
        have ha1 := ha0.put hp (Sh.vr (E := E.add H.next w.heap.size 0) (N := H.next) r3 hs1)
        unfold wpOp
        simp only [hzoi.1, hwant, if_true]
        refine .inl ?_
        unfold Oper.wp
        rw [r2 w]
        refine after (.at w.heap.size) _ A1 (newB H k) (E.add H.next w.heap.size 0) _ rfl hclose ha1 ⟨?_, d, l', k.e, k.s, hd, ?_, ?_, ?_⟩ hrow hr1 g1 (fun s e => ?_)
        · rw [wanted_put c.z.o a _ _ hown]; exact hwant
        · have := hdl hp
          rw [hd]; simp [Act.put, this]
        · rw [execOp_put c.z.o (hsel _ hzoi) a _ _ hown]; exact r2
        · rw [hheap, if_pos rfl]
        · cases e
          exact ⟨Nat.le_refl _, g.size, fun b x hb => Nat.ne_of_lt (hnam b x hb)⟩
      · cases hclose
    · cases hclose
  · rename_i hw
    have hwant := wantedA_ok ha hw
    unfold thenA at hclose
    split at hclose
    · rename_i A1 hp
      have ha1 := ha.put hp (VR.undef (E := E) (N := H.next))
      unfold wpOp
      simp only [hzoi.1, hwant]
      refine after .void w A1 H E _ rfl hclose ha1 ⟨?_, d, hd, ?_⟩ (fun _ _ => rfl) hr g (fun s e => by cases e)
      · rw [wanted_put c.z.o a _ _ hown]; exact hwant
      · have := hdl hp
        rw [hd]; simp [Act.put, this]
    · cases hclose
  · cases hclose
end
end Go.Proofs.YtdkfimejabanlaaDoor
