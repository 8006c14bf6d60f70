import Derived.Test.YtanhkchpffkloaaGreatDoorEnx
namespace Go.Proofs.YtanhkchpffkloaaGreatDoor
open Go
set_option linter.unusedVariables false
set_option linter.unusedSimpArgs false
noncomputable section
variable {ds : List Deferred}
theorem nodup_inj {α : Type} {f : α → Nat} : ∀ {l : List α}, (l.map f).Nodup → ∀ x ∈ l, ∀ y ∈ l, f x = f y → x = y
  | [], _, x, hx, _, _, _ => by cases hx
  | z :: l, h, x, hx, y, hy, e => by
    have h1 := List.nodup_cons.1 h
    rcases List.mem_cons.1 hx with e1 | e1 <;> rcases List.mem_cons.1 hy with e2 | e2
    · rw [e1, e2]
    · subst e1; exact absurd (List.mem_map.2 ⟨y, e2, e.symm⟩) h1.1
    · subst e2; exact absurd (List.mem_map.2 ⟨x, e1, e⟩) h1.1
    · exact nodup_inj h1.2 x e1 y e2 e
theorem IsOI.eq {ops : Array Oper} {x y : OI} (hx : IsOI ops x) (hy : IsOI ops y) (e : x.i = y.i) : x = y := by
  have h1 := hx.1
  rw [e, hy.1] at h1
  have h2 : x.o = y.o := (Option.some.inj h1).symm
  rw [hx.2, hy.2, e, h2]
theorem okAH_some {r : AH} (h : okAH r = true) : ∃ q, r = some q := by
  cases r with
  | none => cases h
  | some q => exact ⟨q, rfl⟩
theorem closeC_get {T : Cx} {ops : List Oper} {A : AA} {H : Hp} {c : Clu} {r : AA × Hp} (h : closeC T ops A H c = some r) {t : Tmp} (ht : ∀ x ∈ c.all, x.o.dst ≠ some t) : r.1.get t = A.get t := by
  have key : ∀ (ks : List OI) (A : AA) (H : Hp), (∀ x ∈ ks, x.o.dst ≠ some t) → runK T ops ks A H = some r → r.1.get t = A.get t := by
    intro ks
    induction ks with
    | nil => intro A H _ h; cases h; rfl
    | cons x ks ih =>
      intro A H hx h
      rw [runK_cons] at h
      unfold runK1 at h
      have hx1 := hx x (List.mem_cons_self ..)
      have hx2 := fun y hy => hx y (List.mem_cons_of_mem _ hy)
      split at h
      · split at h
        · unfold thenA at h
          split at h
          · rename_i A1 hp
            rw [ih _ _ hx2 h, putA_get hp hx1]
          · cases h
        · cases h
      · unfold thenA at h
        split at h
        · rename_i A1 hp
          rw [ih _ _ hx2 h, putA_get hp hx1]
        · cases h
      · cases h
  have hz := ht c.z (List.mem_cons_self ..)
  have hk := fun y hy => ht y (List.mem_cons_of_mem _ hy)
  unfold closeC at h
  split at h
  · split at h
    · unfold thenA at h
      split at h
      · rename_i A1 hp
        rw [key _ _ _ hk h, putA_get hp hz]
      · cases h
    · cases h
  · unfold thenA at h
    split at h
    · rename_i A1 hp
      rw [key _ _ _ hk h, putA_get hp hz]
    · cases h
  · cases h
theorem runK_append (T : Cx) (ops : List Oper) (l : List OI) (x : OI) (A : AA) (H : Hp) : ∀ {r : AA × Hp}, runK T ops (l ++ [x]) A H = some r → ∃ q, runK T ops l A H = some q ∧ runK T ops [x] q.1 q.2 = some r := by
  induction l generalizing A H with
  | nil => intro r h; exact ⟨(A, H), rfl, h⟩
  | cons y l ih =>
    intro r h
    rw [List.cons_append, runK_cons] at h
    rw [runK_cons]
    unfold runK1 at h ⊢
    split at h
    · rename_i hw
      split at h
      · rename_i q hq
        unfold thenA at h
        split at h
        · rename_i A1 hp
          obtain ⟨q2, h1, h2⟩ := ih A1 H h
          refine ⟨q2, ?_, h2⟩
          simp only [hw, hq, thenA, hp]; exact h1
        · cases h
      · cases h
    · rename_i hw
      unfold thenA at h
      split at h
      · rename_i A1 hp
        obtain ⟨q2, h1, h2⟩ := ih A1 H h
        refine ⟨q2, ?_, h2⟩
        simp only [hw, thenA, hp]; exact h1
      · cases h
    · cases h
theorem closeC_snoc {T : Cx} {ops : List Oper} {A : AA} {H : Hp} {z : OI} {l : List OI} {x : OI} {r : AA × Hp} (h : closeC T ops A H ⟨z, l ++ [x]⟩ = some r) : ∃ q, closeC T ops A H ⟨z, l⟩ = some q ∧ runK T ops [x] q.1 q.2 = some r := by
  unfold closeC at h ⊢
  simp only at h ⊢
  split at h
  · rename_i hw
    split at h
    · rename_i k hk
      unfold thenA at h
      split at h
      · rename_i A1 hp
        obtain ⟨q, h1, h2⟩ := runK_append _ _ _ _ _ _ h
        refine ⟨q, ?_, h2⟩
        simp only [hw, hk, thenA, hp]; exact h1
      · cases h
    · cases h
  · rename_i hw
    unfold thenA at h
    split at h
    · rename_i A1 hp
      obtain ⟨q, h1, h2⟩ := runK_append _ _ _ _ _ _ h
      refine ⟨q, ?_, h2⟩
      simp only [hw, thenA, hp]; exact h1
    · cases h
  · cases h
/-- what may come up: the one that is wanted, or one that is open. -/
theorem ready_cases {ops : Array Oper} {D : Nat → Bool} {m : Nat} {Z Z2 : List Clu} {md : Nat → Mo} {listed : Array Bool} (hz : ZI ops D m Z) (hl : LM ops (UpM m Z md) listed) {i : Nat} (ho : onlyR (infos ops) (Nat.lor m (zmask Z2)) i = true) (hup : ∀ k, UpM m Z md k → (Nat.lor m (zmask Z2)).testBit k = true) (hs : ∀ k, (zmask Z2).testBit k = true → (zmask Z).testBit k = true)
    {r : Nat} (hr : r ∈ Region.ready .any ops listed) : r = i ∨ ∃ c ∈ Z, md c.z.i = .late ∧ r = c.z.i := by
  obtain ⟨hn, x, hx, hxi, hp⟩ := ready_oi hl hr
  by_cases hm : (zmask Z).testBit r = true
  · obtain ⟨c, hc, hck⟩ := zmask_iff.1 hm
    have hlate : (md c.z.i).up = false := by
      cases h : (md c.z.i).up with
      | false => rfl
      | true => exact absurd (.inr ⟨c, hc, h, hck⟩) hn
    have hlate2 : md c.z.i = .late := by
      cases h : md c.z.i with
      | late => rfl
      | void => rw [h] at hlate; cases hlate
      | «at» s => rw [h] at hlate; cases hlate
    obtain ⟨y, hy, hyi⟩ := cmask_iff.1 hck
    rcases List.mem_cons.1 hy with e | e
    · subst e; exact .inr ⟨c, hc, hlate2, hyi.symm⟩
    · have hcv := hz.cv c hc
      have hyo := (hcv.ks.oi y e).1
      have hxy : y = x := hyo.eq (infos_mem hx) (by rw [hyi, hxi])
      obtain ⟨k, h1, h2⟩ := hcv.ks.dep y e
      rw [hxy] at h1
      have h3 : (cmask c).testBit k = true := h2
      rcases hp k h1 with h4 | ⟨c', hc', h5, h6⟩
      · exact absurd h4 (hz.dm c hc k h3)
      · by_cases he : c.z.i = c'.z.i
        · rw [← he, hlate] at h5; cases h5
        · exact absurd h6 (hz.dz c hc c' hc' he k h3)
  · have h1 := allI_iff.1 ho x hx
    rw [hxi] at h1
    have h2 : bit (Nat.lor m (zmask Z2)) r = false := by
      rw [bit_tb]
      cases h : (Nat.lor m (zmask Z2)).testBit r with
      | false => rfl
      | true =>
        rcases tb_lor_iff.1 h with h3 | h3
        · exact absurd (.inl h3) hn
        · exact absurd (hs _ h3) hm
    rw [h2, ite'_false] at h1
    cases h3 : Nat.beq r i with
    | true => exact .inl (Nat.eq_of_beq_eq_true h3)
    | false =>
      rw [h3, ite'_false] at h1
      have h4 : subM x.pm (Nat.lor m (zmask Z2)) = true := subM_of fun k hk => hup k (hp k hk)
      rw [h4] at h1; cases h1
theorem runZ_cons (T : Cx) (ih : Cmd → Out) (ops : List Oper) (D : Nat → Bool) (id : Nat) (s : Step) (l : List Step) (held : List (Nat × Nat × Value)) (A : AA) (H : Hp) : runZ T ih ops D id (s :: l) held A H = stepZ T ih ops D id s (runZ T ih ops D id l) held A H := rfl
theorem cnt_pos {ops : Array Oper} {M : Nat → Prop} {listed : Array Bool} (hl : LM ops M listed) {x : OI} (hx : IsOI ops x) (hn : ¬ M x.i) : cntF (listed.setIfInBounds x.i true) + 1 = cntF listed := by
  refine cntF_set (getD_tf.2 ⟨by rw [hl.size]; exact (Array.getElem?_eq_some_iff.1 hx.1).1, ?_⟩)
  cases h : listed.getD x.i false with
  | false => rfl
  | true => exact absurd ((hl.at_ _).1 h) hn
theorem not_up {m : Nat} {Z : List Clu} {md : Nat → Mo} {i : Nat} (h : Bool.not (bit (Nat.lor m (zmask Z)) i) = true) : ¬ UpM m Z md i ∧ ¬ m.testBit i = true ∧ ∀ c ∈ Z, ¬ (cmask c).testBit i = true := by
  have h1 : ¬ (Nat.lor m (zmask Z)).testBit i = true := fun e => by rw [bit_tb, e] at h; cases h
  have h2 : ¬ m.testBit i = true := fun e => h1 (tb_lor_iff.2 (.inl e))
  have h3 : ∀ c ∈ Z, ¬ (cmask c).testBit i = true := fun c hc e => h1 (tb_lor_iff.2 (.inr (zmask_iff.2 ⟨c, hc, e⟩)))
  refine ⟨?_, h2, h3⟩
  rintro (e | ⟨c, hc, _, e⟩)
  · exact h2 e
  · exact h3 c hc e
theorem quietZ_ok {ops : Array Oper} {x : OI} (hx : IsOI ops x) {Z : List Clu} (hoi : ∀ c ∈ Z, ∀ y ∈ c.all, IsOI ops y) (h : quietZ x Z = true) : ∀ c ∈ Z, ∀ y ∈ c.all, Quiet ops x y := fun c hc y hy =>
  quiet_of hx (hoi c hc y hy) (allI_iff.1 (allC_iff.1 h c hc) y hy)
/-- one that is open comes up now. -/
theorem early_ok {P : Program} {T : Cx} (hT : Fits P T) {ops : Array Oper} (hns : Region.noSelect ops = true) {D : Nat → Bool} {Q : Exit → Act → World → Prop} (hQ : ∀ c a w d v, Q (.panic c) (a.put d v) w → Q (.panic c) a w) {m : Nat} {Z : List Clu} {md : Nat → Mo} {listed : Array Bool} {f : Nat} {HL : List (Addr × Value)} {S : World → Prop} {A : AA} {H H0 : Hp} {E E0 : Env} {a : Act} {w w0 : World}
    (hz : ZI ops D m Z) (hl : LM ops (UpM m Z md) listed) (hcn : cntF listed ≤ f + 1) (hcl : ClosedL ops listed) (ha : AR ds E H.next A a) (hr : HRel E H w) (hs : Keeps D S HL listed w) (g : Gd E0 E H0 H w0 w) (di : DI P ops Z md A H E a w w0)
    {c : Clu} (hcZ : c ∈ Z) (hlate : md c.z.i = .late) {r : AA × Hp} (hclose : closeC T ops.toList A H c = some r) (hrd : c.z.i ∈ Region.ready .any ops listed)
    (ih : ∀ md' listed' g' a' w', g' ≤ f → cntF listed' ≤ g' → LM ops (UpM m Z md') listed' → ClosedL ops listed' → AR ds E H.next A a' → HRel E H w' → Keeps D S HL listed' w' → Gd E0 E H0 H w0 w' → DI P ops Z md' A H E a' w' w0 → wpD P ops Q D S g' listed' a' w') :
    wpOp P ops Q c.z.i (fun a' w' => (NoD D (listed.setIfInBounds c.z.i true) → S w') ∧ wpD P ops Q D S f (listed.setIfInBounds c.z.i true) a' w') a w := by
  have hsel : ∀ y, IsOI ops y → ∀ cs b, y.o.op ≠ .select cs b := fun y hy cs b => Region.noSelect_spec hns _ _ cs b hy.1
  have hcv := hz.cv c hcZ
  have hzoi := hcv.oi
  have hmem : ∀ x ∈ c.all, ¬ UpM m Z md x.i := fun x hx => by
    have hxc : (cmask c).testBit x.i = true := cmask_iff.2 ⟨x, hx, rfl⟩
    rintro (h1 | ⟨c', h1, h2, h3⟩)
    · exact hz.dm c hcZ _ hxc h1
    · by_cases e : c.z.i = c'.z.i
      · rw [← e, hlate] at h2; cases h2
      · exact hz.dz c hcZ c' h1 e _ hxc h3
  have hcnt := cnt_pos hl hzoi (hmem _ (List.mem_cons_self ..))
  have after : ∀ (mo : Mo) (w1 : World) (A1 : AA) (H1 : Hp) (E1 : Env) (v : Value), mo.up = true → runK T ops.toList c.ks A1 H1 = some r → AR ds E1 H1.next A1 (a.put c.z.o.dst v) → ZF P ops c.z mo (a.put c.z.o.dst v) w1 → (∀ s, s < w.heap.size → w1.heap[s]? = w.heap[s]?) → HRel E H w1 → Gd E0 E H0 H w0 w1 →
      (∀ s, mo = .at s → w.heap.size ≤ s ∧ w0.heap.size ≤ s ∧ ∀ b x, H.b.get b = some x → E.s b ≠ s) → (NoD D (listed.setIfInBounds c.z.i true) → S w1) ∧ wpD P ops Q D S f (listed.setIfInBounds c.z.i true) (a.put c.z.o.dst v) w1 := by
    intro mo w1 A1 H1 E1 v hup hrun ha1 hzf hrow hr1 g1 hun
    have hcell : ∀ q u, w.cell? q = some u → w1.cell? q = some u := fun q u hu => by
      have hlt : q.block < w.heap.size := by
        unfold World.cell? at hu
        cases h : w.heap[q.block]? with
        | none => rw [h] at hu; simp at hu
        | some o => exact (Array.getElem?_eq_some_iff.1 h).1
      unfold World.cell? at hu ⊢
      rw [hrow _ hlt]; exact hu
    have hSS : SS HL w → SS HL w1 := fun h q hq => hcell _ _ (h q hq)
    have hs1 : Keeps D S HL (listed.setIfInBounds c.z.i true) w1 := fun hn => ⟨(hs (noD_set hn)).1, hSS (hs (noD_set hn)).2⟩
    refine ⟨fun hn => (hs1 hn).1 _ (hs1 hn).2, ?_⟩
    refine take_ks hT hns hQ c.ks [c.z] (fun k => k = c.z.i ∨ UpM m Z md k) _ _ A1 f (by omega) hcv.ks hrun ha1 (hl.set hzoi fun k => Iff.rfl) (closed_step hcl hrd) (fun k hk => ?_) (fun x hx => ?_) (fun hn => (hs1 hn).1 _ (hs1 hn).2) ?_
    · rcases hk with hk | hk
      · exact .inr (.inl hk)
      · obtain ⟨y, h1, h2⟩ := maskL_iff.1 hk
        rw [List.mem_singleton] at h1
        subst h1; exact .inl h2.symm
    · rintro (e | e)
      · exact CVk.notpre hcv.ks x hx (maskL_iff.2 ⟨c.z, List.mem_singleton_self _, e.symm⟩)
      · exact hmem x (List.mem_cons_of_mem _ hx) e
    · intro listed' a' g' q7 q8 q1 q2 q4 q5 q6
      have hmd : ∀ c' ∈ Z, (if c'.z.i = c.z.i then mo else md c'.z.i) = if c'.z.i = c.z.i then mo else md c'.z.i := fun _ _ => rfl
      have hinj : ∀ c' ∈ Z, c'.z.i = c.z.i → c' = c := fun c' hc' e => nodup_inj hz.nd c' hc' c hcZ e
      have hpz : Puts (c.z :: c.ks) a a' := .cons q5
      refine ih (fun i => if i = c.z.i then mo else md i) listed' g' a' w1 q7 q8 (q1.congr fun k => ?_) q2 ?_ hr1 (fun hn => hs1 (q4 hn)) g1 ⟨fun c' hc' => ?_, fun c' hc' s hs' => ?_, fun c1 h1 c2 h2 s e1 e2 => ?_, di.fg⟩
      · constructor
        · rintro ((h | h | ⟨c', h1, h2, h3⟩) | h)
          · exact .inr ⟨c, hcZ, by simpa using hup, by rw [h]; exact cmask_z c⟩
          · exact .inl h
          · refine .inr ⟨c', h1, ?_, h3⟩
            by_cases e : c'.z.i = c.z.i
            · simpa [e] using hup
            · simpa [e] using h2
          · obtain ⟨y, h1, h2⟩ := maskL_iff.1 h
            exact .inr ⟨c, hcZ, by simpa using hup, cmask_iff.2 ⟨y, List.mem_cons_of_mem _ h1, h2⟩⟩
        · rintro (h | ⟨c', h1, h2, h3⟩)
          · exact .inl (.inr (.inl h))
          · by_cases e : c'.z.i = c.z.i
            · rw [hinj c' h1 e] at h3
              obtain ⟨y, h4, h5⟩ := cmask_iff.1 h3
              rcases List.mem_cons.1 h4 with h6 | h6
              · subst h6; exact .inl (.inl h5.symm)
              · exact .inr (maskL_iff.2 ⟨y, h6, h5⟩)
            · exact .inl (.inr (.inr ⟨c', h1, by simpa [e] using h2, h3⟩))
      · exact hpz.ar ha fun x hx t ht => di.fg c hcZ x hx t ht
      · by_cases e : c'.z.i = c.z.i
        · have e2 := hinj c' hc' e
          subst e2
          simp only [if_true]
          exact ⟨q5.zf hzf (hsel _ hzoi) fun x hx => CVk.quiet hcv.ks x hx _ (List.mem_singleton_self _), fun _ => q6⟩
        · simp only [e, if_false]
          have h1 := hpz.cf (di.cf c' hc') (fun y hy => hsel y ((hz.cv c' hc').all y hy)) fun x hx y hy => hz.qt c hcZ c' hc' (Ne.symm e) x hx y hy
          exact ⟨h1.1.world fun s _ hlt => hrow s hlt, h1.2⟩
      · by_cases e : c'.z.i = c.z.i
        · simp only [e, if_true] at hs'
          exact (hun s hs').2
        · simp only [e, if_false] at hs'
          exact di.un c' hc' s hs'
      · have hat : ∀ c' ∈ Z, md c'.z.i = .at s → s < w.heap.size := fun c' hc' e => by
          have hzf' := (di.cf c' hc').1
          rw [e] at hzf'
          obtain ⟨_, d, l', e', sh, _, _, _, h5⟩ := hzf'
          exact (Array.getElem?_eq_some_iff.1 h5).1
        by_cases f1 : c1.z.i = c.z.i <;> by_cases f2 : c2.z.i = c.z.i
        · rw [f1, f2]
        · simp only [f1, if_true] at e1
          simp only [f2, if_false] at e2
          have := hat c2 h2 e2
          have := (hun s e1).1
          omega
        · simp only [f1, if_false] at e1
          simp only [f2, if_true] at e2
          have := hat c1 h1 e1
          have := (hun s e2).1
          omega
        · simp only [f1, if_false] at e1
          simp only [f2, if_false] at e2
          exact di.ds c1 h1 c2 h2 s e1 e2
  obtain ⟨d, hd⟩ := isSomeD_ok hcv.ds
  have hown : ∀ t, c.z.o.dst = some t → t ∉ c.z.o.looksAt ops := fun t ht h => disM_ok hcv.own (hzoi.dm.2 ht) (hzoi.lm.2 h)
  have hdl : ∀ {A1 : AA} {v : Value}, putA A c.z.o.dst v = some A1 → d < a.tmps.size := fun {A1 v} hp => by
    rw [hd] at hp
    obtain ⟨h1, _⟩ := AA.set_spec (show A.set d v = some A1 from hp)
    rw [ha.size]; exact h1
  have hrown : ∀ s, s < w.heap.size → ∀ b x, H.b.get b = some x → E.s b < w.heap.size := fun s hs b x hb => by
    have := hr.rel b x hb
    unfold BR at this
    split at this
    · obtain ⟨cs, fz, h1, _⟩ := this; exact (Array.getElem?_eq_some_iff.1 h1).1
    · obtain ⟨es', h1, _⟩ := this; exact (Array.getElem?_eq_some_iff.1 h1).1
    · exact (Array.getElem?_eq_some_iff.1 this).1
    · obtain ⟨cs, e, fz, h1, _⟩ := this; exact (Array.getElem?_eq_some_iff.1 h1).1
  unfold closeC at hclose
  split at hclose
  · rename_i hw
    have hwant := wantedA_ok ha hw
    split at hclose
    · rename_i k hk
      unfold thenA at hclose
      split at hclose
      · rename_i A1 hp
        obtain ⟨l', r1, r2, r3⟩ := lateZ_ok (P := P) hT hk ha
        have hheap : ∀ i, (w.alloc (obOf k.s l' k.e)).heap[i]? = if i = w.heap.size then some (obOf k.s l' k.e) else w.heap[i]? := fun i => by
          show (w.heap.push _)[i]? = _
          rw [Array.getElem?_push]
        have hrow : ∀ s, s < w.heap.size → (w.alloc (obOf k.s l' k.e)).heap[s]? = w.heap[s]? := fun s hs => by rw [hheap, if_neg (by omega)]
        have hnam : ∀ b x, H.b.get b = some x → E.s b < w.heap.size := fun b x hb => by
          have := hr.rel b x hb
          unfold BR at this
          split at this
          · obtain ⟨cs, fz, h1, _⟩ := this; exact (Array.getElem?_eq_some_iff.1 h1).1
          · obtain ⟨es', h1, _⟩ := this; exact (Array.getElem?_eq_some_iff.1 h1).1
          · exact (Array.getElem?_eq_some_iff.1 this).1
          · obtain ⟨cs, e, fz, h1, _⟩ := this; exact (Array.getElem?_eq_some_iff.1 h1).1
        have hr1 : HRel E H (w.alloc (obOf k.s l' k.e)) := ⟨hr.lt, fun b x hb => by rw [hrow _ (hnam b x hb)]; exact hr.rel b x hb, hr.inj⟩
        have g1 : Gd E0 E H0 H w0 (w.alloc (obOf k.s l' k.e)) := ⟨g.le, g.ag, g.dom, g.os, g.tape, g.output, by show _ ≤ (w.heap.push _).size; rw [Array.size_push]; exact Nat.le_succ_of_le g.size, fun i hi hf => by rw [hrow _ (Nat.lt_of_lt_of_le hi g.size)]; exact g.frame i hi hf⟩
        have hs1 : (E.add H.next w.heap.size 0).s H.next = w.heap.size := by simp [Env.add]
        have ha0 : AR ds (E.add H.next w.heap.size 0) (H.next + 1) A a := ha.mono (Env.add_agree _ _ _ _) (Nat.le_succ _)
        have ha1 := ha0.put hp (Sh.vr (E := E.add H.next w.heap.size 0) (N := H.next) r3 hs1)
        unfold wpOp
        simp only [hzoi.1, hwant, if_true]
        refine .inl ?_
        unfold Oper.wp
        rw [r2 w]
        refine after (.at w.heap.size) _ A1 (newB H k) (E.add H.next w.heap.size 0) _ rfl hclose ha1 ⟨?_, d, l', k.e, k.s, hd, ?_, ?_, ?_⟩ hrow hr1 g1 (fun s e => ?_)
        · rw [wanted_put c.z.o a _ _ hown]; exact hwant
        · have := hdl hp
          rw [hd]; simp [Act.put, this]
        · rw [execOp_put c.z.o (hsel _ hzoi) a _ _ hown]; exact r2
        · rw [hheap, if_pos rfl]
        · cases e
          exact ⟨Nat.le_refl _, g.size, fun b x hb => Nat.ne_of_lt (hnam b x hb)⟩
      · cases hclose
    · cases hclose
  · rename_i hw
    have hwant := wantedA_ok ha hw
    unfold thenA at hclose
    split at hclose
    · rename_i A1 hp
      have ha1 := ha.put hp (VR.undef (E := E) (N := H.next))
      unfold wpOp
      simp only [hzoi.1, hwant]
      refine after .void w A1 H E _ rfl hclose ha1 ⟨?_, d, hd, ?_⟩ (fun _ _ => rfl) hr g (fun s e => by cases e)
      · rw [wanted_put c.z.o a _ _ hown]; exact hwant
      · have := hdl hp
        rw [hd]; simp [Act.put, this]
    · cases hclose
  · cases hclose
end
end Go.Proofs.YtanhkchpffkloaaGreatDoor
