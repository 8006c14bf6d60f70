import Derived.Test.YtanhkchpffkloaaGreatDoorEnv
namespace Go.Proofs.YtanhkchpffkloaaGreatDoor
open Go
set_option linter.unusedVariables false
set_option linter.unusedSimpArgs false
noncomputable section
variable {ds : List Deferred}
theorem comp_cons (is : List OI) (s : St) (pl : List St) (m : Nat) (Z : List Clu) : comp is (s :: pl) m Z = compS is s pl (comp is pl) m Z := rfl
theorem putB {m : Nat} {x : OI} {k : Nat} : (Nat.lor m (bm x.i)).testBit k = true ↔ k = x.i ∨ m.testBit k = true := by
  rw [tb_lor_iff, tb_bm_iff]; exact Or.comm
theorem upM_put {m : Nat} {Z : List Clu} {md : Nat → Mo} {x : OI} (k : Nat) : UpM (Nat.lor m (bm x.i)) Z md k ↔ k = x.i ∨ UpM m Z md k := by
  unfold UpM
  rw [putB]
  constructor
  · rintro ((h | h) | h)
    · exact .inl h
    · exact .inr (.inl h)
    · exact .inr (.inr h)
  · rintro (h | h | h)
    · exact .inl (.inl h)
    · exact .inl (.inr h)
    · exact .inr h
theorem ZI.put {ops : Array Oper} {D : Nat → Bool} {m : Nat} {Z : List Clu} (h : ZI ops D m Z) {x : OI} (hx : ∀ c ∈ Z, ¬ (cmask c).testBit x.i = true) : ZI ops D (Nat.lor m (bm x.i)) Z :=
  h.mono (fun k hk => putB.2 (.inr hk)) fun c hc k hk hk2 => by
    rcases putB.1 hk2 with e | e
    · rw [e] at hk; exact hx c hc hk
    · exact h.dm c hc k hk e
theorem AR.forget {E : Env} {N : Nat} {A : AA} {a : Act} (h : AR ds E N A a) (d : Option Tmp) : AR ds E N (A.forget d) a := by
  cases d with
  | none => exact h
  | some t => exact h.forgetT t
theorem forget_get {A : AA} {d : Option Tmp} {t : Tmp} (h : d = some t ∨ A.get t = none) : (A.forget d).get t = none := by
  cases d with
  | none => exact h.resolve_left (fun e => by cases e)
  | some t' =>
    obtain ⟨_, _, h3⟩ := A.forgetT_spec t'
    show (A.forgetT t').get t = none
    rw [h3]
    split
    · rfl
    · rename_i hne
      exact h.resolve_left fun e => hne (Option.some.inj e).symm
/-- this outcome says less. -/
def OLe (AF A' : AA) (HF H' : Hp) : Prop := HLe HF H' ∧ ∀ {ds : List Deferred} (E : Env) (N : Nat) (a : Act), AR ds E N A' a → AR ds E N AF a
theorem OLe.refl (A : AA) (H : Hp) : OLe A A H H := ⟨⟨rfl, fun b z hz => ⟨z, hz, rfl, fun _ _ _ _ h => h⟩⟩, fun _ _ _ h => h⟩
theorem HLe.trans {Z H H1 : Hp} (h : HLe Z H) (k : HLe H H1) : HLe Z H1 := ⟨h.1.trans k.1, fun b z hz => by
  obtain ⟨x, h1, h2, h3⟩ := h.2 b z hz
  obtain ⟨y, k1, k2, k3⟩ := k.2 b x h1
  exact ⟨y, k1, h2.trans k2, fun E N b o hb => h3 E N b o (k3 E N b o hb)⟩⟩
theorem OLe.trans {AF A A1 : AA} {HF H H1 : Hp} (h : OLe AF A HF H) (k : OLe A A1 H H1) : OLe AF A1 HF H1 := ⟨h.1.trans k.1, fun E N a ha => h.2 E N a (k.2 E N a ha)⟩
theorem OLe.post {AF A' : AA} {HF H' H0 : Hp} {E E0 : Env} {w w0 : World} {a : Act} {e : Ex} (h : OLe AF A' HF H') (g : Gd E0 E H0 H' w0 w) (ha : AR ds E H'.next A' a) (hr : HRel E H' w) : Post ds e AF HF E0 H0 w0 e.out a w :=
  ⟨rfl, E, h.1.gd g, by rw [h.1.1]; exact h.2 _ _ _ ha, h.1.rel hr⟩
theorem runZ_ok {P : Program} {T : Cx} (hT : Fits P T) {ih : Cmd → Out} (hih : CallsOk P T ih) {ops : Array Oper} (hns : Region.noSelect ops = true) {id : Nat} {AF : AA} {HF H0 : Hp} {e : Ex} {E0 : Env} {w0 : World} {D : Nat → Bool} :
    ∀ (n : Nat) (pl : List St) (l : List Step) (m : Nat) (Z : List Clu) (md : Nat → Mo) (listed : Array Bool) (fuel : Nat) (held : List (Nat × Nat × Value)) (HL : List (Addr × Value)) (S : World → Prop) (A : AA) (H : Hp) (E : Env) (a : Act) (w : World) (A' : AA) (H' : Hp), OLe AF A' HF H' →
      fuel + pl.length = n → comp (infos ops) pl m Z = some l → (∀ i, (i, true) ∈ flatZ l → ∀ j, D j = true → i ≠ j ∧ (ops[j]?).isSome = true ∧ (pureAt T ops i = false → ∃ n, reachB ops i n j = true)) →
      ZI ops D m Z → LM ops (UpM m Z md) listed → cntF listed ≤ fuel → ClosedL ops listed → runZ T ih ops.toList D id l held A H = .code e A' H' → AR ds E H.next A a → HRel E H w → HeldR E H.next held HL → Keeps D S HL listed w → Gd E0 E H0 H w0 w → DI P ops Z md A H E a w w0 →
      wpD P ops (Post ds e AF HF E0 H0 w0) D S fuel listed a w := by
  intro n
  induction n using Nat.strongRecOn with
  | _ n ihn =>
  intro pl l m Z md listed fuel held HL S A H E a w A' H' hle hn hc hd hz hl hcn hcl h ha hr hh hs g di
  have hQ : ∀ c a w d v, Post ds e AF HF E0 H0 w0 (.panic c) (a.put d v) w → Post ds e AF HF E0 H0 w0 (.panic c) a w := fun c a w d v h => Act.put_panic (d := d) (v := v) c a w h
  have hsel : ∀ y, IsOI ops y → ∀ cs b, y.o.op ≠ .select cs b := fun y hy cs b => Region.noSelect_spec hns _ _ cs b hy.1
  have hoi : ∀ c ∈ Z, ∀ y ∈ c.all, IsOI ops y := fun c hc => (hz.cv c hc).all
  -- one that is open comes up
  have early : ∀ c ∈ Z, md c.z.i = .late → okAH (closeC T ops.toList A H c) = true → c.z.i ∈ Region.ready .any ops listed → ∀ f, fuel = f + 1 → wpOp P ops (Post ds e AF HF E0 H0 w0) c.z.i (fun a' w' => (NoD D (listed.setIfInBounds c.z.i true) → S w') ∧ wpD P ops (Post ds e AF HF E0 H0 w0) D S f (listed.setIfInBounds c.z.i true) a' w') a w := fun c hcZ hlate hok hrd f hf => by
    obtain ⟨r, hclose⟩ := okAH_some hok
    subst hf
    exact early_ok hT hns hQ hz hl hcn hcl ha hr hs g di hcZ hlate hclose hrd fun md' listed' g' a' w' q1 q2 q3 q4 q5 q6 q7 q8 q9 =>
      ihn (g' + pl.length) (by omega) pl l m Z md' listed' g' held HL S A H E a' w' A' H' hle rfl hc hd hz q3 q2 q4 h q5 q6 hh q7 q8 q9
  cases pl with
  | nil =>
    obtain ⟨h1, h2⟩ := ite'_some (show ite' (andB (nilB Z) (allI (fun y => bit m y.i) (infos ops))) (some []) none = some l from hc)
    cases h2
    obtain ⟨h3, h4⟩ := andB_iff.1 h1
    have hZ : Z = [] := by
      cases Z with
      | nil => rfl
      | cons c Z => cases h3
    subst hZ
    have hready : Region.ready .any ops listed = [] := by
      refine List.eq_nil_iff_forall_not_mem.2 fun r hr => ?_
      obtain ⟨h5, x, hx, hxi, _⟩ := ready_oi hl hr
      have h6 := allI_iff.1 h4 x hx
      rw [bit_tb, hxi] at h6
      exact h5 (.inl h6)
    change Out.code .normal A H = .code e A' H' at h
    cases h
    exact wpD_done hready (hle.post g ha hr) fuel
  | cons s pl =>
  rw [comp_cons] at hc
  simp only [List.length_cons] at hn
  cases s with
  | take i =>
    change (match getI (infos ops) i with
      | some x => compTake (infos ops) x (comp (infos ops) pl) m Z
      | none => none) = some l at hc
    split at hc
    · rename_i x hx
      have hxo := infos_mem (getI_some hx).1
      obtain ⟨b0, l2, hc2, e2⟩ := gdS_some hc
      subst e2
      obtain ⟨b1, b⟩ := andB_iff.1 b0
      obtain ⟨b2, b⟩ := andB_iff.1 b
      obtain ⟨b3, b4⟩ := andB_iff.1 b
      obtain ⟨n1, n2, n3⟩ := not_up (md := md) b1
      have hcnt := cnt_pos hl hxo n1
      obtain ⟨f, rfl⟩ : ∃ f, fuel = f + 1 := ⟨fuel - 1, by omega⟩
      rw [runZ_cons] at h
      change tkStep T id x.o (runZ T ih ops.toList D id l2) held A H (wantedA ops.toList A x.o) = .code e A' H' at h
      refine tk_ok hT hns hQ hxo h hl hcl (m0 := m) (fun k hk => .inl hk) b2 b3 n1 (hd x.i (List.mem_cons_self ..)) ha hr hh hs fun held2 HL2 S2 A1 v v' k1 k2 k3 k4 k5 => ?_
      refine ihn (f + pl.length) (by omega) pl l2 (Nat.lor m (bm x.i)) Z md _ f held2 HL2 S2 A1 H E _ w A' H' hle rfl hc2 (fun i hi => hd i (List.mem_cons_of_mem _ hi)) (hz.put n3) ((hl.set hxo fun k => Iff.rfl).congr fun k => (upM_put k).symm) (by omega)
        (closed_step hcl (oi_ready hl hxo n1 fun k hk => .inl (subM_ok b2 hk))) k1 k3 hr k4 k5 g (di.step hsel hoi (quietZ_ok hxo hoi b4) k2 (Gd.refl _ _ _))
    · cases hc
  | go i =>
    change (match getI (infos ops) i with
      | some x => compGo (infos ops) x (comp (infos ops) pl) m Z
      | none => none) = some l at hc
    split at hc
    · rename_i x hx
      have hxo := infos_mem (getI_some hx).1
      obtain ⟨b0, l2, hc2, e2⟩ := gdS_some hc
      subst e2
      obtain ⟨b1, b⟩ := andB_iff.1 b0
      obtain ⟨b2, b⟩ := andB_iff.1 b
      obtain ⟨b3, b4⟩ := andB_iff.1 b
      obtain ⟨n1, n2, n3⟩ := not_up (md := md) b1
      have hcnt := cnt_pos hl hxo n1
      obtain ⟨f, rfl⟩ : ∃ f, fuel = f + 1 := ⟨fuel - 1, by omega⟩
      have hrd := oi_ready hl hxo n1 fun k hk => .inl (subM_ok b2 hk)
      rw [runZ_cons] at h
      change ite' (trials T ops.toList A H Z) (goStep T ih id x.o (D x.i) (runZ T ih ops.toList D id l2) held A H (wantedA ops.toList A x.o)) (.bad 30) = .code e A' H' at h
      obtain ⟨ht, h⟩ := ite'_out h
      refine ⟨fun h0 => (by rw [h0] at hrd; cases hrd), fun r hrr => ?_⟩
      have hup : ∀ k, UpM m Z md k → (Nat.lor m (zmask Z)).testBit k = true := fun k hk => by
        rcases hk with h1 | ⟨c, h1, _, h2⟩
        · exact tb_lor_iff.2 (.inl h1)
        · exact tb_lor_iff.2 (.inr (zmask_iff.2 ⟨c, h1, h2⟩))
      rcases ready_cases hz hl b3 hup (fun _ h => h) hrr with hri | ⟨c, hcZ, hlate, hri⟩
      · subst hri
        have hq := quietZ_ok hxo hoi b4
        have hs1 : Keeps D S HL (listed.setIfInBounds x.i true) w := fun hn => hs (noD_set hn)
        have hz1 := hz.put n3
        have hl1 : LM ops (UpM (Nat.lor m (bm x.i)) Z md) (listed.setIfInBounds x.i true) := (hl.set hxo fun k => Iff.rfl).congr fun k => (upM_put k).symm
        have hcl1 := closed_step hcl hrd
        have hd1 : ∀ i, (i, true) ∈ flatZ l2 → ∀ j, D j = true → i ≠ j ∧ (ops[j]?).isSome = true ∧ (pureAt T ops i = false → ∃ n, reachB ops i n j = true) := hd
        rw [goStep_def] at h
        split at h
        · rename_i hw
          have hwant := wantedA_ok ha hw
          unfold wpOp
          simp only [hxo.1, hwant, if_true]
          refine .inl (doOp_ok2 hT hih h ha hr (fun E1 A1 H1 v v' w1 hrest hp g1 ha1 hr1 => ?_))
          simp only at hrest
          have di1 := di.step (v' := v') hsel hoi hq hp g1
          cases hk : heldOk H1 held with
          | false =>
            rw [hk, ite'_false] at hrest
            obtain ⟨hDt, hrest⟩ := ite'_out hrest
            have hup2 : ¬ NoD D (listed.setIfInBounds x.i true) := fun hn => by
              have h1 := hn x.i hDt
              have h2 := (hl1.at_ x.i).2 ((upM_put x.i).2 (.inl rfl))
              rw [h2] at h1; cases h1
            exact ⟨fun hn => absurd hn hup2, ihn (f + pl.length) (by omega) pl l2 _ Z md _ f [] [] S A1 H1 E1 _ w1 A' H' hle rfl hc2 hd1 hz1 hl1 (by omega) hcl1 hrest ha1 hr1 .nil (fun hn => absurd hn hup2) (g.trans g1) di1⟩
          | true =>
            rw [hk, ite'_true] at hrest
            have hh1 := hh.mono g1.ag g1.le
            have hs2 := heldOk_ok hr1 hh1 hk
            exact ⟨fun hn => (hs (noD_set hn)).1 _ hs2, ihn (f + pl.length) (by omega) pl l2 _ Z md _ f held HL S A1 H1 E1 _ w1 A' H' hle rfl hc2 hd1 hz1 hl1 (by omega) hcl1 hrest ha1 hr1 hh1 (fun hn => ⟨(hs (noD_set hn)).1, hs2⟩) (g.trans g1) di1⟩
        · rename_i hw
          have hwant := wantedA_ok ha hw
          obtain ⟨A1, hput, hrest⟩ := put1_ok h
          unfold wpOp
          simp only [hxo.1, hwant]
          exact ⟨fun hn => (hs1 hn).1 _ (hs1 hn).2, ihn (f + pl.length) (by omega) pl l2 _ Z md _ f held HL S A1 H E _ w A' H' hle rfl hc2 hd1 hz1 hl1 (by omega) hcl1 hrest (ha.put hput VR.undef) hr hh hs1 g (di.step hsel hoi hq hput (Gd.refl _ _ _))⟩
        · cases h
      · subst hri
        exact early c hcZ hlate (allC_iff.1 ht c hcZ) hrr f rfl
    · cases hc
  | opn i =>
    change (match getI (infos ops) i with
      | some x => compOpn x (comp (infos ops) pl) m Z
      | none => none) = some l at hc
    split at hc
    · rename_i x hx
      have hxo := infos_mem (getI_some hx).1
      obtain ⟨b0, l2, hc2, e2⟩ := gdS_some hc
      subst e2
      obtain ⟨b1, b⟩ := andB_iff.1 b0
      obtain ⟨b2, b⟩ := andB_iff.1 b
      obtain ⟨b3, b⟩ := andB_iff.1 b
      obtain ⟨b4, b⟩ := andB_iff.1 b
      obtain ⟨b5, b6⟩ := andB_iff.1 b
      obtain ⟨n1, n2, n3⟩ := not_up (md := md) b1
      rw [runZ_cons] at h
      change runZ T ih ops.toList D id l2 held (A.forget x.o.dst) H = .code e A' H' at h
      have hne : ∀ c ∈ Z, c.z.i ≠ x.i := fun c hc e => n3 c hc (by rw [← e]; exact cmask_z c)
      have hmx : ∀ k, (cmask ⟨x, []⟩).testBit k = true → k = x.i := fun k hk => by
        obtain ⟨y, h1, h2⟩ := cmask_iff.1 hk
        rcases List.mem_cons.1 h1 with h3 | h3
        · subst h3; exact h2.symm
        · cases h3
      have hq1 := quietZ_ok hxo hoi b5
      have hq2 : ∀ c ∈ Z, ∀ y ∈ c.all, Quiet ops y x := fun c hc y hy => quiet_of2 (hoi c hc y hy) hxo (allI_iff.1 (allC_iff.1 b6 c hc) y hy) (by
        have h1 := allI_iff.1 (allC_iff.1 b5 c hc) y hy
        exact h1)
      refine ihn (fuel + pl.length) (by omega) pl l2 m (⟨x, []⟩ :: Z) (fun i => if i = x.i then .late else md i) listed fuel held HL S _ H E a w A' H' hle rfl hc2 hd ?_ (hl.congr fun k => ?_) hcn hcl h (ha.forget _) hr hh hs g ?_
      · refine ⟨List.nodup_cons.2 ⟨fun h => ?_, hz.nd⟩, fun c hc => ?_, fun c hc k hk hk2 => ?_, fun c hc c' hc' hcc k hk hk2 => ?_, fun c hc c' hc' hcc y hy y' hy' => ?_⟩
        · obtain ⟨c, h1, h2⟩ := List.mem_map.1 h
          exact hne c h1 h2
        · rcases List.mem_cons.1 hc with e | e
          · subst e; exact ⟨hxo, b3, b4, b2, trivial⟩
          · exact hz.cv c e
        · rcases List.mem_cons.1 hc with e | e
          · subst e; rw [hmx k hk] at hk2; exact n2 hk2
          · exact hz.dm c e k hk hk2
        · rcases List.mem_cons.1 hc with e | e <;> rcases List.mem_cons.1 hc' with e' | e'
          · subst e e'; exact hcc rfl
          · subst e; rw [hmx k hk] at hk2; exact n3 c' e' hk2
          · subst e'; rw [hmx k hk2] at hk; exact n3 c e hk
          · exact hz.dz c e c' e' hcc k hk hk2
        · rcases List.mem_cons.1 hc with e | e <;> rcases List.mem_cons.1 hc' with e' | e'
          · subst e e'; exact absurd rfl hcc
          · subst e
            rcases List.mem_cons.1 hy with e3 | e3
            · subst e3; exact hq1 c' e' y' hy'
            · cases e3
          · subst e'
            rcases List.mem_cons.1 hy' with e3 | e3
            · subst e3; exact hq2 c e y hy
            · cases e3
          · exact hz.qt c e c' e' hcc y hy y' hy'
      · constructor
        · rintro (h1 | ⟨c, h1, h2, h3⟩)
          · exact .inl h1
          · exact .inr ⟨c, List.mem_cons_of_mem _ h1, by simpa [hne c h1] using h2, h3⟩
        · rintro (h1 | ⟨c, h1, h2, h3⟩)
          · exact .inl h1
          · rcases List.mem_cons.1 h1 with e | e
            · subst e; simp [Mo.up] at h2
            · exact .inr ⟨c, e, by simpa [hne c e] using h2, h3⟩
      · have hold : ∀ c ∈ Z, (if c.z.i = x.i then Mo.late else md c.z.i) = md c.z.i := fun c hc => by rw [if_neg (hne c hc)]
        refine ⟨fun c hc => ?_, fun c hc s hs' => ?_, fun c hc c' hc' s h1 h2 => ?_, fun c hc y hy t ht => ?_⟩
        · rcases List.mem_cons.1 hc with e | e
          · subst e; simp only [if_true]; exact ⟨trivial, fun h => by cases h⟩
          · simp only [hold c e]; exact di.cf c e
        · rcases List.mem_cons.1 hc with e | e
          · subst e; simp at hs'
          · simp only [hold c e] at hs'; exact di.un c e s hs'
        · rcases List.mem_cons.1 hc with e | e
          · subst e; simp at h1
          · rcases List.mem_cons.1 hc' with e' | e'
            · subst e'; simp at h2
            · simp only [hold c e] at h1
              simp only [hold c' e'] at h2
              exact di.ds c e c' e' s h1 h2
        · rcases List.mem_cons.1 hc with e | e
          · subst e
            rcases List.mem_cons.1 hy with e3 | e3
            · subst e3; exact forget_get (.inl ht)
            · cases e3
          · exact forget_get (.inr (di.fg c e y hy t ht))
    · cases hc
  | ext z k =>
    change (match getI (infos ops) k with
      | some x => compExt (infos ops) x (comp (infos ops) pl) m Z (findC Z z)
      | none => none) = some l at hc
    split at hc
    · rename_i x hx
      have hxo := infos_mem (getI_some hx).1
      unfold compExt at hc
      split at hc
      · rename_i r hf
        obtain ⟨c, Z2⟩ := r
        obtain ⟨hperm, _⟩ := findC_spec hf
        simp only at hc hperm
        obtain ⟨b0, l2, hc2, e2⟩ := gdS_some hc
        subst e2
        obtain ⟨b1, b⟩ := andB_iff.1 b0
        obtain ⟨b2, b⟩ := andB_iff.1 b
        obtain ⟨b3, b⟩ := andB_iff.1 b
        obtain ⟨b4, b⟩ := andB_iff.1 b
        obtain ⟨b5, b⟩ := andB_iff.1 b
        obtain ⟨b6, b⟩ := andB_iff.1 b
        obtain ⟨b7, b⟩ := andB_iff.1 b
        obtain ⟨b8, b⟩ := andB_iff.1 b
        obtain ⟨b9, b10⟩ := andB_iff.1 b
        obtain ⟨n1, n2, n3⟩ := not_up (md := md) b1
        have hz2 := hz.of_perm hperm
        have di2 := di.of_perm hperm
        have hmemZ : ∀ c', c' ∈ c :: Z2 ↔ c' ∈ Z := fun c' => hperm.mem_iff.symm
        have hcZ : c ∈ Z := (hmemZ c).1 (List.mem_cons_self ..)
        have hcv := hz.cv c hcZ
        have hoi2 : ∀ c' ∈ Z2, ∀ y ∈ c'.all, IsOI ops y := fun c' hc' => hoi c' ((hmemZ c').1 (List.mem_cons_of_mem _ hc'))
        have hqo : ∀ y ∈ c.all, Quiet ops x y := fun y hy => quiet_of hxo (hcv.all y hy) (allI_iff.1 b8 y hy)
        have hq1 := quietZ_ok hxo hoi2 b9
        have hq2 : ∀ c' ∈ Z2, ∀ y ∈ c'.all, Quiet ops y x := fun c' hc' y hy => quiet_of2 (hoi2 c' hc' y hy) hxo (allI_iff.1 (allC_iff.1 b10 c' hc') y hy) (allI_iff.1 (allC_iff.1 b9 c' hc') y hy)
        have hDx : D x.i = false := by
          cases hD : D x.i with
          | false => rfl
          | true => exact absurd rfl (hd x.i (List.mem_cons_self ..) x.i hD).1
        have hpre : maskL ([c.z] ++ c.ks) = cmask c := rfl
        have hdep : ∃ k, x.pm.testBit k = true ∧ (cmask c).testBit k = true := by
          refine disM_not ?_
          cases h1 : disM x.pm (cmask c) with
          | false => rfl
          | true => rw [h1] at b3; cases b3
        have hkok : KOK ops D m ([c.z] ++ c.ks) x := ⟨hxo, b5, b6, b7, hqo, hDx, hdep, n3 c hcZ, Nat.lor m (cmask c), fun k hk => tb_lor_iff.1 hk, b2, b4⟩
        have hall : ∀ y, y ∈ (⟨c.z, c.ks ++ [x]⟩ : Clu).all ↔ y ∈ c.all ∨ y = x := fun y => by
          show y ∈ c.z :: (c.ks ++ [x]) ↔ y ∈ c.z :: c.ks ∨ y = x
          simp only [List.mem_cons, List.mem_append, List.not_mem_nil, or_false]
          constructor
          · rintro (h | h | h)
            · exact .inl (.inl h)
            · exact .inl (.inr h)
            · exact .inr h
          · rintro ((h | h) | h)
            · exact .inl h
            · exact .inr (.inl h)
            · exact .inr (.inr h)
        have hcm : ∀ k, (cmask ⟨c.z, c.ks ++ [x]⟩).testBit k = true ↔ (cmask c).testBit k = true ∨ k = x.i := fun k => by
          rw [cmask_iff, cmask_iff]
          constructor
          · rintro ⟨y, h1, h2⟩
            rcases (hall y).1 h1 with h3 | h3
            · exact .inl ⟨y, h3, h2⟩
            · subst h3; exact .inr h2.symm
          · rintro (⟨y, h1, h2⟩ | h1)
            · exact ⟨y, (hall y).2 (.inl h1), h2⟩
            · exact ⟨x, (hall x).2 (.inr rfl), h1.symm⟩
        have hn3 : ∀ c' ∈ Z2, ¬ (cmask c').testBit x.i = true := fun c' hc' => n3 c' ((hmemZ c').1 (List.mem_cons_of_mem _ hc'))
        have hz3 : ZI ops D m (⟨c.z, c.ks ++ [x]⟩ :: Z2) := by
          refine ⟨hz2.nd, fun c' hc' => ?_, fun c' hc' k hk hk2 => ?_, fun c1 h1 c2 h2 hcc k hk hk2 => ?_, fun c1 h1 c2 h2 hcc y hy y' hy' => ?_⟩
          · rcases List.mem_cons.1 hc' with e | e
            · subst e; exact ⟨hcv.oi, hcv.ds, hcv.own, hcv.pm, hcv.ks.snoc hkok⟩
            · exact hz2.cv c' (List.mem_cons_of_mem _ e)
          · rcases List.mem_cons.1 hc' with e | e
            · subst e
              rcases (hcm k).1 hk with h3 | h3
              · exact hz2.dm c (List.mem_cons_self ..) k h3 hk2
              · subst h3; exact n2 hk2
            · exact hz2.dm c' (List.mem_cons_of_mem _ e) k hk hk2
          · rcases List.mem_cons.1 h1 with e | e <;> rcases List.mem_cons.1 h2 with e' | e'
            · subst e e'; exact hcc rfl
            · subst e
              rcases (hcm k).1 hk with h3 | h3
              · exact hz2.dz c (List.mem_cons_self ..) c2 (List.mem_cons_of_mem _ e') hcc k h3 hk2
              · subst h3; exact hn3 c2 e' hk2
            · subst e'
              rcases (hcm k).1 hk2 with h3 | h3
              · exact hz2.dz c1 (List.mem_cons_of_mem _ e) c (List.mem_cons_self ..) hcc k hk h3
              · subst h3; exact hn3 c1 e hk
            · exact hz2.dz c1 (List.mem_cons_of_mem _ e) c2 (List.mem_cons_of_mem _ e') hcc k hk hk2
          · rcases List.mem_cons.1 h1 with e | e <;> rcases List.mem_cons.1 h2 with e' | e'
            · subst e e'; exact absurd rfl hcc
            · subst e
              rcases (hall y).1 hy with h3 | h3
              · exact hz2.qt c (List.mem_cons_self ..) c2 (List.mem_cons_of_mem _ e') hcc y h3 y' hy'
              · subst h3; exact hq1 c2 e' y' hy'
            · subst e'
              rcases (hall y').1 hy' with h3 | h3
              · exact hz2.qt c1 (List.mem_cons_of_mem _ e) c (List.mem_cons_self ..) hcc y hy y' h3
              · subst h3; exact hq2 c1 e y hy
            · exact hz2.qt c1 (List.mem_cons_of_mem _ e) c2 (List.mem_cons_of_mem _ e') hcc y hy y' hy'
        rw [runZ_cons] at h
        change ite' (okAH (closeC T ops.toList (A.forget x.o.dst) H ⟨c.z, c.ks ++ [x]⟩)) (runZ T ih ops.toList D id l2 held (A.forget x.o.dst) H) (.bad 31) = .code e A' H' at h
        obtain ⟨ht, h⟩ := ite'_out h
        have hd1 : ∀ i, (i, true) ∈ flatZ l2 → ∀ j, D j = true → i ≠ j ∧ (ops[j]?).isSome = true ∧ (pureAt T ops i = false → ∃ n, reachB ops i n j = true) := fun i hi => hd i (List.mem_cons_of_mem _ hi)
        have hfg3 : ∀ c' ∈ (⟨c.z, c.ks ++ [x]⟩ : Clu) :: Z2, ∀ y ∈ c'.all, ∀ t, y.o.dst = some t → (A.forget x.o.dst).get t = none := fun c' hc' y hy t ht' => by
          rcases List.mem_cons.1 hc' with e | e
          · subst e
            rcases (hall y).1 hy with h3 | h3
            · exact forget_get (.inr (di2.fg c (List.mem_cons_self ..) y h3 t ht'))
            · subst h3; exact forget_get (.inl ht')
          · exact forget_get (.inr (di2.fg c' (List.mem_cons_of_mem _ e) y hy t ht'))
        have hun3 : ∀ c' ∈ (⟨c.z, c.ks ++ [x]⟩ : Clu) :: Z2, ∀ s, md c'.z.i = .at s → w0.heap.size ≤ s ∧ ∀ b y, H.b.get b = some y → E.s b ≠ s := fun c' hc' s hs' => by
          rcases List.mem_cons.1 hc' with e | e
          · subst e; exact di2.un c (List.mem_cons_self ..) s hs'
          · exact di2.un c' (List.mem_cons_of_mem _ e) s hs'
        have hds3 : ∀ c1 ∈ (⟨c.z, c.ks ++ [x]⟩ : Clu) :: Z2, ∀ c2 ∈ (⟨c.z, c.ks ++ [x]⟩ : Clu) :: Z2, ∀ s, md c1.z.i = .at s → md c2.z.i = .at s → c1.z.i = c2.z.i := fun c1 h1 c2 h2 s e1 e2 => by
          rcases List.mem_cons.1 h1 with e | e <;> rcases List.mem_cons.1 h2 with e' | e'
          · subst e e'; rfl
          · subst e; exact di2.ds c (List.mem_cons_self ..) c2 (List.mem_cons_of_mem _ e') s e1 e2
          · subst e'; exact di2.ds c1 (List.mem_cons_of_mem _ e) c (List.mem_cons_self ..) s e1 e2
          · exact di2.ds c1 (List.mem_cons_of_mem _ e) c2 (List.mem_cons_of_mem _ e') s e1 e2
        cases hup : (md c.z.i).up with
        | false =>
          refine ihn (fuel + pl.length) (by omega) pl l2 m _ md listed fuel held HL S _ H E a w A' H' hle rfl hc2 hd1 hz3 (hl.congr fun k => ?_) hcn hcl h (ha.forget _) hr hh hs g ⟨fun c' hc' => ?_, hun3, hds3, hfg3⟩
          · constructor
            · rintro (h1 | ⟨c', h1, h2, h3⟩)
              · exact .inl h1
              · rcases List.mem_cons.1 ((hmemZ c').2 h1) with e | e
                · subst e; rw [hup] at h2; cases h2
                · exact .inr ⟨c', List.mem_cons_of_mem _ e, h2, h3⟩
            · rintro (h1 | ⟨c', h1, h2, h3⟩)
              · exact .inl h1
              · rcases List.mem_cons.1 h1 with e | e
                · subst e
                  have h4 : (md c.z.i).up = true := h2
                  rw [hup] at h4; cases h4
                · exact .inr ⟨c', (hmemZ c').1 (List.mem_cons_of_mem _ e), h2, h3⟩
          · rcases List.mem_cons.1 hc' with e | e
            · subst e
              have h1 := (di2.cf c (List.mem_cons_self ..)).1
              exact ⟨h1, fun h2 => by
                have h4 : (md c.z.i).up = true := h2
                rw [hup] at h4; cases h4⟩
            · exact di2.cf c' (List.mem_cons_of_mem _ e)
        | true =>
          obtain ⟨r2, hr2⟩ := okAH_some ht
          obtain ⟨q, hq, hrun⟩ := closeC_snoc hr2
          obtain ⟨E2, _, _, ha2, _, _⟩ := close_early (P := P) hT hq (c := c) hcv (ha.forget _) hr (di.cf c hcZ) hup (fun s hs' => (di.un c hcZ s hs').2)
          have hnu : ¬ UpM m Z md x.i := n1
          have hk0 : CVk ops D m c.all [x] := ⟨hkok, trivial⟩
          refine take_ks hT hns hQ [x] c.all (UpM m Z md) listed a q.1 fuel hcn hk0 hrun ha2 hl hcl (fun k hk => ?_) (fun y hy => ?_) (fun hn => (hs hn).1 _ (hs hn).2) ?_
          · rcases hk with hk | hk
            · exact .inl hk
            · exact .inr ⟨c, hcZ, hup, hk⟩
          · rw [List.mem_singleton] at hy; subst hy; exact hnu
          · intro listed' a' g' q7 q8 q1 q2 q4 q5 q6
            refine ihn (g' + pl.length) (by omega) pl l2 m _ md listed' g' held HL S _ H E a' w A' H' hle rfl hc2 hd1 hz3 (q1.congr fun k => ?_) q8 q2 h (q5.ar (ha.forget _) fun y hy t ht' => ?_) hr hh (fun hn => hs (q4 hn)) g ⟨fun c' hc' => ?_, hun3, hds3, hfg3⟩
            · have hxm : (maskL [x]).testBit k = true ↔ k = x.i := by
                rw [maskL_iff]; simp [eq_comm]
              rw [hxm]
              constructor
              · rintro ((h1 | ⟨c', h1, h2, h3⟩) | h1)
                · exact .inl h1
                · rcases List.mem_cons.1 ((hmemZ c').2 h1) with e | e
                  · subst e; exact .inr ⟨_, List.mem_cons_self .., hup, (hcm k).2 (.inl h3)⟩
                  · exact .inr ⟨c', List.mem_cons_of_mem _ e, h2, h3⟩
                · exact .inr ⟨_, List.mem_cons_self .., hup, (hcm k).2 (.inr h1)⟩
              · rintro (h1 | ⟨c', h1, h2, h3⟩)
                · exact .inl (.inl h1)
                · rcases List.mem_cons.1 h1 with e | e
                  · subst e
                    rcases (hcm k).1 h3 with h4 | h4
                    · exact .inl (.inr ⟨c, hcZ, hup, h4⟩)
                    · exact .inr h4
                  · exact .inl (.inr ⟨c', (hmemZ c').1 (List.mem_cons_of_mem _ e), h2, h3⟩)
            · rw [List.mem_singleton] at hy; subst hy; exact forget_get (.inl ht')
            · rcases List.mem_cons.1 hc' with e | e
              · subst e
                have h1 := q5.cf (di.cf c hcZ) (fun y hy => hsel y (hcv.all y hy)) fun y hy z' hz' => by
                  rw [List.mem_singleton] at hy; subst hy; exact hqo z' hz'
                refine ⟨h1.1, fun h2 y hy => ?_⟩
                rcases List.mem_append.1 hy with h3 | h3
                · exact h1.2 h2 y h3
                · exact q6 y h3
              · exact q5.cf (di2.cf c' (List.mem_cons_of_mem _ e)) (fun y hy => hsel y (hoi2 c' e y hy)) fun y hy z' hz' => by
                  rw [List.mem_singleton] at hy; subst hy; exact hq1 c' e z' hz'
      · cases hc
    · cases hc
  | cls z =>
    change compCls (infos ops) (comp (infos ops) pl) m (findC Z z) = some l at hc
    unfold compCls at hc
    split at hc
    · rename_i r hf
      obtain ⟨c, Z2⟩ := r
      obtain ⟨hperm, _⟩ := findC_spec hf
      simp only at hc hperm
      obtain ⟨b1, l2, hc2, e2⟩ := gdS_some hc
      subst e2
      have hz2 := hz.of_perm hperm
      have di2 := di.of_perm hperm
      have hmemZ : ∀ c', c' ∈ c :: Z2 ↔ c' ∈ Z := fun c' => hperm.mem_iff.symm
      have hcZ : c ∈ Z := (hmemZ c).1 (List.mem_cons_self ..)
      have hcv := hz.cv c hcZ
      have hne := hz2.ne
      rw [runZ_cons] at h
      change ite' (trials T ops.toList A H Z2) (clsStep (closeC T ops.toList A H c) (runZ T ih ops.toList D id l2) held) (.bad 33) = .code e A' H' at h
      obtain ⟨ht, h⟩ := ite'_out h
      unfold clsStep at h
      split at h
      · rename_i r hclose
        have hok : okAH (closeC T ops.toList A H c) = true := by rw [hclose]; rfl
        cases hup : (md c.z.i).up with
        | true =>
          obtain ⟨E2, ag2, le2, ha2, hr2, hdom⟩ := close_early (P := P) hT hclose hcv ha hr (di.cf c hcZ) hup (fun s hs' => (di.un c hcZ s hs').2)
          have hmm : ∀ k, (Nat.lor m (cmask c)).testBit k = true ↔ m.testBit k = true ∨ (cmask c).testBit k = true := fun k => tb_lor_iff
          refine ihn (fuel + pl.length) (by omega) pl l2 (Nat.lor m (cmask c)) Z2 md listed fuel held HL S r.1 r.2 E2 a w A' H' hle rfl hc2 hd (hz2.tail.mono (fun k hk => (hmm k).2 (.inl hk)) fun c' hc' k hk hk2 => ?_) (hl.congr fun k => ?_) hcn hcl h ha2 hr2 (hh.mono ag2 le2) hs ?_ ⟨fun c' hc' => di2.cf c' (List.mem_cons_of_mem _ hc'), fun c' hc' s hs' => ?_, di2.tail.ds, fun c' hc' y hy t ht' => ?_⟩
          · rcases (hmm k).1 hk2 with h1 | h1
            · exact hz2.dm c' (List.mem_cons_of_mem _ hc') k hk h1
            · exact hz2.dz c' (List.mem_cons_of_mem _ hc') c (List.mem_cons_self ..) (hne c' hc') k hk h1
          · constructor
            · rintro (h1 | ⟨c', h1, h2, h3⟩)
              · exact .inl ((hmm k).2 (.inl h1))
              · rcases List.mem_cons.1 ((hmemZ c').2 h1) with e | e
                · subst e; exact .inl ((hmm k).2 (.inr h3))
                · exact .inr ⟨c', e, h2, h3⟩
            · rintro (h1 | ⟨c', h1, h2, h3⟩)
              · rcases (hmm k).1 h1 with h4 | h4
                · exact .inl h4
                · exact .inr ⟨c, hcZ, hup, h4⟩
              · exact .inr ⟨c', (hmemZ c').1 (List.mem_cons_of_mem _ h1), h2, h3⟩
          · refine ⟨Nat.le_trans g.le le2, fun b hb => ⟨(ag2 b (Nat.lt_of_lt_of_le hb g.le)).1.trans (g.ag b hb).1, (ag2 b (Nat.lt_of_lt_of_le hb g.le)).2.trans (g.ag b hb).2⟩, fun b y hb => ?_, g.os, g.tape, g.output, g.size, g.frame⟩
            rcases hdom b y hb with ⟨h1, h2⟩ | h1
            · rw [h2]; exact g.dom b y h1
            · exact .inr (di.un c hcZ _ h1).1
          · refine ⟨(di2.un c' (List.mem_cons_of_mem _ hc') s hs').1, fun b y hb he => ?_⟩
            rcases hdom b y hb with ⟨h1, h2⟩ | h1
            · exact (di2.un c' (List.mem_cons_of_mem _ hc') s hs').2 b y h1 (h2.symm.trans he)
            · rw [he] at h1
              exact hne c' hc' (di2.ds c' (List.mem_cons_of_mem _ hc') c (List.mem_cons_self ..) s hs' h1)
          · rw [closeC_get hclose fun x hx e => ?_]
            · exact di2.fg c' (List.mem_cons_of_mem _ hc') y hy t ht'
            · exact (hz2.qt c (List.mem_cons_self ..) c' (List.mem_cons_of_mem _ hc') (Ne.symm (hne c' hc')) x hx y hy t e).2 ht'
        | false =>
          have hlate : md c.z.i = .late := by
            cases h1 : md c.z.i with
            | late => rfl
            | void => rw [h1] at hup; cases hup
            | «at» s => rw [h1] at hup; cases hup
          have hnu : ¬ UpM m Z md c.z.i := by
            rintro (h1 | ⟨c', h1, h2, h3⟩)
            · exact hz.dm c hcZ _ (cmask_z c) h1
            · by_cases e : c.z.i = c'.z.i
              · rw [← e, hup] at h2; cases h2
              · exact hz.dz c hcZ c' h1 e _ (cmask_z c) h3
          have hcnt := cnt_pos hl hcv.oi hnu
          obtain ⟨f, rfl⟩ : ∃ f, fuel = f + 1 := ⟨fuel - 1, by omega⟩
          have hrd := oi_ready hl hcv.oi hnu fun k hk => .inl (subM_ok hcv.pm hk)
          refine ⟨fun h0 => (by rw [h0] at hrd; cases hrd), fun r hrr => ?_⟩
          have hup2 : ∀ k, UpM m Z md k → (Nat.lor m (zmask Z2)).testBit k = true := fun k hk => by
            rcases hk with h1 | ⟨c', h1, h2, h3⟩
            · exact tb_lor_iff.2 (.inl h1)
            · rcases List.mem_cons.1 ((hmemZ c').2 h1) with e | e
              · subst e; rw [hup] at h2; cases h2
              · exact tb_lor_iff.2 (.inr (zmask_iff.2 ⟨c', e, h3⟩))
          have hsub : ∀ k, (zmask Z2).testBit k = true → (zmask Z).testBit k = true := fun k hk => by
            obtain ⟨c', h1, h2⟩ := zmask_iff.1 hk
            exact zmask_iff.2 ⟨c', (hmemZ c').1 (List.mem_cons_of_mem _ h1), h2⟩
          rcases ready_cases hz hl b1 hup2 hsub hrr with hri | ⟨c', hcZ', hlate', hri⟩
          · subst hri; exact early c hcZ hlate hok hrr f rfl
          · subst hri
            rcases List.mem_cons.1 ((hmemZ c').2 hcZ') with e | e
            · subst e; exact early c' hcZ hlate hok hrr f rfl
            · exact early c' hcZ' hlate' (allC_iff.1 ht c' e) hrr f rfl
      · cases h
    · cases hc
  | fork i j =>
    change (match getI (infos ops) i with
      | some x => (match getI (infos ops) j with
        | some y => compFork (infos ops) x y pl m Z
        | none => none)
      | none => none) = some l at hc
    split at hc
    · rename_i x hx
      split at hc
      · rename_i y hy
        have hxo := infos_mem (getI_some hx).1
        have hyo := infos_mem (getI_some hy).1
        obtain ⟨b0, hc⟩ := ite'_some hc
        cases hc
        obtain ⟨c1, b⟩ := andB_iff.1 b0
        obtain ⟨c2, b⟩ := andB_iff.1 b
        obtain ⟨b1, b⟩ := andB_iff.1 b
        obtain ⟨b2, b⟩ := andB_iff.1 b
        obtain ⟨b3, b⟩ := andB_iff.1 b
        obtain ⟨b4, b⟩ := andB_iff.1 b
        obtain ⟨b5, b⟩ := andB_iff.1 b
        obtain ⟨b6, b7⟩ := andB_iff.1 b
        have hpl : pl = [] := by
          cases pl with
          | nil => rfl
          | cons s pl => cases c1
        subst hpl
        have hZ : Z = [] := by
          cases Z with
          | nil => rfl
          | cons c Z => cases c2
        subst hZ
        have hne : x.i ≠ y.i := fun e => by rw [e, Nat.beq_refl] at b3; cases b3
        have hl0 : LM ops (fun k => m.testBit k = true) listed := hl.congr fun k => ⟨fun h => h.resolve_right (fun ⟨c, hc, _⟩ => by cases hc), .inl⟩
        have mx : ¬ m.testBit x.i = true := fun h => by rw [bit_tb, h] at b1; cases b1
        have my : ¬ m.testBit y.i = true := fun h => by rw [bit_tb, h] at b2; cases b2
        rw [runZ_cons] at h
        change meetOut (goStep T ih id x.o (D x.i) (fun held A H => goStep T ih id y.o (D y.i) (runZ T ih ops.toList D id []) held A H (wantedA ops.toList A y.o)) held A H (wantedA ops.toList A x.o)) (goStep T ih id y.o (D y.i) (fun held A H => goStep T ih id x.o (D x.i) (runZ T ih ops.toList D id []) held A H (wantedA ops.toList A x.o)) held A H (wantedA ops.toList A y.o)) = .code e A' H' at h
        obtain ⟨A1, H1, A2, H2, hr1, hr2, hle1, hle2, har⟩ := meetOut_ok h
        have hall : ∀ z ∈ infos ops, z.i = x.i ∨ z.i = y.i ∨ m.testBit z.i = true := fun z hz => by
          have h1 := allI_iff.1 b7 z hz
          rw [bit_tb, tb_lor_iff, tb_lor_iff, tb_bm_iff, tb_bm_iff] at h1
          rcases h1 with (h1 | h1) | h1
          · exact .inr (.inr h1)
          · exact .inl h1
          · exact .inr (.inl h1)
        have one : ∀ (x y : OI), IsOI ops x → IsOI ops y → x.i ≠ y.i → ¬ m.testBit x.i = true → ¬ m.testBit y.i = true → subM x.pm m = true → subM y.pm m = true → (∀ z ∈ infos ops, z.i = x.i ∨ z.i = y.i ∨ m.testBit z.i = true) → ∀ A1 H1, goStep T ih id x.o (D x.i) (fun held A H => goStep T ih id y.o (D y.i) (runZ T ih ops.toList D id []) held A H (wantedA ops.toList A y.o)) held A H (wantedA ops.toList A x.o) = .code e A1 H1 → OLe AF A1 HF H1 →
            ∀ f, fuel = f + 1 → wpOp P ops (Post ds e AF HF E0 H0 w0) x.i (fun a' w' => (NoD D (listed.setIfInBounds x.i true) → S w') ∧ wpD P ops (Post ds e AF HF E0 H0 w0) D S f (listed.setIfInBounds x.i true) a' w') a w := by
          intro x y hxo hyo hne mx my px py hall A1 H1 h1 hle1 f hf
          subst hf
          have hrd := oi_ready hl0 hxo mx fun k hk => subM_ok px hk
          have hcnt := cnt_pos hl0 hxo mx
          have hs1 : Keeps D S HL (listed.setIfInBounds x.i true) w := fun hn => hs (noD_set hn)
          have hl1 : LM ops (UpM (Nat.lor m (bm x.i)) [] md) (listed.setIfInBounds x.i true) := (hl0.set hxo fun k => Iff.rfl).congr fun k => by
            unfold UpM
            rw [putB]
            exact ⟨.inl, fun h => h.resolve_right fun ⟨c, hc, _⟩ => by cases hc⟩
          have hcl1 := closed_step hcl hrd
          have hz1 : ZI ops D (Nat.lor m (bm x.i)) [] := ⟨List.nodup_nil, fun c hc => (by cases hc), fun c hc => (by cases hc), fun c hc => (by cases hc), fun c hc => (by cases hc)⟩
          have hcomp : comp (infos ops) [.go y.i] (Nat.lor m (bm x.i)) [] = some [.go y []] := by
            have hg : getI (infos ops) y.i = some y := by
              have hm := mem_infos hyo.1
              rw [← hyo.2] at hm
              have key : ∀ (l : List OI), y ∈ l → (∀ z ∈ l, IsOI ops z) → getI l y.i = some y := by
                intro l
                induction l with
                | nil => intro h _; cases h
                | cons z l ihl =>
                  intro h hz
                  change ite' (Nat.beq z.i y.i) (some z) (getI l y.i) = some y
                  cases hb : Nat.beq z.i y.i with
                  | true =>
                    have := (hz z (List.mem_cons_self ..)).eq hyo (Nat.eq_of_beq_eq_true hb)
                    rw [this]
                  | false =>
                    rcases List.mem_cons.1 h with e | e
                    · subst e; rw [Nat.beq_refl] at hb; cases hb
                    · exact ihl e fun z hz' => hz z (List.mem_cons_of_mem _ hz')
              exact key _ hm fun z hz => infos_mem hz
            change (match getI (infos ops) y.i with
              | some y => compGo (infos ops) y (comp (infos ops) []) (Nat.lor m (bm x.i)) []
              | none => none) = _
            rw [hg]
            change gdS (andB (Bool.not (bit (Nat.lor (Nat.lor m (bm x.i)) (zmask [])) y.i)) (andB (subM y.pm (Nat.lor m (bm x.i))) (andB (onlyR (infos ops) (Nat.lor (Nat.lor m (bm x.i)) (zmask [])) y.i) (quietZ y [])))) (.go y []) (comp (infos ops) [] (Nat.lor (Nat.lor m (bm x.i)) (bm y.i)) []) = _
            have e0 : ∀ k, (Nat.lor (Nat.lor m (bm x.i)) (zmask [])).testBit k = true ↔ k = x.i ∨ m.testBit k = true := fun k => by
              rw [tb_lor_iff, putB]
              exact ⟨fun h => h.resolve_right (fun h => by change (0 : Nat).testBit k = true at h; simp at h), .inl⟩
            have k1 : Bool.not (bit (Nat.lor (Nat.lor m (bm x.i)) (zmask [])) y.i) = true := by
              rw [bit_tb]
              cases h2 : (Nat.lor (Nat.lor m (bm x.i)) (zmask [])).testBit y.i with
              | false => rfl
              | true =>
                rcases (e0 _).1 h2 with e | e
                · exact absurd e.symm hne
                · exact absurd e my
            have k2 : subM y.pm (Nat.lor m (bm x.i)) = true := subM_of fun k hk => putB.2 (.inr (subM_ok py hk))
            have k3 : onlyR (infos ops) (Nat.lor (Nat.lor m (bm x.i)) (zmask [])) y.i = true := allI_iff.2 fun z hz => by
              cases h2 : bit (Nat.lor (Nat.lor m (bm x.i)) (zmask [])) z.i with
              | true => rfl
              | false =>
                show ite' (Nat.beq z.i y.i) true _ = true
                rw [bit_tb] at h2
                have : z.i = y.i := by
                  rcases hall z hz with e | e | e
                  · have := (e0 z.i).2 (.inl e); rw [h2] at this; cases this
                  · exact e
                  · have := (e0 z.i).2 (.inr e); rw [h2] at this; cases this
                rw [this, Nat.beq_refl]
            have k4 : comp (infos ops) [] (Nat.lor (Nat.lor m (bm x.i)) (bm y.i)) [] = some [] := by
              change ite' (andB true (allI (fun z => bit (Nat.lor (Nat.lor m (bm x.i)) (bm y.i)) z.i) (infos ops))) (some []) none = some []
              have : allI (fun z => bit (Nat.lor (Nat.lor m (bm x.i)) (bm y.i)) z.i) (infos ops) = true := allI_iff.2 fun z hz => by
                rw [bit_tb, tb_lor_iff, tb_lor_iff, tb_bm_iff, tb_bm_iff]
                rcases hall z hz with e | e | e
                · exact .inl (.inr e)
                · exact .inr e
                · exact .inl (.inl e)
              rw [this]; rfl
            rw [k1, k2, k3, k4]; rfl
          have hd1 : ∀ i, (i, true) ∈ flatZ [Step.go y []] → ∀ j, D j = true → i ≠ j ∧ (ops[j]?).isSome = true ∧ (pureAt T ops i = false → ∃ n, reachB ops i n j = true) := fun i hi => by cases hi
          have hrun : ∀ held A H, goStep T ih id y.o (D y.i) (runZ T ih ops.toList D id []) held A H (wantedA ops.toList A y.o) = runZ T ih ops.toList D id [Step.go y []] held A H := fun held A H => rfl
          have hdi : ∀ {A H E a w}, DI P ops [] md A H E a w w0 := fun {A H E a w} => ⟨fun c hc => (by cases hc), fun c hc => (by cases hc), fun c hc => (by cases hc), fun c hc => (by cases hc)⟩
          rw [goStep_def] at h1
          split at h1
          · rename_i hw
            have hwant := wantedA_ok ha hw
            unfold wpOp
            simp only [hxo.1, hwant, if_true]
            refine .inl (doOp_ok2 hT hih h1 ha hr (fun E1 B1 G1 v v' w1 hrest hp g1 ha1 hr1 => ?_))
            simp only [hrun] at hrest
            cases hk : heldOk G1 held with
            | false =>
              rw [hk, ite'_false] at hrest
              obtain ⟨hDt, hrest⟩ := ite'_out hrest
              have hup2 : ¬ NoD D (listed.setIfInBounds x.i true) := fun hn => by
                have h1 := hn x.i hDt
                have h2 := (hl1.at_ x.i).2 (.inl (putB.2 (.inl rfl)))
                rw [h2] at h1; cases h1
              exact ⟨fun hn => absurd hn hup2, ihn (f + 1) (by simp at hn; omega) [.go y.i] _ _ [] md _ f [] [] S B1 G1 E1 _ w1 A1 H1 hle1 rfl hcomp hd1 hz1 hl1 (by omega) hcl1 hrest ha1 hr1 .nil (fun hn => absurd hn hup2) (g.trans g1) hdi⟩
            | true =>
              rw [hk, ite'_true] at hrest
              have hh1 := hh.mono g1.ag g1.le
              have hs2 := heldOk_ok hr1 hh1 hk
              exact ⟨fun hn => (hs (noD_set hn)).1 _ hs2, ihn (f + 1) (by simp at hn; omega) [.go y.i] _ _ [] md _ f held HL S B1 G1 E1 _ w1 A1 H1 hle1 rfl hcomp hd1 hz1 hl1 (by omega) hcl1 hrest ha1 hr1 hh1 (fun hn => ⟨(hs (noD_set hn)).1, hs2⟩) (g.trans g1) hdi⟩
          · rename_i hw
            have hwant := wantedA_ok ha hw
            obtain ⟨B1, hput, hrest⟩ := put1_ok h1
            simp only [hrun] at hrest
            unfold wpOp
            simp only [hxo.1, hwant]
            exact ⟨fun hn => (hs1 hn).1 _ (hs1 hn).2, ihn (f + 1) (by simp at hn; omega) [.go y.i] _ _ [] md _ f held HL S B1 H E _ w A1 H1 hle1 rfl hcomp hd1 hz1 hl1 (by omega) hcl1 hrest (ha.put hput VR.undef) hr hh hs1 g hdi⟩
          · cases h1
        have hcnt := cnt_pos hl0 hxo mx
        obtain ⟨f, rfl⟩ : ∃ f, fuel = f + 1 := ⟨fuel - 1, by omega⟩
        have hrd := oi_ready hl0 hxo mx fun k hk => subM_ok b4 hk
        refine ⟨fun h0 => (by rw [h0] at hrd; cases hrd), fun r hrr => ?_⟩
        obtain ⟨q1, z, hz1, hz2, hz3⟩ := ready_oi hl0 hrr
        rcases hall z hz1 with e1 | e1 | e1
        · rw [← hz2, e1]
          exact one x y hxo hyo hne mx my b4 b5 hall A1 H1 hr1 (hle.trans ⟨hle1, fun E N a h => (har).1 h⟩) f rfl
        · rw [← hz2, e1]
          exact one y x hyo hxo (Ne.symm hne) my mx b5 b4 (fun z hz => by
            rcases hall z hz with e | e | e
            · exact .inr (.inl e)
            · exact .inl e
            · exact .inr (.inr e)) A2 H2 hr2 (hle.trans ⟨hle2, fun E N a h => (har).2 h⟩) f rfl
        · rw [hz2] at e1; exact absurd e1 q1
      · cases hc
    · cases hc
theorem noSelB_ok {ops : Array Oper} (h : noSelB (infos ops) = true) : Region.noSelect ops = true := by
  unfold Region.noSelect
  rw [Array.all_eq_true_iff_forall_mem]
  intro o ho
  obtain ⟨j, hj⟩ := Array.mem_iff_getElem?.1 ho
  have h1 := allI_iff.1 h _ (mem_infos hj)
  change (match o.op with
    | .select _ _ => false
    | _ => true) = true at h1
  split at h1
  · cases h1
  · rename_i hne
    split
    · rename_i cs b he; exact absurd he (hne cs b)
    · rfl
theorem drawZ_any {P : Program} {T : Cx} (hT : Fits P T) (hm : P.follows .mixedOrders = true) {ih : Cmd → Out} (hih : CallsOk P T ih) {ops : Array Oper} {id : Nat} {A A' : AA} {H H' : Hp} {e : Ex} (h : drawZ T ih ops id A H = .code e A' H') {E : Env} {a : Act} {w : World} (ha : AR ds E H.next A a) (hr : HRel E H w) :
    wpAny P .any ops (Post ds e A' H' E H w) ops.size (Array.replicate ops.size false) a { w with drawn := w.drawn + 1 } := by
  unfold drawZ at h
  split at h
  · rename_i l hl
    obtain ⟨h1, h2⟩ := ite'_out h
    have hns := noSelB_ok h1
    have hr1 : HRel E H { w with drawn := w.drawn + 1 } := hr.heap rfl
    have g1 : Gd E E H H w { w with drawn := w.drawn + 1 } := ⟨Nat.le_refl _, Agree.refl _ _, fun b x hx => .inl ⟨b, x, hx, fun h => h, rfl⟩, rfl, rfl, rfl, Nat.le_refl _, fun _ _ _ => rfl⟩
    unfold planZ at hl
    split at hl
    · rename_i pl hpl
      refine wpD_any _ _ _ _ (runZ_ok hT hih hns (e := e) (AF := A') (HF := H') (H0 := H) (E0 := E) (w0 := w) (D := dOf T ops (flatZ l)) (id := id) _ pl l 0 [] (fun _ => .late) _ ops.size [] [] (SS []) A H E a _ A' H' (OLe.refl _ _) rfl hl (fun i hi j hj => dOf_ok hj hi) ⟨List.nodup_nil, fun c hc => (by cases hc), fun c hc => (by cases hc), fun c hc => (by cases hc), fun c hc => (by cases hc)⟩ ⟨by simp, fun k => ?_⟩ (by rw [cntF_start]; exact Nat.le_refl _) (closed_start _ _) h2 ha hr1 .nil (fun _ => ⟨fun _ h => h, fun q hq => by cases hq⟩) g1 ⟨fun c hc => (by cases hc), fun c hc => (by cases hc), fun c hc => (by cases hc), fun c hc => (by cases hc)⟩)
      constructor
      · intro hk
        simp only [Array.getD_eq_getD_getElem?, Array.getElem?_replicate] at hk
        split at hk <;> cases hk
      · rintro (hk | ⟨c, hc, _⟩)
        · simp at hk
        · cases hc
    · cases hl
  · cases h
end
end Go.Proofs.YtanhkchpffkloaaGreatDoor
