import Derived.Test.YtdkfimejabanlaaDoorEq6
import Derived.OrdersIn
import Derived.LoopNIn
import Derived.TacticsIn
import Derived.RangeFuncRecord
namespace Go.Proofs.YtdkfimejabanlaaDoor
open Go
set_option linter.unusedVariables false
set_option linter.unusedSimpArgs false
noncomputable section
variable {ds : List Deferred}
theorem comp_cons (is : List OI) (s : St) (pl : List St) (m : Nat) (Z : List Clu) : comp is (s :: pl) m Z = compS is s pl (comp is pl) m Z := rfl
theorem putB {m : Nat} {x : OI} {k : Nat} : (Nat.lor m (bm x.i)).testBit k = true ↔ k = x.i ∨ m.testBit k = true := by
  rw [tb_lor_iff, tb_bm_iff]; exact Or.comm
theorem upM_put {m : Nat} {Z : List Clu} {md : Nat → Mo} {x : OI} (k : Nat) : UpM (Nat.lor m (bm x.i)) Z md k ↔ k = x.i ∨ UpM m Z md k := by
  unfold UpM
  rw [putB]
  constructor
  · rintro ((h | h) | h)
    · exact .inl h
    · exact .inr (.inl h)
    · exact .inr (.inr h)
  · rintro (h | h | h)
    · exact .inl (.inl h)
    · exact .inl (.inr h)
    · exact .inr h
theorem ZI.put {ops : Array Oper} {D : Nat → Bool} {m : Nat} {Z : List Clu} (h : ZI ops D m Z) {x : OI} (hx : ∀ c ∈ Z, ¬ (cmask c).testBit x.i = true) : ZI ops D (Nat.lor m (bm x.i)) Z :=
  h.mono (fun k hk => putB.2 (.inr hk)) fun c hc k hk hk2 => by
    rcases putB.1 hk2 with e | e
    · rw [e] at hk; exact hx c hc hk
    · exact h.dm c hc k hk e
theorem AR.forget {E : Env} {N : Nat} {A : AA} {a : Act} (h : AR ds E N A a) (d : Option Tmp) : AR ds E N (A.forget d) a := by
  cases d with
  | none => exact h
  | some t => exact h.forgetT t
theorem forget_get {A : AA} {d : Option Tmp} {t : Tmp} (h : d = some t ∨ A.get t = none) : (A.forget d).get t = none := by
  cases d with
  | none => exact h.resolve_left (fun e => by cases e)
  | some t' =>
    obtain ⟨_, _, h3⟩ := A.forgetT_spec t'
    show (A.forgetT t').get t = none
    rw [h3]
    split
    · rfl
    · rename_i hne
      exact h.resolve_left fun e => hne (Option.some.inj e).symm
/-- this outcome says less. -/
def OLe (AF A' : AA) (HF H' : Hp) : Prop := HLe HF H' ∧ ∀ {ds : List Deferred} (E : Env) (N : Nat) (a : Act), AR ds E N A' a → AR ds E N AF a
theorem OLe.refl (A : AA) (H : Hp) : OLe A A H H := ⟨⟨rfl, fun b z hz => ⟨z, hz, rfl, fun _ _ _ _ h => h⟩⟩, fun _ _ _ h => h⟩
theorem HLe.trans {Z H H1 : Hp} (h : HLe Z H) (k : HLe H H1) : HLe Z H1 := ⟨h.1.trans k.1, fun b z hz => by
  obtain ⟨x, h1, h2, h3⟩ := h.2 b z hz
  obtain ⟨y, k1, k2, k3⟩ := k.2 b x h1
  exact ⟨y, k1, h2.trans k2, fun E N b o hb => h3 E N b o (k3 E N b o hb)⟩⟩
theorem OLe.trans {AF A A1 : AA} {HF H H1 : Hp} (h : OLe AF A HF H) (k : OLe A A1 H H1) : OLe AF A1 HF H1 := ⟨h.1.trans k.1, fun E N a ha => h.2 E N a (k.2 E N a ha)⟩
theorem OLe.post {AF A' : AA} {HF H' H0 : Hp} {E E0 : Env} {w w0 : World} {a : Act} {e : Ex} (h : OLe AF A' HF H') (g : Gd E0 E H0 H' w0 w) (ha : AR ds E H'.next A' a) (hr : HRel E H' w) : Post ds e AF HF E0 H0 w0 e.out a w :=
  ⟨rfl, E, h.1.gd g, by rw [h.1.1]; exact h.2 _ _ _ ha, h.1.rel hr⟩
theorem runZ_ok {P : Program} {T : Cx} (hT : Fits P T) {ih : Cmd → Out} (hih : CallsOk P T ih) {ops : Array Oper} (hns : Region.noSelect ops = true) {id : Nat} {AF : AA} {HF H0 : Hp} {e : Ex} {E0 : Env} {w0 : World} {D : Nat → Bool} :
    ∀ (n : Nat) (pl : List St) (l : List Step) (m : Nat) (Z : List Clu) (md : Nat → Mo) (listed : Array Bool) (fuel : Nat) (held : List (Nat × Nat × Value)) (HL : List (Addr × Value)) (S : World → Prop) (A : AA) (H : Hp) (E : Env) (a : Act) (w : World) (A' : AA) (H' : Hp), OLe AF A' HF H' →
      fuel + pl.length = n → comp (infos ops) pl m Z = some l → (∀ i, (i, true) ∈ flatZ l → ∀ j, D j = true → i ≠ j ∧ (ops[j]?).isSome = true ∧ (pureAt T ops i = false → ∃ n, reachB ops i n j = true)) →
      ZI ops D m Z → LM ops (UpM m Z md) listed → cntF listed ≤ fuel → ClosedL ops listed → runZ T ih ops.toList D id l held A H = .code e A' H' → AR ds E H.next A a → HRel E H w → HeldR E H.next held HL → Keeps D S HL listed w → Gd E0 E H0 H w0 w → DI P ops Z md A H E a w w0 →
      wpD P ops (Post ds e AF HF E0 H0 w0) D S fuel listed a w := by
  intro n
  induction n using Nat.strongRecOn with
  | _ n ihn =>
  intro pl l m Z md listed fuel held HL S A H E a w A' H' hle hn hc hd hz hl hcn hcl h ha hr hh hs g di
  have hQ : ∀ c a w d v, Post ds e AF HF E0 H0 w0 (.panic c) (a.put d v) w → Post ds e AF HF E0 H0 w0 (.panic c) a w := fun c a w d v h => Act.put_panic (d := d) (v := v) c a w h
  have hsel : ∀ y, IsOI ops y → ∀ cs b, y.o.op ≠ .select cs b := fun y hy cs b => Region.noSelect_spec hns _ _ cs b hy.1
  have hoi : ∀ c ∈ Z, ∀ y ∈ c.all, IsOI ops y := fun c hc => (hz.cv c hc).all
  -- one that is open comes up
  have early : ∀ c ∈ Z, md c.z.i = .late → okAH (closeC T ops.toList A H c) = true → c.z.i ∈ Region.ready .any ops listed → ∀ f, fuel = f + 1 → wpOp P ops (Post ds e AF HF E0 H0 w0) c.z.i (fun a' w' => (NoD D (listed.setIfInBounds c.z.i true) → S w') ∧ wpD P ops (Post ds e AF HF E0 H0 w0) D S f (listed.setIfInBounds c.z.i true) a' w') a w := fun c hcZ hlate hok hrd f hf => by
    obtain ⟨r, hclose⟩ := okAH_some hok
    subst hf
    exact early_ok hT hns hQ hz hl hcn hcl ha hr hs g di hcZ hlate hclose hrd fun md' listed' g' a' w' q1 q2 q3 q4 q5 q6 q7 q8 q9 =>
      ihn (g' + pl.length) (by omega) pl l m Z md' listed' g' held HL S A H E a' w' A' H' hle rfl hc hd hz q3 q2 q4 h q5 q6 hh q7 q8 q9
  cases pl with
  | nil =>
    obtain ⟨h1, h2⟩ := ite'_some (show ite' (andB (nilB Z) (allI (fun y => bit m y.i) (infos ops))) (some []) none = some l from hc)
    cases h2
    obtain ⟨h3, h4⟩ := andB_iff.1 h1
    have hZ : Z = [] := by
      cases Z with
      | nil => rfl
      | cons c Z => cases h3
    subst hZ
    have hready : Region.ready .any ops listed = [] := by
      refine List.eq_nil_iff_forall_not_mem.2 fun r hr => ?_
      obtain ⟨h5, x, hx, hxi, _⟩ := ready_oi hl hr
      have h6 := allI_iff.1 h4 x hx
      rw [bit_tb, hxi] at h6
      exact h5 (.inl h6)
    change Out.code .normal A H = .code e A' H' at h
    cases h
    exact wpD_done hready (hle.post g ha hr) fuel
  | cons s pl =>
  rw [comp_cons] at hc
  simp only [List.length_cons] at hn
  cases s with
  | take i =>
    change (match getI (infos ops) i with
      | some x => compTake (infos ops) x (comp (infos ops) pl) m Z
      | none => none) = some l at hc
    split at hc
    · rename_i x hx
      have hxo := infos_mem (getI_some hx).1
      obtain ⟨b0, l2, hc2, e2⟩ := gdS_some hc
      subst e2
      obtain ⟨b1, b⟩ := andB_iff.1 b0
      obtain ⟨b2, b⟩ := andB_iff.1 b
      obtain ⟨b3, b4⟩ := andB_iff.1 b
      obtain ⟨n1, n2, n3⟩ := not_up (md := md) b1
      have hcnt := cnt_pos hl hxo n1
      obtain ⟨f, rfl⟩ : ∃ f, fuel = f + 1 := ⟨fuel - 1, by omega⟩
      rw [runZ_cons] at h
      change tkStep T id x.o (runZ T ih ops.toList D id l2) held A H (wantedA ops.toList A x.o) = .code e A' H' at h
      refine tk_ok hT hns hQ hxo h hl hcl (m0 := m) (fun k hk => .inl hk) b2 b3 n1 (hd x.i (List.mem_cons_self ..)) ha hr hh hs fun held2 HL2 S2 A1 v v' k1 k2 k3 k4 k5 => ?_
      refine ihn (f + pl.length) (by omega) pl l2 (Nat.lor m (bm x.i)) Z md _ f held2 HL2 S2 A1 H E _ w A' H' hle rfl hc2 (fun i hi => hd i (List.mem_cons_of_mem _ hi)) (hz.put n3) ((hl.set hxo fun k => Iff.rfl).congr fun k => (upM_put k).symm) (by omega)
        (closed_step hcl (oi_ready hl hxo n1 fun k hk => .inl (subM_ok b2 hk))) k1 k3 hr k4 k5 g (di.step hsel hoi (quietZ_ok hxo hoi b4) k2 (Gd.refl _ _ _))
    · cases hc
  | go i =>
    change (match getI (infos ops) i with
      | some x => compGo (infos ops) x (comp (infos ops) pl) m Z
      | none => none) = some l at hc
    split at hc
    · rename_i x hx
      have hxo := infos_mem (getI_some hx).1
      obtain ⟨b0, l2, hc2, e2⟩ := gdS_some hc
      subst e2
      obtain ⟨b1, b⟩ := andB_iff.1 b0
      obtain ⟨b2, b⟩ := andB_iff.1 b
      obtain ⟨b3, b4⟩ := andB_iff.1 b
      obtain ⟨n1, n2, n3⟩ := not_up (md := md) b1
      have hcnt := cnt_pos hl hxo n1
      obtain ⟨f, rfl⟩ : ∃ f, fuel = f + 1 := ⟨fuel - 1, by omega⟩
      have hrd := oi_ready hl hxo n1 fun k hk => .inl (subM_ok b2 hk)
      rw [runZ_cons] at h
      change ite' (trials T ops.toList A H Z) (goStep T ih id x.o (D x.i) (runZ T ih ops.toList D id l2) held A H (wantedA ops.toList A x.o)) (.bad 30) = .code e A' H' at h
      obtain ⟨ht, h⟩ := ite'_out h
      refine ⟨fun h0 => (by rw [h0] at hrd; cases hrd), fun r hrr => ?_⟩
      have hup : ∀ k, UpM m Z md k → (Nat.lor m (zmask Z)).testBit k = true := fun k hk => by
        rcases hk with h1 | ⟨c, h1, _, h2⟩
        · exact tb_lor_iff.2 (.inl h1)
        · exact tb_lor_iff.2 (.inr (zmask_iff.2 ⟨c, h1, h2⟩))
      rcases ready_cases hz hl b3 hup (fun _ h => h) hrr with hri | ⟨c, hcZ, hlate, hri⟩
      · subst hri
        have hq := quietZ_ok hxo hoi b4
        have hs1 : Keeps D S HL (listed.setIfInBounds x.i true) w := fun hn => hs (noD_set hn)
        have hz1 := hz.put n3
        have hl1 : LM ops (UpM (Nat.lor m (bm x.i)) Z md) (listed.setIfInBounds x.i true) := (hl.set hxo fun k => Iff.rfl).congr fun k => (upM_put k).symm
        have hcl1 := closed_step hcl hrd
        have hd1 : ∀ i, (i, true) ∈ flatZ l2 → ∀ j, D j = true → i ≠ j ∧ (ops[j]?).isSome = true ∧ (pureAt T ops i = false → ∃ n, reachB ops i n j = true) := hd
        rw [goStep_def] at h
        split at h
        · rename_i hw
          have hwant := wantedA_ok ha hw
          unfold wpOp
          simp only [hxo.1, hwant, if_true]
          refine .inl (doOp_ok2 hT hih h ha hr (fun E1 A1 H1 v v' w1 hrest hp g1 ha1 hr1 => ?_))
          simp only at hrest
          have di1 := di.step (v' := v') hsel hoi hq hp g1
          cases hk : heldOk H1 held with
          | false =>
            rw [hk, ite'_false] at hrest
            obtain ⟨hDt, hrest⟩ := ite'_out hrest
            have hup2 : ¬ NoD D (listed.setIfInBounds x.i true) := fun hn => by
              have h1 := hn x.i hDt
              have h2 := (hl1.at_ x.i).2 ((upM_put x.i).2 (.inl rfl))
              rw [h2] at h1; cases h1
            exact ⟨fun hn => absurd hn hup2, ihn (f + pl.length) (by omega) pl l2 _ Z md _ f [] [] S A1 H1 E1 _ w1 A' H' hle rfl hc2 hd1 hz1 hl1 (by omega) hcl1 hrest ha1 hr1 .nil (fun hn => absurd hn hup2) (g.trans g1) di1⟩
          | true =>
            rw [hk, ite'_true] at hrest
            have hh1 := hh.mono g1.ag g1.le
            have hs2 := heldOk_ok hr1 hh1 hk
            exact ⟨fun hn => (hs (noD_set hn)).1 _ hs2, ihn (f + pl.length) (by omega) pl l2 _ Z md _ f held HL S A1 H1 E1 _ w1 A' H' hle rfl hc2 hd1 hz1 hl1 (by omega) hcl1 hrest ha1 hr1 hh1 (fun hn => ⟨(hs (noD_set hn)).1, hs2⟩) (g.trans g1) di1⟩
        · rename_i hw
          have hwant := wantedA_ok ha hw
          obtain ⟨A1, hput, hrest⟩ := put1_ok h
          unfold wpOp
          simp only [hxo.1, hwant]
          exact ⟨fun hn => (hs1 hn).1 _ (hs1 hn).2, ihn (f + pl.length) (by omega) pl l2 _ Z md _ f held HL S A1 H E _ w A' H' hle rfl hc2 hd1 hz1 hl1 (by omega) hcl1 hrest (ha.put hput VR.undef) hr hh hs1 g (di.step hsel hoi hq hput (Gd.refl _ _ _))⟩
        · cases h
      · subst hri
        exact early c hcZ hlate (allC_iff.1 ht c hcZ) hrr f rfl
    · cases hc
  | opn i =>
    change (match getI (infos ops) i with
      | some x => compOpn x (comp (infos ops) pl) m Z
      | none => none) = some l at hc
    split at hc
    · rename_i x hx
      have hxo := infos_mem (getI_some hx).1
      obtain ⟨b0, l2, hc2, e2⟩ := gdS_some hc
      subst e2
      obtain ⟨b1, b⟩ := andB_iff.1 b0
      obtain ⟨b2, b⟩ := andB_iff.1 b
      obtain ⟨b3, b⟩ := andB_iff.1 b
      obtain ⟨b4, b⟩ := andB_iff.1 b
      obtain ⟨b5, b6⟩ := andB_iff.1 b
      obtain ⟨n1, n2, n3⟩ := not_up (md := md) b1
      rw [runZ_cons] at h
      change runZ T ih ops.toList D id l2 held (A.forget x.o.dst) H = .code e A' H' at h
      have hne : ∀ c ∈ Z, c.z.i ≠ x.i := fun c hc e => n3 c hc (by rw [← e]; exact cmask_z c)
      have hmx : ∀ k, (cmask ⟨x, []⟩).testBit k = true → k = x.i := fun k hk => by
        obtain ⟨y, h1, h2⟩ := cmask_iff.1 hk
        rcases List.mem_cons.1 h1 with h3 | h3
        · subst h3; exact h2.symm
        · cases h3
      have hq1 := quietZ_ok hxo hoi b5
      have hq2 : ∀ c ∈ Z, ∀ y ∈ c.all, Quiet ops y x := fun c hc y hy => quiet_of2 (hoi c hc y hy) hxo (allI_iff.1 (allC_iff.1 b6 c hc) y hy) (by
        have h1 := allI_iff.1 (allC_iff.1 b5 c hc) y hy
        exact h1)
      refine ihn (fuel + pl.length) (by omega) pl l2 m (⟨x, []⟩ :: Z) (fun i => if i = x.i then .late else md i) listed fuel held HL S _ H E a w A' H' hle rfl hc2 hd ?_ (hl.congr fun k => ?_) hcn hcl h (ha.forget _) hr hh hs g ?_
      · refine ⟨List.nodup_cons.2 ⟨fun h => ?_, hz.nd⟩, fun c hc => ?_, fun c hc k hk hk2 => ?_, fun c hc c' hc' hcc k hk hk2 => ?_, fun c hc c' hc' hcc y hy y' hy' => ?_⟩
        · obtain ⟨c, h1, h2⟩ := List.mem_map.1 h
          exact hne c h1 h2
        · rcases List.mem_cons.1 hc with e | e
          · subst e; exact ⟨hxo, b3, b4, b2, trivial⟩
          · exact hz.cv c e
        · rcases List.mem_cons.1 hc with e | e
          · subst e; rw [hmx k hk] at hk2; exact n2 hk2
          · exact hz.dm c e k hk hk2
        · rcases List.mem_cons.1 hc with e | e <;> rcases List.mem_cons.1 hc' with e' | e'
          · subst e e'; exact hcc rfl
          · subst e; rw [hmx k hk] at hk2; exact n3 c' e' hk2
          · subst e'; rw [hmx k hk2] at hk; exact n3 c e hk
          · exact hz.dz c e c' e' hcc k hk hk2
        · rcases List.mem_cons.1 hc with e | e <;> rcases List.mem_cons.1 hc' with e' | e'
          · subst e e'; exact absurd rfl hcc
          · subst e
            rcases List.mem_cons.1 hy with e3 | e3
            · subst e3; exact hq1 c' e' y' hy'
            · cases e3
          · subst e'
            rcases List.mem_cons.1 hy' with e3 | e3
            · subst e3; exact hq2 c e y hy
            · cases e3
          · exact hz.qt c e c' e' hcc y hy y' hy'
      · constructor
        · rintro (h1 | ⟨c, h1, h2, h3⟩)
          · exact .inl h1
          · exact .inr ⟨c, List.mem_cons_of_mem _ h1, by simpa [hne c h1] using h2, h3⟩
        · rintro (h1 | ⟨c, h1, h2, h3⟩)
          · exact .inl h1
          · rcases List.mem_cons.1 h1 with e | e
            · subst e; simp [Mo.up] at h2
            · exact .inr ⟨c, e, by simpa [hne c e] using h2, h3⟩
      · have hold : ∀ c ∈ Z, (if c.z.i = x.i then Mo.late else md c.z.i) = md c.z.i := fun c hc => by rw [if_neg (hne c hc)]
        refine ⟨fun c hc => ?_, fun c hc s hs' => ?_, fun c hc c' hc' s h1 h2 => ?_, fun c hc y hy t ht => ?_⟩
        · rcases List.mem_cons.1 hc with e | e
          · subst e; simp only [if_true]; exact ⟨trivial, fun h => by cases h⟩
          · simp only [hold c e]; exact di.cf c e
        · rcases List.mem_cons.1 hc with e | e
          · subst e; simp at hs'
          · simp only [hold c e] at hs'; exact di.un c e s hs'
        · rcases List.mem_cons.1 hc with e | e
          · subst e; simp at h1
          · rcases List.mem_cons.1 hc' with e' | e'
            · subst e'; simp at h2
            · simp only [hold c e] at h1
              simp only [hold c' e'] at h2
              exact di.ds c e c' e' s h1 h2
        · rcases List.mem_cons.1 hc with e | e
          · subst e
            rcases List.mem_cons.1 hy with e3 | e3
            · subst e3; exact forget_get (.inl ht)
            · cases e3
          · exact forget_get (.inr (di.fg c e y hy t ht))
    · cases hc
  | ext z k =>
    change (match getI (infos ops) k with
      | some x => compExt (infos ops) x (comp (infos ops) pl) m Z (findC Z z)
      | none => none) = some l at hc
    split at hc
    · rename_i x hx
      have hxo := infos_mem (getI_some hx).1
      unfold compExt at hc
      split at hc
      · rename_i r hf
        obtain ⟨c, Z2⟩ := r
        obtain ⟨hperm, _⟩ := findC_spec hf
        simp only at hc hperm
        obtain ⟨b0, l2, hc2, e2⟩ := gdS_some hc
        subst e2
        obtain ⟨b1, b⟩ := andB_iff.1 b0
        obtain ⟨b2, b⟩ := andB_iff.1 b
        obtain ⟨b3, b⟩ := andB_iff.1 b
        obtain ⟨b4, b⟩ := andB_iff.1 b
        obtain ⟨b5, b⟩ := andB_iff.1 b
        obtain ⟨b6, b⟩ := andB_iff.1 b
        obtain ⟨b7, b⟩ := andB_iff.1 b
        obtain ⟨b8, b⟩ := andB_iff.1 b
        obtain ⟨b9, b10⟩ := andB_iff.1 b
        obtain ⟨n1, n2, n3⟩ := not_up (md := md) b1
        have hz2 := hz.of_perm hperm
        have di2 := di.of_perm hperm
        have hmemZ : ∀ c', c' ∈ c :: Z2 ↔ c' ∈ Z := fun c' => hperm.mem_iff.symm
        have hcZ : c ∈ Z := (hmemZ c).1 (List.mem_cons_self ..)
        have hcv := hz.cv c hcZ
        have hoi2 : ∀ c' ∈ Z2, ∀ y ∈ c'.all, IsOI ops y := fun c' hc' => hoi c' ((hmemZ c').1 (List.mem_cons_of_mem _ hc'))
        have hqo : ∀ y ∈ c.all, Quiet ops x y := fun y hy => quiet_of hxo (hcv.all y hy) (allI_iff.1 b8 y hy)
        have hq1 := quietZ_ok hxo hoi2 b9
        have hq2 : ∀ c' ∈ Z2, ∀ y ∈ c'.all, Quiet ops y x := fun c' hc' y hy => quiet_of2 (hoi2 c' hc' y hy) hxo (allI_iff.1 (allC_iff.1 b10 c' hc') y hy) (allI_iff.1 (allC_iff.1 b9 c' hc') y hy)
        have hDx : D x.i = false := by
          cases hD : D x.i with
          | false => rfl
          | true => exact absurd rfl (hd x.i (List.mem_cons_self ..) x.i hD).1
        have hpre : maskL ([c.z] ++ c.ks) = cmask c := rfl
        have hdep : ∃ k, x.pm.testBit k = true ∧ (cmask c).testBit k = true := by
          refine disM_not ?_
          cases h1 : disM x.pm (cmask c) with
          | false => rfl
          | true => rw [h1] at b3; cases b3
        have hkok : KOK ops D m ([c.z] ++ c.ks) x := ⟨hxo, b5, b6, b7, hqo, hDx, hdep, n3 c hcZ, Nat.lor m (cmask c), fun k hk => tb_lor_iff.1 hk, b2, b4⟩
        have hall : ∀ y, y ∈ (⟨c.z, c.ks ++ [x]⟩ : Clu).all ↔ y ∈ c.all ∨ y = x := fun y => by
          show y ∈ c.z :: (c.ks ++ [x]) ↔ y ∈ c.z :: c.ks ∨ y = x
          simp only [List.mem_cons, List.mem_append, List.not_mem_nil, or_false]
          constructor
          · rintro (h | h | h)
            · exact .inl (.inl h)
            · exact .inl (.inr h)
            · exact .inr h
          · rintro ((h | h) | h)
            · exact .inl h
            · exact .inr (.inl h)
            · exact .inr (.inr h)
        have hcm : ∀ k, (cmask ⟨c.z, c.ks ++ [x]⟩).testBit k = true ↔ (cmask c).testBit k = true ∨ k = x.i := fun k => by
          rw [cmask_iff, cmask_iff]
          constructor
          · rintro ⟨y, h1, h2⟩
            rcases (hall y).1 h1 with h3 | h3
            · exact .inl ⟨y, h3, h2⟩
            · subst h3; exact .inr h2.symm
          · rintro (⟨y, h1, h2⟩ | h1)
            · exact ⟨y, (hall y).2 (.inl h1), h2⟩
            · exact ⟨x, (hall x).2 (.inr rfl), h1.symm⟩
        have hn3 : ∀ c' ∈ Z2, ¬ (cmask c').testBit x.i = true := fun c' hc' => n3 c' ((hmemZ c').1 (List.mem_cons_of_mem _ hc'))
        have hz3 : ZI ops D m (⟨c.z, c.ks ++ [x]⟩ :: Z2) := by
          refine ⟨hz2.nd, fun c' hc' => ?_, fun c' hc' k hk hk2 => ?_, fun c1 h1 c2 h2 hcc k hk hk2 => ?_, fun c1 h1 c2 h2 hcc y hy y' hy' => ?_⟩
          · rcases List.mem_cons.1 hc' with e | e
            · subst e; exact ⟨hcv.oi, hcv.ds, hcv.own, hcv.pm, hcv.ks.snoc hkok⟩
            · exact hz2.cv c' (List.mem_cons_of_mem _ e)
          · rcases List.mem_cons.1 hc' with e | e
            · subst e
              rcases (hcm k).1 hk with h3 | h3
              · exact hz2.dm c (List.mem_cons_self ..) k h3 hk2
              · subst h3; exact n2 hk2
            · exact hz2.dm c' (List.mem_cons_of_mem _ e) k hk hk2
          · rcases List.mem_cons.1 h1 with e | e <;> rcases List.mem_cons.1 h2 with e' | e'
            · subst e e'; exact hcc rfl
            · subst e
              rcases (hcm k).1 hk with h3 | h3
              · exact hz2.dz c (List.mem_cons_self ..) c2 (List.mem_cons_of_mem _ e') hcc k h3 hk2
              · subst h3; exact hn3 c2 e' hk2
            · subst e'
              rcases (hcm k).1 hk2 with h3 | h3
              · exact hz2.dz c1 (List.mem_cons_of_mem _ e) c (List.mem_cons_self ..) hcc k hk h3
              · subst h3; exact hn3 c1 e hk
            · exact hz2.dz c1 (List.mem_cons_of_mem _ e) c2 (List.mem_cons_of_mem _ e') hcc k hk hk2
          · rcases List.mem_cons.1 h1 with e | e <;> rcases List.mem_cons.1 h2 with e' | e'
            · subst e e'; exact absurd rfl hcc
            · subst e
              rcases (hall y).1 hy with h3 | h3
              · exact hz2.qt c (List.mem_cons_self ..) c2 (List.mem_cons_of_mem _ e') hcc y h3 y' hy'
              · subst h3; exact hq1 c2 e' y' hy'
            · subst e'
              rcases (hall y').1 hy' with h3 | h3
              · exact hz2.qt c1 (List.mem_cons_of_mem _ e) c (List.mem_cons_self ..) hcc y hy y' h3
              · subst h3; exact hq2 c1 e y hy
            · exact hz2.qt c1 (List.mem_cons_of_mem _ e) c2 (List.mem_cons_of_mem _ e') hcc y hy y' hy'
        rw [runZ_cons] at h
        change ite' (okAH (closeC T ops.toList (A.forget x.o.dst) H ⟨c.z, c.ks ++ [x]⟩)) (runZ T ih ops.toList D id l2 held (A.forget x.o.dst) H) (.bad 31) = .code e A' H' at h
        obtain ⟨ht, h⟩ := ite'_out h
        have hd1 : ∀ i, (i, true) ∈ flatZ l2 → ∀ j, D j = true → i ≠ j ∧ (ops[j]?).isSome = true ∧ (pureAt T ops i = false → ∃ n, reachB ops i n j = true) := fun i hi => hd i (List.mem_cons_of_mem _ hi)
        have hfg3 : ∀ c' ∈ (⟨c.z, c.ks ++ [x]⟩ : Clu) :: Z2, ∀ y ∈ c'.all, ∀ t, y.o.dst = some t → (A.forget x.o.dst).get t = none := fun c' hc' y hy t ht' => by
          rcases List.mem_cons.1 hc' with e | e
          · subst e
            rcases (hall y).1 hy with h3 | h3
            · exact forget_get (.inr (di2.fg c (List.mem_cons_self ..) y h3 t ht'))
            · subst h3; exact forget_get (.inl ht')
          · exact forget_get (.inr (di2.fg c' (List.mem_cons_of_mem _ e) y hy t ht'))
        have hun3 : ∀ c' ∈ (⟨c.z, c.ks ++ [x]⟩ : Clu) :: Z2, ∀ s, md c'.z.i = .at s → w0.heap.size ≤ s ∧ ∀ b y, H.b.get b = some y → E.s b ≠ s := fun c' hc' s hs' => by
          rcases List.mem_cons.1 hc' with e | e
          · subst e; exact di2.un c (List.mem_cons_self ..) s hs'
          · exact di2.un c' (List.mem_cons_of_mem _ e) s hs'
        have hds3 : ∀ c1 ∈ (⟨c.z, c.ks ++ [x]⟩ : Clu) :: Z2, ∀ c2 ∈ (⟨c.z, c.ks ++ [x]⟩ : Clu) :: Z2, ∀ s, md c1.z.i = .at s → md c2.z.i = .at s → c1.z.i = c2.z.i := fun c1 h1 c2 h2 s e1 e2 => by
          rcases List.mem_cons.1 h1 with e | e <;> rcases List.mem_cons.1 h2 with e' | e'
          · subst e e'; rfl
          · subst e; exact di2.ds c (List.mem_cons_self ..) c2 (List.mem_cons_of_mem _ e') s e1 e2
          · subst e'; exact di2.ds c1 (List.mem_cons_of_mem _ e) c (List.mem_cons_self ..) s e1 e2
          · exact di2.ds c1 (List.mem_cons_of_mem _ e) c2 (List.mem_cons_of_mem _ e') s e1 e2
        cases hup : (md c.z.i).up with
        | false =>
          refine ihn (fuel + pl.length) (by omega) pl l2 m _ md listed fuel held HL S _ H E a w A' H' hle rfl hc2 hd1 hz3 (hl.congr fun k => ?_) hcn hcl h (ha.forget _) hr hh hs g ⟨fun c' hc' => ?_, hun3, hds3, hfg3⟩
          · constructor
            · rintro (h1 | ⟨c', h1, h2, h3⟩)
              · exact .inl h1
              · rcases List.mem_cons.1 ((hmemZ c').2 h1) with e | e
                · subst e; rw [hup] at h2; cases h2
                · exact .inr ⟨c', List.mem_cons_of_mem _ e, h2, h3⟩
            · rintro (h1 | ⟨c', h1, h2, h3⟩)
              · exact .inl h1
              · rcases List.mem_cons.1 h1 with e | e
                · subst e
                  have h4 : (md c.z.i).up = true := h2
                  rw [hup] at h4; cases h4
                · exact .inr ⟨c', (hmemZ c').1 (List.mem_cons_of_mem _ e), h2, h3⟩
          · rcases List.mem_cons.1 hc' with e | e
            · subst e
              have h1 := (di2.cf c (List.mem_cons_self ..)).1
              exact ⟨h1, fun h2 => by
                have h4 : (md c.z.i).up = true := h2
                rw [hup] at h4; cases h4⟩
            · exact di2.cf c' (List.mem_cons_of_mem _ e)
        | true =>
          obtain ⟨r2, hr2⟩ := okAH_some ht
          obtain ⟨q, hq, hrun⟩ := closeC_snoc hr2
          obtain ⟨E2, _, _, ha2, _, _⟩ := close_early (P := P) hT hq (c := c) hcv (ha.forget _) hr (di.cf c hcZ) hup (fun s hs' => (di.un c hcZ s hs').2)
          have hnu : ¬ UpM m Z md x.i := n1
          have hk0 : CVk ops D m c.all [x] := ⟨hkok, trivial⟩
          refine take_ks hT hns hQ [x] c.all (UpM m Z md) listed a q.1 fuel hcn hk0 hrun ha2 hl hcl (fun k hk => ?_) (fun y hy => ?_) (fun hn => (hs hn).1 _ (hs hn).2) ?_
          · rcases hk with hk | hk
            · exact .inl hk
            · exact .inr ⟨c, hcZ, hup, hk⟩
          · rw [List.mem_singleton] at hy; subst hy; exact hnu
          · intro listed' a' g' q7 q8 q1 q2 q4 q5 q6
            refine ihn (g' + pl.length) (by omega) pl l2 m _ md listed' g' held HL S _ H E a' w A' H' hle rfl hc2 hd1 hz3 (q1.congr fun k => ?_) q8 q2 h (q5.ar (ha.forget _) fun y hy t ht' => ?_) hr hh (fun hn => hs (q4 hn)) g ⟨fun c' hc' => ?_, hun3, hds3, hfg3⟩
            · have hxm : (maskL [x]).testBit k = true ↔ k = x.i := by
                rw [maskL_iff]; simp [eq_comm]
              rw [hxm]
              constructor
              · rintro ((h1 | ⟨c', h1, h2, h3⟩) | h1)
                · exact .inl h1
                · rcases List.mem_cons.1 ((hmemZ c').2 h1) with e | e
                  · subst e; exact .inr ⟨_, List.mem_cons_self .., hup, (hcm k).2 (.inl h3)⟩
                  · exact .inr ⟨c', List.mem_cons_of_mem _ e, h2, h3⟩
                · exact .inr ⟨_, List.mem_cons_self .., hup, (hcm k).2 (.inr h1)⟩
              · rintro (h1 | ⟨c', h1, h2, h3⟩)
                · exact .inl (.inl h1)
                · rcases List.mem_cons.1 h1 with e | e
                  · subst e
                    rcases (hcm k).1 h3 with h4 | h4
                    · exact .inl (.inr ⟨c, hcZ, hup, h4⟩)
                    · exact .inr h4
                  · exact .inl (.inr ⟨c', (hmemZ c').1 (List.mem_cons_of_mem _ e), h2, h3⟩)
            · rw [List.mem_singleton] at hy; subst hy; exact forget_get (.inl ht')
            · rcases List.mem_cons.1 hc' with e | e
              · subst e
                have h1 := q5.cf (di.cf c hcZ) (fun y hy => hsel y (hcv.all y hy)) fun y hy z' hz' => by
                  rw [List.mem_singleton] at hy; subst hy; exact hqo z' hz'
                refine ⟨h1.1, fun h2 y hy => ?_⟩
                rcases List.mem_append.1 hy with h3 | h3
                · exact h1.2 h2 y h3
                · exact q6 y h3
              · exact q5.cf (di2.cf c' (List.mem_cons_of_mem _ e)) (fun y hy => hsel y (hoi2 c' e y hy)) fun y hy z' hz' => by
                  rw [List.mem_singleton] at hy; subst hy; exact hq1 c' e z' hz'
      · cases hc
    · cases hc
  | cls z =>
    change compCls (infos ops) (comp (infos ops) pl) m (findC Z z) = some l at hc
    unfold compCls at hc
    split at hc
    · rename_i r hf
      obtain ⟨c, Z2⟩ := r
      obtain ⟨hperm, _⟩ := findC_spec hf
      simp only at hc hperm
      obtain ⟨b1, l2, hc2, e2⟩ := gdS_some hc
      subst e2
      have hz2 := hz.of_perm hperm
      have di2 := di.of_perm hperm
      have hmemZ : ∀ c', c' ∈ c :: Z2 ↔ c' ∈ Z := fun c' => hperm.mem_iff.symm
      have hcZ : c ∈ Z := (hmemZ c).1 (List.mem_cons_self ..)
      have hcv := hz.cv c hcZ
      have hne := hz2.ne
      rw [runZ_cons] at h
      change ite' (trials T ops.toList A H Z2) (clsStep (closeC T ops.toList A H c) (runZ T ih ops.toList D id l2) held) (.bad 33) = .code e A' H' at h
      obtain ⟨ht, h⟩ := ite'_out h
      unfold clsStep at h
      split at h
      · rename_i r hclose
        have hok : okAH (closeC T ops.toList A H c) = true := by rw [hclose]; rfl
        cases hup : (md c.z.i).up with
        | true =>
          obtain ⟨E2, ag2, le2, ha2, hr2, hdom⟩ := close_early (P := P) hT hclose hcv ha hr (di.cf c hcZ) hup (fun s hs' => (di.un c hcZ s hs').2)
          have hmm : ∀ k, (Nat.lor m (cmask c)).testBit k = true ↔ m.testBit k = true ∨ (cmask c).testBit k = true := fun k => tb_lor_iff
          refine ihn (fuel + pl.length) (by omega) pl l2 (Nat.lor m (cmask c)) Z2 md listed fuel held HL S r.1 r.2 E2 a w A' H' hle rfl hc2 hd (hz2.tail.mono (fun k hk => (hmm k).2 (.inl hk)) fun c' hc' k hk hk2 => ?_) (hl.congr fun k => ?_) hcn hcl h ha2 hr2 (hh.mono ag2 le2) hs ?_ ⟨fun c' hc' => di2.cf c' (List.mem_cons_of_mem _ hc'), fun c' hc' s hs' => ?_, di2.tail.ds, fun c' hc' y hy t ht' => ?_⟩
          · rcases (hmm k).1 hk2 with h1 | h1
            · exact hz2.dm c' (List.mem_cons_of_mem _ hc') k hk h1
            · exact hz2.dz c' (List.mem_cons_of_mem _ hc') c (List.mem_cons_self ..) (hne c' hc') k hk h1
          · constructor
            · rintro (h1 | ⟨c', h1, h2, h3⟩)
              · exact .inl ((hmm k).2 (.inl h1))
              · rcases List.mem_cons.1 ((hmemZ c').2 h1) with e | e
                · subst e; exact .inl ((hmm k).2 (.inr h3))
                · exact .inr ⟨c', e, h2, h3⟩
            · rintro (h1 | ⟨c', h1, h2, h3⟩)
              · rcases (hmm k).1 h1 with h4 | h4
                · exact .inl h4
                · exact .inr ⟨c, hcZ, hup, h4⟩
              · exact .inr ⟨c', (hmemZ c').1 (List.mem_cons_of_mem _ h1), h2, h3⟩
          · refine ⟨Nat.le_trans g.le le2, fun b hb => ⟨(ag2 b (Nat.lt_of_lt_of_le hb g.le)).1.trans (g.ag b hb).1, (ag2 b (Nat.lt_of_lt_of_le hb g.le)).2.trans (g.ag b hb).2⟩, fun b y hb => ?_, g.os, g.tape, g.output, g.size, g.frame⟩
            rcases hdom b y hb with ⟨h1, h2⟩ | h1
            · rw [h2]; exact g.dom b y h1
            · exact .inr (di.un c hcZ _ h1).1
          · refine ⟨(di2.un c' (List.mem_cons_of_mem _ hc') s hs').1, fun b y hb he => ?_⟩
            rcases hdom b y hb with ⟨h1, h2⟩ | h1
            · exact (di2.un c' (List.mem_cons_of_mem _ hc') s hs').2 b y h1 (h2.symm.trans he)
            · rw [he] at h1
              exact hne c' hc' (di2.ds c' (List.mem_cons_of_mem _ hc') c (List.mem_cons_self ..) s hs' h1)
          · rw [closeC_get hclose fun x hx e => ?_]
            · exact di2.fg c' (List.mem_cons_of_mem _ hc') y hy t ht'
            · exact (hz2.qt c (List.mem_cons_self ..) c' (List.mem_cons_of_mem _ hc') (Ne.symm (hne c' hc')) x hx y hy t e).2 ht'
        | false =>
          have hlate : md c.z.i = .late := by
            cases h1 : md c.z.i with
            | late => rfl
            | void => rw [h1] at hup; cases hup
            | «at» s => rw [h1] at hup; cases hup
          have hnu : ¬ UpM m Z md c.z.i := by
            rintro (h1 | ⟨c', h1, h2, h3⟩)
            · exact hz.dm c hcZ _ (cmask_z c) h1
            · by_cases e : c.z.i = c'.z.i
              · rw [← e, hup] at h2; cases h2
              · exact hz.dz c hcZ c' h1 e _ (cmask_z c) h3
          have hcnt := cnt_pos hl hcv.oi hnu
          obtain ⟨f, rfl⟩ : ∃ f, fuel = f + 1 := ⟨fuel - 1, by omega⟩
          have hrd := oi_ready hl hcv.oi hnu fun k hk => .inl (subM_ok hcv.pm hk)
          refine ⟨fun h0 => (by rw [h0] at hrd; cases hrd), fun r hrr => ?_⟩
          have hup2 : ∀ k, UpM m Z md k → (Nat.lor m (zmask Z2)).testBit k = true := fun k hk => by
            rcases hk with h1 | ⟨c', h1, h2, h3⟩
            · exact tb_lor_iff.2 (.inl h1)
            · rcases List.mem_cons.1 ((hmemZ c').2 h1) with e | e
              · subst e; rw [hup] at h2; cases h2
              · exact tb_lor_iff.2 (.inr (zmask_iff.2 ⟨c', e, h3⟩))
          have hsub : ∀ k, (zmask Z2).testBit k = true → (zmask Z).testBit k = true := fun k hk => by
            obtain ⟨c', h1, h2⟩ := zmask_iff.1 hk
            exact zmask_iff.2 ⟨c', (hmemZ c').1 (List.mem_cons_of_mem _ h1), h2⟩
          rcases ready_cases hz hl b1 hup2 hsub hrr with hri | ⟨c', hcZ', hlate', hri⟩
          · subst hri; exact early c hcZ hlate hok hrr f rfl
          · subst hri
            rcases List.mem_cons.1 ((hmemZ c').2 hcZ') with e | e
            · subst e; exact early c' hcZ hlate hok hrr f rfl
            · exact early c' hcZ' hlate' (allC_iff.1 ht c' e) hrr f rfl
      · cases h
    · cases hc
  | fork i j =>
    change (match getI (infos ops) i with
      | some x => (match getI (infos ops) j with
        | some y => compFork (infos ops) x y pl m Z
        | none => none)
      | none => none) = some l at hc
    split at hc
    · rename_i x hx
      split at hc
      · rename_i y hy
        have hxo := infos_mem (getI_some hx).1
        have hyo := infos_mem (getI_some hy).1
        obtain ⟨b0, hc⟩ := ite'_some hc
        cases hc
        obtain ⟨c1, b⟩ := andB_iff.1 b0
        obtain ⟨c2, b⟩ := andB_iff.1 b
        obtain ⟨b1, b⟩ := andB_iff.1 b
        obtain ⟨b2, b⟩ := andB_iff.1 b
        obtain ⟨b3, b⟩ := andB_iff.1 b
        obtain ⟨b4, b⟩ := andB_iff.1 b
        obtain ⟨b5, b⟩ := andB_iff.1 b
        obtain ⟨b6, b7⟩ := andB_iff.1 b
        have hpl : pl = [] := by
          cases pl with
          | nil => rfl
          | cons s pl => cases c1
        subst hpl
        have hZ : Z = [] := by
          cases Z with
          | nil => rfl
          | cons c Z => cases c2
        subst hZ
        have hne : x.i ≠ y.i := fun e => by rw [e, Nat.beq_refl] at b3; cases b3
        have hl0 : LM ops (fun k => m.testBit k = true) listed := hl.congr fun k => ⟨fun h => h.resolve_right (fun ⟨c, hc, _⟩ => by cases hc), .inl⟩
        have mx : ¬ m.testBit x.i = true := fun h => by rw [bit_tb, h] at b1; cases b1
        have my : ¬ m.testBit y.i = true := fun h => by rw [bit_tb, h] at b2; cases b2
        rw [runZ_cons] at h
        change meetOut (goStep T ih id x.o (D x.i) (fun held A H => goStep T ih id y.o (D y.i) (runZ T ih ops.toList D id []) held A H (wantedA ops.toList A y.o)) held A H (wantedA ops.toList A x.o)) (goStep T ih id y.o (D y.i) (fun held A H => goStep T ih id x.o (D x.i) (runZ T ih ops.toList D id []) held A H (wantedA ops.toList A x.o)) held A H (wantedA ops.toList A y.o)) = .code e A' H' at h
        obtain ⟨A1, H1, A2, H2, hr1, hr2, hle1, hle2, har⟩ := meetOut_ok h
        have hall : ∀ z ∈ infos ops, z.i = x.i ∨ z.i = y.i ∨ m.testBit z.i = true := fun z hz => by
          have h1 := allI_iff.1 b7 z hz
          rw [bit_tb, tb_lor_iff, tb_lor_iff, tb_bm_iff, tb_bm_iff] at h1
          rcases h1 with (h1 | h1) | h1
          · exact .inr (.inr h1)
          · exact .inl h1
          · exact .inr (.inl h1)
        have one : ∀ (x y : OI), IsOI ops x → IsOI ops y → x.i ≠ y.i → ¬ m.testBit x.i = true → ¬ m.testBit y.i = true → subM x.pm m = true → subM y.pm m = true → (∀ z ∈ infos ops, z.i = x.i ∨ z.i = y.i ∨ m.testBit z.i = true) → ∀ A1 H1, goStep T ih id x.o (D x.i) (fun held A H => goStep T ih id y.o (D y.i) (runZ T ih ops.toList D id []) held A H (wantedA ops.toList A y.o)) held A H (wantedA ops.toList A x.o) = .code e A1 H1 → OLe AF A1 HF H1 →
            ∀ f, fuel = f + 1 → wpOp P ops (Post ds e AF HF E0 H0 w0) x.i (fun a' w' => (NoD D (listed.setIfInBounds x.i true) → S w') ∧ wpD P ops (Post ds e AF HF E0 H0 w0) D S f (listed.setIfInBounds x.i true) a' w') a w := by
          intro x y hxo hyo hne mx my px py hall A1 H1 h1 hle1 f hf
          subst hf
          have hrd := oi_ready hl0 hxo mx fun k hk => subM_ok px hk
          have hcnt := cnt_pos hl0 hxo mx
          have hs1 : Keeps D S HL (listed.setIfInBounds x.i true) w := fun hn => hs (noD_set hn)
          have hl1 : LM ops (UpM (Nat.lor m (bm x.i)) [] md) (listed.setIfInBounds x.i true) := (hl0.set hxo fun k => Iff.rfl).congr fun k => by
            unfold UpM
            rw [putB]
            exact ⟨.inl, fun h => h.resolve_right fun ⟨c, hc, _⟩ => by cases hc⟩
          have hcl1 := closed_step hcl hrd
          have hz1 : ZI ops D (Nat.lor m (bm x.i)) [] := ⟨List.nodup_nil, fun c hc => (by cases hc), fun c hc => (by cases hc), fun c hc => (by cases hc), fun c hc => (by cases hc)⟩
          have hcomp : comp (infos ops) [.go y.i] (Nat.lor m (bm x.i)) [] = some [.go y []] := by
            have hg : getI (infos ops) y.i = some y := by
              have hm := mem_infos hyo.1
              rw [← hyo.2] at hm
              have key : ∀ (l : List OI), y ∈ l → (∀ z ∈ l, IsOI ops z) → getI l y.i = some y := by
                intro l
                induction l with
                | nil => intro h _; cases h
                | cons z l ihl =>
                  intro h hz
                  change ite' (Nat.beq z.i y.i) (some z) (getI l y.i) = some y
                  cases hb : Nat.beq z.i y.i with
                  | true =>
                    have := (hz z (List.mem_cons_self ..)).eq hyo (Nat.eq_of_beq_eq_true hb)
                    rw [this]
                  | false =>
                    rcases List.mem_cons.1 h with e | e
                    · subst e; rw [Nat.beq_refl] at hb; cases hb
                    · exact ihl e fun z hz' => hz z (List.mem_cons_of_mem _ hz')
              exact key _ hm fun z hz => infos_mem hz
            change (match getI (infos ops) y.i with
              | some y => compGo (infos ops) y (comp (infos ops) []) (Nat.lor m (bm x.i)) []
              | none => none) = _
            rw [hg]
            change gdS (andB (Bool.not (bit (Nat.lor (Nat.lor m (bm x.i)) (zmask [])) y.i)) (andB (subM y.pm (Nat.lor m (bm x.i))) (andB (onlyR (infos ops) (Nat.lor (Nat.lor m (bm x.i)) (zmask [])) y.i) (quietZ y [])))) (.go y []) (comp (infos ops) [] (Nat.lor (Nat.lor m (bm x.i)) (bm y.i)) []) = _
            have e0 : ∀ k, (Nat.lor (Nat.lor m (bm x.i)) (zmask [])).testBit k = true ↔ k = x.i ∨ m.testBit k = true := fun k => by
              rw [tb_lor_iff, putB]
              exact ⟨fun h => h.resolve_right (fun h => by change (0 : Nat).testBit k = true at h; simp at h), .inl⟩
            have k1 : Bool.not (bit (Nat.lor (Nat.lor m (bm x.i)) (zmask [])) y.i) = true := by
              rw [bit_tb]
              cases h2 : (Nat.lor (Nat.lor m (bm x.i)) (zmask [])).testBit y.i with
              | false => rfl
              | true =>
                rcases (e0 _).1 h2 with e | e
                · exact absurd e.symm hne
                · exact absurd e my
            have k2 : subM y.pm (Nat.lor m (bm x.i)) = true := subM_of fun k hk => putB.2 (.inr (subM_ok py hk))
            have k3 : onlyR (infos ops) (Nat.lor (Nat.lor m (bm x.i)) (zmask [])) y.i = true := allI_iff.2 fun z hz => by
              cases h2 : bit (Nat.lor (Nat.lor m (bm x.i)) (zmask [])) z.i with
              | true => rfl
              | false =>
                show ite' (Nat.beq z.i y.i) true _ = true
                rw [bit_tb] at h2
                have : z.i = y.i := by
                  rcases hall z hz with e | e | e
                  · have := (e0 z.i).2 (.inl e); rw [h2] at this; cases this
                  · exact e
                  · have := (e0 z.i).2 (.inr e); rw [h2] at this; cases this
                rw [this, Nat.beq_refl]
            have k4 : comp (infos ops) [] (Nat.lor (Nat.lor m (bm x.i)) (bm y.i)) [] = some [] := by
              change ite' (andB true (allI (fun z => bit (Nat.lor (Nat.lor m (bm x.i)) (bm y.i)) z.i) (infos ops))) (some []) none = some []
              have : allI (fun z => bit (Nat.lor (Nat.lor m (bm x.i)) (bm y.i)) z.i) (infos ops) = true := allI_iff.2 fun z hz => by
                rw [bit_tb, tb_lor_iff, tb_lor_iff, tb_bm_iff, tb_bm_iff]
                rcases hall z hz with e | e | e
                · exact .inl (.inr e)
                · exact .inr e
                · exact .inl (.inl e)
              rw [this]; rfl
            rw [k1, k2, k3, k4]; rfl
          have hd1 : ∀ i, (i, true) ∈ flatZ [Step.go y []] → ∀ j, D j = true → i ≠ j ∧ (ops[j]?).isSome = true ∧ (pureAt T ops i = false → ∃ n, reachB ops i n j = true) := fun i hi => by cases hi
          have hrun : ∀ held A H, goStep T ih id y.o (D y.i) (runZ T ih ops.toList D id []) held A H (wantedA ops.toList A y.o) = runZ T ih ops.toList D id [Step.go y []] held A H := fun held A H => rfl
          have hdi : ∀ {A H E a w}, DI P ops [] md A H E a w w0 := fun {A H E a w} => ⟨fun c hc => (by cases hc), fun c hc => (by cases hc), fun c hc => (by cases hc), fun c hc => (by cases hc)⟩
          rw [goStep_def] at h1
          split at h1
          · rename_i hw
            have hwant := wantedA_ok ha hw
            unfold wpOp
            simp only [hxo.1, hwant, if_true]
            refine .inl (doOp_ok2 hT hih h1 ha hr (fun E1 B1 G1 v v' w1 hrest hp g1 ha1 hr1 => ?_))
            simp only [hrun] at hrest
            cases hk : heldOk G1 held with
            | false =>
              rw [hk, ite'_false] at hrest
              obtain ⟨hDt, hrest⟩ := ite'_out hrest
              have hup2 : ¬ NoD D (listed.setIfInBounds x.i true) := fun hn => by
                have h1 := hn x.i hDt
                have h2 := (hl1.at_ x.i).2 (.inl (putB.2 (.inl rfl)))
                rw [h2] at h1; cases h1
              exact ⟨fun hn => absurd hn hup2, ihn (f + 1) (by simp at hn; omega) [.go y.i] _ _ [] md _ f [] [] S B1 G1 E1 _ w1 A1 H1 hle1 rfl hcomp hd1 hz1 hl1 (by omega) hcl1 hrest ha1 hr1 .nil (fun hn => absurd hn hup2) (g.trans g1) hdi⟩
            | true =>
              rw [hk, ite'_true] at hrest
              have hh1 := hh.mono g1.ag g1.le
              have hs2 := heldOk_ok hr1 hh1 hk
              exact ⟨fun hn => (hs (noD_set hn)).1 _ hs2, ihn (f + 1) (by simp at hn; omega) [.go y.i] _ _ [] md _ f held HL S B1 G1 E1 _ w1 A1 H1 hle1 rfl hcomp hd1 hz1 hl1 (by omega) hcl1 hrest ha1 hr1 hh1 (fun hn => ⟨(hs (noD_set hn)).1, hs2⟩) (g.trans g1) hdi⟩
          · rename_i hw
            have hwant := wantedA_ok ha hw
            obtain ⟨B1, hput, hrest⟩ := put1_ok h1
            simp only [hrun] at hrest
            unfold wpOp
            simp only [hxo.1, hwant]
            exact ⟨fun hn => (hs1 hn).1 _ (hs1 hn).2, ihn (f + 1) (by simp at hn; omega) [.go y.i] _ _ [] md _ f held HL S B1 H E _ w A1 H1 hle1 rfl hcomp hd1 hz1 hl1 (by omega) hcl1 hrest (ha.put hput VR.undef) hr hh hs1 g hdi⟩
          · cases h1
        have hcnt := cnt_pos hl0 hxo mx
        obtain ⟨f, rfl⟩ : ∃ f, fuel = f + 1 := ⟨fuel - 1, by omega⟩
        have hrd := oi_ready hl0 hxo mx fun k hk => subM_ok b4 hk
        refine ⟨fun h0 => (by rw [h0] at hrd; cases hrd), fun r hrr => ?_⟩
        obtain ⟨q1, z, hz1, hz2, hz3⟩ := ready_oi hl0 hrr
        rcases hall z hz1 with e1 | e1 | e1
        · rw [← hz2, e1]
          exact one x y hxo hyo hne mx my b4 b5 hall A1 H1 hr1 (hle.trans ⟨hle1, fun E N a h => (har).1 h⟩) f rfl
        · rw [← hz2, e1]
          exact one y x hyo hxo (Ne.symm hne) my mx b5 b4 (fun z hz => by
            rcases hall z hz with e | e | e
            · exact .inr (.inl e)
            · exact .inl e
            · exact .inr (.inr e)) A2 H2 hr2 (hle.trans ⟨hle2, fun E N a h => (har).2 h⟩) f rfl
        · rw [hz2] at e1; exact absurd e1 q1
      · cases hc
    · cases hc
theorem noSelB_ok {ops : Array Oper} (h : noSelB (infos ops) = true) : Region.noSelect ops = true := by
  unfold Region.noSelect
  rw [Array.all_eq_true_iff_forall_mem]
  intro o ho
  obtain ⟨j, hj⟩ := Array.mem_iff_getElem?.1 ho
  have h1 := allI_iff.1 h _ (mem_infos hj)
  change (match o.op with
    | .select _ _ => false
    | _ => true) = true at h1
  split at h1
  · cases h1
  · rename_i hne
    split
    · rename_i cs b he; exact absurd he (hne cs b)
    · rfl
theorem drawZ_any {P : Program} {T : Cx} (hT : Fits P T) (hm : P.follows .mixedOrders = true) {ih : Cmd → Out} (hih : CallsOk P T ih) {ops : Array Oper} {id : Nat} {A A' : AA} {H H' : Hp} {e : Ex} (h : drawZ T ih ops id A H = .code e A' H') {E : Env} {a : Act} {w : World} (ha : AR ds E H.next A a) (hr : HRel E H w) :
    wpAny P .any ops (Post ds e A' H' E H w) ops.size (Array.replicate ops.size false) a { w with drawn := w.drawn + 1 } := by
  unfold drawZ at h
  split at h
  · rename_i l hl
    obtain ⟨h1, h2⟩ := ite'_out h
    have hns := noSelB_ok h1
    have hr1 : HRel E H { w with drawn := w.drawn + 1 } := hr.heap rfl
    have g1 : Gd E E H H w { w with drawn := w.drawn + 1 } := ⟨Nat.le_refl _, Agree.refl _ _, fun b x hx => .inl ⟨b, x, hx, fun h => h, rfl⟩, rfl, rfl, rfl, Nat.le_refl _, fun _ _ _ => rfl⟩
    unfold planZ at hl
    split at hl
    · rename_i pl hpl
      refine wpD_any _ _ _ _ (runZ_ok hT hih hns (e := e) (AF := A') (HF := H') (H0 := H) (E0 := E) (w0 := w) (D := dOf T ops (flatZ l)) (id := id) _ pl l 0 [] (fun _ => .late) _ ops.size [] [] (SS []) A H E a _ A' H' (OLe.refl _ _) rfl hl (fun i hi j hj => dOf_ok hj hi) ⟨List.nodup_nil, fun c hc => (by cases hc), fun c hc => (by cases hc), fun c hc => (by cases hc), fun c hc => (by cases hc)⟩ ⟨by simp, fun k => ?_⟩ (by rw [cntF_start]; exact Nat.le_refl _) (closed_start _ _) h2 ha hr1 .nil (fun _ => ⟨fun _ h => h, fun q hq => by cases hq⟩) g1 ⟨fun c hc => (by cases hc), fun c hc => (by cases hc), fun c hc => (by cases hc), fun c hc => (by cases hc)⟩)
      constructor
      · intro hk
        simp only [Array.getD_eq_getD_getElem?, Array.getElem?_replicate] at hk
        split at hk <;> cases hk
      · rintro (hk | ⟨c, hc, _⟩)
        · simp at hk
        · cases hc
    · cases hl
  · cases h
end
end Go.Proofs.YtdkfimejabanlaaDoor
namespace Go.Proofs.YtdkfimejabanlaaDoor
open Go Go.RowKit
set_option linter.unusedVariables false
set_option linter.unusedSimpArgs false
noncomputable section
variable {ds : List Deferred}
/-! ### code walked in a function's frame (ro = none) or in a round's of a range over a function -/
def FF (ro : Option Nat) : Fence := { Fence.wide with round := ro }
theorem room_FF (ro : Option Nat) (n : Nat) : (FF ro).room n := fun d h => by cases h
theorem callsIn_FF {ro : Option Nat} {n : Nat} {P : Program} {f : FuncId} {args : Array Value} {w : World} {R : Ending → World → Prop} : CallsIn (FF ro) n P f args w R ↔ Calls P f args w R := by
  rw [← callsIn_wide (n := n)]
  exact ⟨fun h => ⟨h.1, fun cs _ => h.2 cs (room_FF ro _)⟩, fun h => ⟨h.1, fun cs _ => h.2 cs (room_wide _)⟩⟩
theorem rowsIn_FF {ro : Option Nat} {n : Nat} {P : Program} {row : String} {args : Array Value} {w : World} {R : Value → World → Prop} (h : Rows P row args w R) : RowsIn (FF ro) n P row args w R := fun c cs _ => by
  obtain ⟨v, w', r, s⟩ := h c cs
  exact ⟨v, w', r, stepsIn_wide.2 s⟩
theorem opIn_FF {ro : Option Nat} {n : Nat} {P : Program} {o : Oper} (hnd : ∀ c, o.op ≠ .defer c) {a : Act} {w : World} {K K' : Act → World → Prop} {Q : Exit → Act → World → Prop} (hK : ∀ a w, K a w → K' a w) (h : o.wp P a w K Q) : o.wpIn (FF ro) n P a w K' Q := by
  refine ⟨fun _ _ => trivial, ?_⟩
  rw [Oper.semAt_eq _ _ _ hnd]
  unfold Oper.wp at h
  generalize (execOp a.eval o).run P w = r at *
  cases r with
  | ok n' w' =>
    cases n' with
    | value v => exact hK _ _ h
    | skip => exact hK _ _ h
    | defer d => exact hK _ _ h
    | enter f args =>
      refine ⟨fun h => (by cases h), callsIn_FF.2 (Calls.mono h fun e w'' he => ?_)⟩
      cases e with
      | returned v => exact hK _ _ he
      | panicked c => exact he
      | outgrown => exact he
    | row row args => exact ⟨fun h => (by cases h), rowsIn_FF (Rows.mono h fun _ _ he => hK _ _ he)⟩
    | _ => exact h.elim
  | halt x w' =>
    cases x with
    | panic v => exact h
    | _ => exact h.elim
def NoDefer (ops : Array Oper) : Prop := ∀ (i : Nat) (o : Oper), ops[i]? = some o → ∀ c, o.op ≠ .defer c
theorem opsIn_FF {ro : Option Nat} {n : Nat} {P : Program} {ops : Array Oper} (hnd : NoDefer ops) {Q : Exit → Act → World → Prop} (hl : ¬ LetsOut Q) : ∀ (l : List Nat) (a : Act) (w : World), wpOps P ops Q l a w → wpOpsIn (FF ro) n P ops Q l a w
  | [], a, w, h => h
  | i :: l, a, w, h => by
    unfold wpOps at h
    unfold wpOpsIn
    cases ho : ops[i]? with
    | none => simp only [ho] at h ⊢; exact opsIn_FF hnd hl l a w h
    | some o =>
      simp only [ho] at h ⊢
      split
      · rename_i hw
        rw [if_pos hw] at h
        rcases h with h | h
        · exact opIn_FF (hnd i o ho) (fun a w h => opsIn_FF hnd hl l a w h) h
        · exact absurd h.2 hl
      · rename_i hw
        rw [if_neg hw] at h
        exact ⟨fun _ _ => trivial, opsIn_FF hnd hl l _ w h⟩
theorem wpOpIn_FF {ro : Option Nat} {n : Nat} {P : Program} {ops : Array Oper} (hnd : NoDefer ops) {Q : Exit → Act → World → Prop} (hl : ¬ LetsOut Q) {i : Nat} {K K' : Act → World → Prop} (hK : ∀ a w, K a w → K' a w) {a : Act} {w : World} (h : wpOp P ops Q i K a w) : wpOpIn (FF ro) n P ops Q i K' a w := by
  unfold wpOp at h
  unfold wpOpIn
  cases ho : ops[i]? with
  | none => simp only [ho] at h ⊢; exact hK _ _ h
  | some o =>
    simp only [ho] at h ⊢
    split
    · rename_i hw
      rw [if_pos hw] at h
      rcases h with h | h
      · exact opIn_FF (hnd i o ho) hK h
      · exact absurd h.2 hl
    · rename_i hw
      rw [if_neg hw] at h
      exact ⟨fun _ _ => trivial, hK _ _ h⟩
theorem anyIn_FF {ro : Option Nat} {n : Nat} {P : Program} {ops : Array Oper} (hnd : NoDefer ops) {Q : Exit → Act → World → Prop} (hl : ¬ LetsOut Q) : ∀ (f : Nat) (L : Array Bool) (a : Act) (w : World), wpAny P .any ops Q f L a w → wpAnyIn (FF ro) n P .any ops Q f L a w
  | 0, _, _, _, h => h
  | f + 1, L, a, w, h => ⟨h.1, fun i hi => wpOpIn_FF hnd hl (fun a w h => anyIn_FF hnd hl f _ a w h) (h.2 i hi)⟩
def wpR (ro : Option Nat) (P : Program) (c : Code) (Q : Exit → Act → World → Prop) (a : Act) (w : World) : Prop := ∀ n, c.wpIn (FF ro) n P Q a w
section
variable {ro : Option Nat} {P : Program} {Q : Exit → Act → World → Prop} {a : Act} {w : World}
theorem wpR_none {c : Code} (h : wpR none P c Q a w) : c.wp P Q a w := wpIn_wide.1 (h 0)
theorem wpR_mono {c : Code} {Q' : Exit → Act → World → Prop} (h : wpR ro P c Q a w) (hq : ∀ e a w, Q e a w → Q' e a w) : wpR ro P c Q' a w := fun n => wpIn_mono (h n) hq
theorem wpR_skip (h : Q .normal a w) : wpR ro P .skip Q a w := fun n => wpIn_skip h
theorem wpR_ret (h : Q .ret a w) : wpR ro P .ret Q a w := fun n => wpIn_ret h
theorem wpR_exit {id : Nat} (h : Q (.exit id) a w) : wpR ro P (.exit id) Q a w := fun n => wpIn_exit h
theorem wpR_seq {x y : Code} (h : wpR ro P x (Exit.then (wpR ro P y Q) Q) a w) : wpR ro P (.seq x y) Q a w := fun n => wpIn_seq (wpIn_mono (h n) fun e a w he => by
  cases e with
  | normal => exact he n
  | exit id => exact he
  | goto l => exact he
  | ret => exact he
  | panic ch => exact he
  | outgrown => exact he)
theorem wpR_cond {c : Operand} {x y : Code} {t : Bool} (hc : a.eval c = .bool t) (h : wpR ro P (if t then x else y) Q a w) : wpR ro P (.cond c x y) Q a w := fun n => wpIn_cond hc (h n)
theorem wpR_block {id : Nat} {c : Code} (h : wpR ro P c (Exit.inBlock id Q) a w) : wpR ro P (.block id c) Q a w := fun n => wpIn_block (h n)
def roundsR (ro : Option Nat) (P : Program) (c : Code) (Q : Exit → Act → World → Prop) : Nat → Act → World → Prop
  | 0, _, _ => False
  | m + 1, a, w => wpR ro P c (Exit.then (roundsR ro P c Q m) Q) a w
theorem roundsR_in {c : Code} (n : Nat) : ∀ (m : Nat) (a : Act) (w : World), roundsR ro P c Q m a w → Code.roundsIn (FF ro) n P c Q m a w
  | 0, _, _, h => h
  | m + 1, a, w, h => by
    rw [roundsIn_succ]
    refine wpIn_mono (h n) fun e a w he => ?_
    cases e with
    | normal => exact roundsR_in n m a w he
    | exit id => exact he
    | goto l => exact he
    | ret => exact he
    | panic ch => exact he
    | outgrown => exact he
theorem wpR_loop_rounds {c : Code} (m : Nat) (h : roundsR ro P c Q m a w) : wpR ro P (.loop c) Q a w := fun n => wpIn_loop_rounds m (roundsR_in n m a w h)
theorem roundsR_mono {c : Code} {Q' : Exit → Act → World → Prop} (hq : ∀ e a w, Q e a w → Q' e a w) : ∀ (m : Nat) (a : Act) (w : World), roundsR ro P c Q m a w → roundsR ro P c Q' m a w
  | 0, _, _, h => h
  | m + 1, a, w, h => wpR_mono h fun x a1 w1 hp => by
    cases x with
    | normal => exact roundsR_mono hq m _ _ hp
    | exit id => exact hq _ _ _ hp
    | goto l => exact hq _ _ _ hp
    | ret => exact hq _ _ _ hp
    | panic ch => exact hq _ _ _ hp
    | outgrown => exact hq _ _ _ hp
theorem wpR_region {id : Nat} {ops : Array Oper} (hnd : NoDefer ops) (hl : ¬ LetsOut Q) (h : wpOps P ops Q (List.range ops.size) a w) : wpR ro P (.region id ops false) Q a w := fun n => wpIn_region (opsIn_FF hnd hl _ a w h)
theorem wpR_region_any {id : Nat} {ops : Array Oper} (hnd : NoDefer ops) (hl : ¬ LetsOut Q) (hm : P.follows .mixedOrders = true) (h : wpAny P .any ops Q ops.size (Array.replicate ops.size false) a { w with drawn := w.drawn + 1 }) : wpR ro P (.region id ops true) Q a w := fun n => wpIn_region_any hm (anyIn_FF hnd hl _ _ a _ h)
end
theorem post_stays {e : Ex} {A' : AA} {H' : Hp} {E : Env} {H : Hp} {w : World} : ¬ LetsOut (Post ds e A' H' E H w) := fun ⟨a, w', h⟩ => by
  have h1 := h.1
  cases e <;> cases h1
/-! ### no code that defers -/
def ndOp (o : Op) : Bool := match o with
  | .defer _ => false
  | _ => true
def ndOps (l : List Oper) : Bool := List.rec (motive := fun _ => Bool) true (fun o _ ih => ite' (ndOp o.op) ih false) l
theorem ndOps_ok : ∀ {l : List Oper}, ndOps l = true → ∀ o ∈ l, ∀ c, o.op ≠ .defer c
  | [], _, o, ho => by cases ho
  | o :: l, h, o2, ho => fun c e => by
    obtain ⟨h1, h2⟩ := ite'_true_eq (show ite' (ndOp o.op) (ndOps l) false = true from h)
    rcases List.mem_cons.1 ho with e1 | e1
    · subst e1; rw [e] at h1; cases h1
    · exact ndOps_ok h2 o2 e1 c e
theorem noDefer_of {ops : Array Oper} (h : ndOps ops.toList = true) : NoDefer ops := fun i o ho => ndOps_ok h o (by
  have := Array.mem_of_getElem? ho
  simpa using this)
def nrCode (c : Code) : Bool :=
  Code.rec (motive := fun _ => Bool) true (fun _ _ _ => true) (fun _ _ a b => ite' a b false) (fun _ _ _ a b => ite' a b false) (fun _ _ a => a) (fun _ a => a) (fun _ _ _ _ _ _ => false) (fun _ => true) (fun _ a => a) (fun _ => true) (fun _ => true) true (fun _ => true) c
def ndCode (c : Code) : Bool :=
  Code.rec (motive := fun _ => Bool) true (fun _ ops _ => ndOps ops.toList) (fun _ _ a b => ite' a b false) (fun _ _ _ a b => ite' a b false) (fun _ _ a => a) (fun _ a => a) (fun _ _ x y a b => ite' (nrCode x) (ite' (nrCode y) (ite' a b false) false) false) (fun _ => true) (fun _ a => a) (fun _ => true) (fun _ => true) true (fun _ => true) c
/-! ### the marks that ranges over functions leave among what is deferred -/
def markD (D : Nat) : Deferred := { target := .collected D, args := #[] }
structure Mks (B : Nat) (w : World) (ms : List Nat) : Prop where
  nd : ms.Nodup
  at_ : ∀ D ∈ ms, B ≤ D ∧ w.heap[D]? = some (.deferred (some []))
theorem Mks.nil {B : Nat} {w : World} : Mks B w [] := ⟨List.nodup_nil, fun D hD => by cases hD⟩
theorem Mks.mono {B B' : Nat} {w : World} {ms : List Nat} (h : Mks B w ms) (hB : B' ≤ B) : Mks B' w ms := ⟨h.nd, fun D hD => ⟨Nat.le_trans hB (h.at_ D hD).1, (h.at_ D hD).2⟩⟩
theorem HRel.notD {E : Env} {H : Hp} {w : World} (hr : HRel E H w) {D b : Nat} {x : Blk} {o : Option (List Deferred)} (hD : w.heap[D]? = some (.deferred o)) (hb : H.b.get b = some x) : E.s b ≠ D := fun e => by
  have := hr.rel b x hb
  rw [e, hD] at this
  unfold BR at this
  split at this
  · obtain ⟨cs, fz, h1, _⟩ := this; cases h1
  · obtain ⟨es', h1, _⟩ := this; cases h1
  · cases this
  · obtain ⟨cs, e, fz, h1, _⟩ := this; cases h1
theorem Mks.keep {B : Nat} {w1 w2 : World} {ms : List Nat} (h : Mks B w1 ms) {E1 E2 : Env} {H1 H2 : Hp} (hr : HRel E1 H1 w1) (g : Gd E1 E2 H1 H2 w1 w2) : Mks B w2 ms := ⟨h.nd, fun D hD => by
  obtain ⟨h1, h2⟩ := h.at_ D hD
  refine ⟨h1, ?_⟩
  rw [g.frame D (Array.getElem?_eq_some_iff.1 h2).1 fun b x hb _ => hr.notD h2 hb]
  exact h2⟩
/-- what a piece of code comes to; there may be marks more. -/
def PostM (ds : List Deferred) (e : Ex) (A' : AA) (H' : Hp) (E : Env) (H : Hp) (w : World) : Exit → Act → World → Prop := fun x a' w' => x = e.out ∧ ∃ (E' : Env) (ms : List Nat), Gd E E' H H' w w' ∧ AR (ms.map markD ++ ds) E' H'.next A' a' ∧ HRel E' H' w' ∧ Mks w.heap.size w' ms
theorem Post.m {e : Ex} {A' : AA} {H' : Hp} {E : Env} {H : Hp} {w : World} {x : Exit} {a' : Act} {w' : World} (h : Post ds e A' H' E H w x a' w') : PostM ds e A' H' E H w x a' w' := by
  obtain ⟨h1, E', g, ha, hr⟩ := h
  exact ⟨h1, E', [], g, ha, hr, .nil⟩
theorem PostM.comp {e : Ex} {A' : AA} {E E1 : Env} {H H1 H' : Hp} {w w1 : World} {ms1 : List Nat} (g : Gd E E1 H H1 w w1) (hr1 : HRel E1 H1 w1) (hm : Mks w.heap.size w1 ms1) {x : Exit} {a' : Act} {w' : World} (h : PostM (ms1.map markD ++ ds) e A' H' E1 H1 w1 x a' w') : PostM ds e A' H' E H w x a' w' := by
  obtain ⟨h1, E', ms, g2, ha, hr, hm2⟩ := h
  refine ⟨h1, E', ms ++ ms1, g.trans g2, by rw [List.map_append, List.append_assoc]; exact ha, hr, ⟨?_, fun D hD => ?_⟩⟩
  · refine List.nodup_append.2 ⟨hm2.nd, hm.nd, fun D h3 D' h4 e => ?_⟩
    subst e
    have h5 := (hm2.at_ D h3).1
    have h6 := (Array.getElem?_eq_some_iff.1 (hm.at_ D h4).2).1
    omega
  · rcases List.mem_append.1 hD with h3 | h3
    · exact ⟨Nat.le_trans g.size (hm2.at_ D h3).1, (hm2.at_ D h3).2⟩
    · exact (hm.keep hr1 g2).at_ D h3
theorem postM_stays {e : Ex} {A' : AA} {H' : Hp} {E : Env} {H : Hp} {w : World} : ¬ LetsOut (PostM ds e A' H' E H w) := fun ⟨a, w', h⟩ => by
  have h1 := h.1
  cases e <;> cases h1
/-- a function leaves: its marks are taken. -/
theorem leave_ms {P : Program} {n : Nat} {fn : Func} {tmps : Array Value} {R : Ending → World → Prop} {E E1 : Env} {H H1 : Hp} {w : World} (hend : ∀ w2, HRel E1 H1 w2 → Gd E E1 H H1 w w2 → ∃ v, (results fn tmps).run P w2 = .ok v w2 ∧ R (.returned v) w2) :
    ∀ (ms : List Nat) (w1 : World), Mks w.heap.size w1 ms → HRel E1 H1 w1 → Gd E E1 H H1 w w1 → LeavesInM (FF none) n P fn tmps R (ms.map markD) .returning w1
  | [], w1, _, hr, g => hend w1 hr g
  | D :: ms, w1, hm, hr, g => by
    obtain ⟨h1, h2⟩ := hm.at_ D (List.mem_cons_self ..)
    have hheap : ∀ i, i ≠ D → (w1.putObj D (.deferred none)).heap[i]? = w1.heap[i]? := fun i hi => World.putObj_heap_other hi
    refine ⟨fun h => (by cases h), .inl ⟨D, w1.putObj D (.deferred none), rfl, run_takeDeferred h2, leave_ms hend ms _ ⟨(List.nodup_cons.1 hm.nd).2, fun D' hD' => ?_⟩ ⟨hr.lt, fun b x hb => ?_, hr.inj⟩ ⟨g.le, g.ag, g.dom, g.os, g.tape, g.output, ?_, fun i hi hf => ?_⟩⟩⟩
    · have hne : D' ≠ D := fun e => (List.nodup_cons.1 hm.nd).1 (e ▸ hD')
      obtain ⟨k1, k2⟩ := hm.at_ D' (List.mem_cons_of_mem _ hD')
      exact ⟨k1, by rw [hheap D' hne]; exact k2⟩
    · rw [hheap _ (hr.notD h2 hb)]; exact hr.rel b x hb
    · have : (w1.putObj D (.deferred none)).heap.size = w1.heap.size := by simp [World.putObj]
      rw [this]; exact g.size
    · rw [hheap i (by omega)]; exact g.frame i hi hf
end
end Go.Proofs.YtdkfimejabanlaaDoor
namespace Go.Proofs.YtdkfimejabanlaaDoor
open Go Go.RowKit
set_option linter.unusedVariables false
set_option linter.unusedSimpArgs false
noncomputable section
variable {ds : List Deferred}
/-! ### ranges over slices.Backward -/
def CodesOk (P : Program) (T : Cx) (ih : Cmd → Out) : Prop := ∀ c A H e A' H', ih (.code c A H) = .code e A' H' → ndCode c = true → ∀ (ds : List Deferred) (ro : Option Nat), (ro = none ∨ nrCode c = true) → ∀ (E : Env) (a : Act) (w : World), AR ds E H.next A a → HRel E H w → wpR ro P c (PostM ds e A' H' E H w) a w
def bwr0 (ts : TypeId) : Array Oper := #[{ dst := some 4, op := .load ts (.tmp 1), type := ts, pos := "iter.go:28", after := #[], guard := none },
  { dst := some 5, op := .call { callee := .builtin .len, args := #[.tmp 4], argTypes := #[ts] }, type := 3, pos := "iter.go:28", after := #[{ on := 0, ground := .data }], guard := none },
  { dst := some 6, op := .binOp .sub 3 (.tmp 5) (.const (.int .i64 1)) 3, type := 3, pos := "iter.go:28", after := #[{ on := 1, ground := .data }], guard := none },
  { dst := some 3, op := .assign (.tmp 6), type := 3, pos := "iter.go:28", after := #[{ on := 2, ground := .data }, { on := 0, ground := .phase }, { on := 1, ground := .phase }, { on := 2, ground := .phase }], guard := none }]
def bwr1 : Array Oper := #[{ dst := some 7, op := .move (.tmp 3), type := 3, pos := "iter.go:28", after := #[], guard := none },
  { dst := some 8, op := .binOp .geq 3 (.tmp 7) (.const (.int .i64 0)) 3, type := 4, pos := "iter.go:28", after := #[{ on := 0, ground := .data }], guard := none }]
def bwr3 (y ts te : TypeId) : Array Oper := #[{ dst := some 11, op := .move (.tmp 0), type := y, pos := "iter.go:29", after := #[], guard := none },
  { dst := some 12, op := .move (.tmp 3), type := 3, pos := "iter.go:29", after := #[], guard := none },
  { dst := some 13, op := .load ts (.tmp 1), type := ts, pos := "iter.go:29", after := #[], guard := none },
  { dst := some 14, op := .move (.tmp 3), type := 3, pos := "iter.go:29", after := #[], guard := none },
  { dst := some 15, op := .indexAddr ts (.tmp 13) (.tmp 14), type := 0, pos := "iter.go:29", after := #[{ on := 2, ground := .data }, { on := 3, ground := .data }], guard := none },
  { dst := some 16, op := .load te (.tmp 15), type := te, pos := "iter.go:29", after := #[{ on := 4, ground := .data }], guard := none },
  { dst := some 17, op := .call { callee := .value (.tmp 11), args := #[.tmp 12, .tmp 16], argTypes := #[3, te] }, type := 4, pos := "iter.go:29", after := #[{ on := 0, ground := .data }, { on := 1, ground := .data }, { on := 5, ground := .data }], guard := none },
  { dst := some 18, op := .unOp .not 4 (.tmp 17), type := 4, pos := "iter.go:29", after := #[{ on := 6, ground := .data }], guard := none }]
def bwr2 : Array Oper := #[{ dst := some 9, op := .move (.tmp 3), type := 3, pos := "iter.go:28", after := #[], guard := none },
  { dst := some 10, op := .binOp .sub 3 (.tmp 9) (.const (.int .i64 1)) 3, type := 3, pos := "iter.go:28", after := #[{ on := 0, ground := .data }], guard := none },
  { dst := some 3, op := .assign (.tmp 10), type := 3, pos := "iter.go:28", after := #[{ on := 1, ground := .data }, { on := 0, ground := .phase }, { on := 1, ground := .phase }], guard := none }]
/-- what the closure of slices.Backward does, at the types y of yield, ts of the slice, te of its elements. -/
def bwRound (y ts te : TypeId) : Code := .seq (.seq (.region 1 bwr1 false) (.cond (.tmp 8) .skip (.exit 0))) (.seq (.block 1 (.seq (.region 3 (bwr3 y ts te) false) (.cond (.tmp 18) .ret .skip))) (.region 2 bwr2 false))
def bwBody (y ts te : TypeId) : Code := .seq (.region 0 (bwr0 ts) false) (.block 0 (.loop (bwRound y ts te)))
def BwAt1 (P : Program) (f : FuncId) (q : TypeId × TypeId) : Prop := ∃ (fn : Func) (y : TypeId), P.funcs[f]? = some fn ∧ (fn.name == "runtime.NumGoroutine") = false ∧ fn.body = some (bwBody y q.1 q.2) ∧ fn.ntmps = 19 ∧ fn.results = #[]
/-- a closure of slices.Backward; or (q.2 = 0) a function that has no body. -/
def BwAt (P : Program) (f : FuncId) (q : TypeId × TypeId) : Prop := (q.2 ≠ 0 ∧ BwAt1 P f q) ∨ (q.2 = 0 ∧ ExtAt P f q.1)
def BwOk (P : Program) (T : Cx) : Prop := ∀ f q, T.bw.get f = some q → BwAt P f q
/-! ### in the evaluator -/
def lenB (T : Cx) (ts : TypeId) (H : Hp) (s : Value) : Option Nat := match o_len ts (.tmp 4) T ⟨0, 19, 0, .nil, [(4, s)]⟩ H with
  | some p => (match p.1 with
    | .int .i64 (.ofNat n) => some n
    | _ => none)
  | none => none
/-- element i of the slice s. -/
def bwElem (T : Cx) (q : TypeId × TypeId) (i : Nat) (H : Hp) (s : Option Value) : Option Value := match s with
  | some s => (match o_indexAddr q.1 (.tmp 13) (.tmp 14) T ⟨0, 19, 0, .nil, [(14, .int .i64 (.ofNat i)), (13, s)]⟩ H with
    | some p => (match p.1 with
      | .pointer (some p) => loadV T H q.2 p.block p.off
      | _ => none)
    | none => none)
  | none => none
def rndEnd (A : AA) (next : Hp → Out) (r : Out) : Out := match r with
  | .code .normal _ H => next H
  | .code (.exit id) _ H => .code (.exit id) A H
  | .code .ret _ H => .code .ret A H
  | .bad w => .bad w
  | .call _ _ => .bad 17
def rndBody (ih : Cmd → Out) (body : Code) (A : AA) (next : Hp → Out) (r : Out) : Out := match r with
  | .code .normal A' H => rndEnd A next (ih (.code body A' H))
  | .bad w => .bad w
  | _ => .bad 18
def rndD (ih : Cmd → Out) (p0 p1 : Nat) (assign body : Code) (A : AA) (i : Nat) (next : Hp → Out) (H : Hp) (v : Option Value) : Out := match v with
  | some v => (match A.set p0 (.int .i64 (.ofNat i)) with
    | some A1 => (match A1.set p1 v with
      | some A2 => rndBody ih body A next (ih (.code assign A2 H))
      | none => .bad 19)
    | none => .bad 19)
  | none => .bad 20
def rndsD (T : Cx) (ih : Cmd → Out) (q : TypeId × TypeId) (b o : Nat) (p0 p1 : Nat) (assign body : Code) (A : AA) (n : Nat) : Hp → Out :=
  Nat.rec (motive := fun _ => Hp → Out) (fun H => .code .normal A H) (fun i next H => rndD ih p0 p1 assign body A i next H (bwElem T q i H (loadV T H q.1 b o))) n
def rngD (T : Cx) (ih : Cmd → Out) (q : TypeId × TypeId) (b o : Nat) (ps : List Tmp) (assign body : Code) (A : AA) (H : Hp) (s : Option Value) : Out := match s with
  | some s => (match lenB T q.1 H s with
    | some n => (match ps with
      | [p0, p1] => ite' (Nat.ble n 4294967296) (rndsD T ih q b o p0 p1 assign body A n H) (.bad 21)
      | _ => .bad 21)
    | none => .bad 21)
  | none => .bad 22
def rangeD (T : Cx) (ih : Cmd → Out) (ps : List Tmp) (assign body : Code) (A : AA) (H : Hp) (f : Option Value) : Out := match f with
  | some (.func (.func f) x1 x2) => (match x1.toList with
    | [] => (match x2.toList with
      | [.pointer (some p)] => (match T.bw.get f with
        | some q => ite' (Nat.beq q.2 0) (.bad 27) (rngD T ih q p.block p.off ps assign body A.fresh H (loadV T H q.1 p.block p.off))
        | none => .bad 23)
      | _ => .bad 24)
    | _ => .bad 24)
  | _ => .bad 25
theorem rndsD_succ (T : Cx) (ih : Cmd → Out) (q : TypeId × TypeId) (b o : Nat) (p0 p1 : Nat) (assign body : Code) (A : AA) (n : Nat) (H : Hp) :
    rndsD T ih q b o p0 p1 assign body A (n + 1) H = rndD ih p0 p1 assign body A n (rndsD T ih q b o p0 p1 assign body A n) H (bwElem T q n H (loadV T H q.1 b o)) := rfl
/-! ### the record -/
theorem HRel.named {E : Env} {H : Hp} {w : World} (hr : HRel E H w) {b : Nat} {x : Blk} (hb : H.b.get b = some x) : E.s b < w.heap.size := by
  have := hr.rel b x hb
  unfold BR at this
  split at this
  · obtain ⟨cs, fz, h1, _⟩ := this; exact (Array.getElem?_eq_some_iff.1 h1).1
  · obtain ⟨es', h1, _⟩ := this; exact (Array.getElem?_eq_some_iff.1 h1).1
  · exact (Array.getElem?_eq_some_iff.1 this).1
  · obtain ⟨cs, e, fz, h1, _⟩ := this; exact (Array.getElem?_eq_some_iff.1 h1).1
theorem HRel.same {E : Env} {H : Hp} {w w' : World} (hr : HRel E H w) (h : ∀ b x, H.b.get b = some x → w'.heap[E.s b]? = w.heap[E.s b]?) : HRel E H w' := ⟨hr.lt, fun b x hb => by rw [h b x hb]; exact hr.rel b x hb, hr.inj⟩
theorem HRel.notL {E : Env} {H : Hp} {w : World} (hr : HRel E H w) {D b : Nat} {x : Blk} {o : Loop} (hD : w.heap[D]? = some (.loop o)) (hb : H.b.get b = some x) : E.s b ≠ D := fun e => by
  have := hr.rel b x hb
  rw [e, hD] at this
  unfold BR at this
  split at this
  · obtain ⟨cs, fz, h1, _⟩ := this; cases h1
  · obtain ⟨es', h1, _⟩ := this; cases h1
  · cases this
  · obtain ⟨cs, e, fz, h1, _⟩ := this; cases h1
theorem HRel.putL {E : Env} {H : Hp} {w : World} (hr : HRel E H w) {l : Nat} {r : Loop} (hl : w.heap[l]? = some (.loop r)) (o : Obj) : HRel E H (w.putObj l o) :=
  hr.same fun b x hb => World.putObj_heap_other (hr.notL hl hb)
theorem Gd.putL {E E' : Env} {H H' : Hp} {w w' : World} (g : Gd E E' H H' w w') {l : Nat} (hl : w.heap.size ≤ l) (o : Obj) : Gd E E' H H' w (w'.putObj l o) :=
  ⟨g.le, g.ag, g.dom, g.os, g.tape, g.output, by rw [World.putObj_size]; exact g.size, fun i hi hf => by rw [World.putObj_heap_other (by omega)]; exact g.frame i hi hf⟩
theorem Gd.keepL {E1 E2 : Env} {H1 H2 : Hp} {w1 w2 : World} (g : Gd E1 E2 H1 H2 w1 w2) (hr : HRel E1 H1 w1) {l : Nat} {r : Loop} (hl : w1.heap[l]? = some (.loop r)) : w2.heap[l]? = some (.loop r) := by
  rw [g.frame l (Array.getElem?_eq_some_iff.1 hl).1 fun b x hb _ => hr.notL hl hb]; exact hl
theorem Gd.keepD {E1 E2 : Env} {H1 H2 : Hp} {w1 w2 : World} (g : Gd E1 E2 H1 H2 w1 w2) (hr : HRel E1 H1 w1) {l : Nat} {r : Option (List Deferred)} (hl : w1.heap[l]? = some (.deferred r)) : w2.heap[l]? = some (.deferred r) := by
  rw [g.frame l (Array.getElem?_eq_some_iff.1 hl).1 fun b x hb _ => hr.notD hl hb]; exact hl
end
end Go.Proofs.YtdkfimejabanlaaDoor
namespace Go.Proofs.YtdkfimejabanlaaDoor
open Go Go.RowKit
set_option linter.unusedVariables false
set_option linter.unusedSimpArgs false
noncomputable section
variable {ds : List Deferred}
/-! ### the closure's frame -/
structure IT (l : Nat) (pv : Value) (a : Act) : Prop where
  df : a.defers = []
  size : a.tmps.size = 19
  y : a.tmps[0]? = some (.func (.yield l) #[] #[])
  p : a.tmps[1]? = some pv
theorem IT.put {l : Nat} {pv : Value} {a : Act} (h : IT l pv a) (t : Nat) (v : Value) (h0 : t ≠ 0) (h1 : t ≠ 1) : IT l pv (a.put (some t) v) :=
  ⟨h.df, by simp [Act.put, h.size], by simp [Act.put, Array.getElem?_setIfInBounds_ne h0]; exact h.y, by simp [Act.put, Array.getElem?_setIfInBounds_ne h1]; exact h.p⟩
theorem tput_same {a : Act} {t : Nat} {v : Value} (h : t < a.tmps.size) : (a.put (some t) v).tmps[t]? = some v := by simp [Act.put, h]
theorem tput_other {a : Act} {t t' : Nat} {v : Value} (h : t ≠ t') : (a.put (some t) v).tmps[t']? = a.tmps[t']? := by simp [Act.put, Array.getElem?_setIfInBounds_ne h]
theorem eval_tmp {a : Act} {t : Nat} {v : Value} (h : a.tmps[t]? = some v) : a.eval (.tmp t) = v := by
  show a.tmps.getD t undef = v
  rw [Array.getD_eq_getD_getElem?, h]; rfl
section
variable {n : Nat} {P : Program} {ops : Array Oper} {Q : Exit → Act → World → Prop}
theorem opsIn_val {i : Nat} {rest : List Nat} {a : Act} {w : World} {o : Oper} {v : Value} {w' : World} (d : Option Tmp) (ho : ops[i]? = some o) (hd : o.dst = d) (hg : o.guard = none) (hnd : ∀ c, o.op ≠ .defer c) (hx : (execOp a.eval o).run P w = .ok (.value v) w') (h : wpOpsIn (FF none) n P ops Q rest (a.put d v) w') :
    wpOpsIn (FF none) n P ops Q (i :: rest) a w := by
  unfold wpOpsIn
  subst hd
  simp only [ho]
  rw [if_pos (by unfold Region.wanted; rw [hg])]
  refine ⟨fun _ _ => trivial, ?_⟩
  rw [Oper.semAt_eq _ _ _ hnd, hx]
  exact h
theorem opsIn_end {a : Act} {w : World} (h : Q .normal a w) : wpOpsIn (FF none) n P ops Q [] a w := h
end
def bwAA (i : Nat) (s : Value) : AA := ⟨0, 19, 0, .nil, [(14, .int .i64 (.ofNat i)), (13, s)]⟩
theorem bwAA_ok {E : Env} {N : Nat} {i : Nat} {s s' : Value} {a : Act} (hd : a.defers = []) (hs : a.tmps.size = 19) (h14 : a.tmps[14]? = some (.int .i64 (i : Int))) (h13 : a.tmps[13]? = some s') (hv : VR E N s s') : AR [] E N (bwAA i s) a := by
  refine ⟨hd, hs, fun g hg => absurd hg (Nat.not_lt_zero _), fun t v h => ?_⟩
  rw [AA.get_eq] at h
  have hb : bit (bwAA i s).k t = false := by
    show Nat.beq (Nat.land (Nat.shiftRight 0 t) 1) 1 = false
    have : Nat.shiftRight 0 t = 0 := Nat.zero_shiftRight t
    rw [this]; rfl
  rw [hb, ite'_false] at h
  change ite' (Nat.beq 14 t) (some (.int .i64 (.ofNat i))) (ite' (Nat.beq 13 t) (some s) none) = some v at h
  cases h1 : Nat.beq 14 t with
  | true =>
    rw [h1, ite'_true] at h
    cases h
    have := Nat.eq_of_beq_eq_true h1
    subst this
    exact ⟨_, h14, .same rfl⟩
  | false =>
    rw [h1, ite'_false] at h
    obtain ⟨h2, h3⟩ := ite'_some h
    cases h3
    have := Nat.eq_of_beq_eq_true h2
    subst this
    exact ⟨_, h13, hv⟩
def bwA4 (s : Value) : AA := ⟨0, 19, 0, .nil, [(4, s)]⟩
theorem bwA4_ok {E : Env} {N : Nat} {s s' : Value} {a : Act} (hd : a.defers = []) (hs : a.tmps.size = 19) (h4 : a.tmps[4]? = some s') (hv : VR E N s s') : AR [] E N (bwA4 s) a := by
  refine ⟨hd, hs, fun g hg => absurd hg (Nat.not_lt_zero _), fun t v h => ?_⟩
  rw [AA.get_eq] at h
  have hb : bit (bwA4 s).k t = false := by
    show Nat.beq (Nat.land (Nat.shiftRight 0 t) 1) 1 = false
    have : Nat.shiftRight 0 t = 0 := Nat.zero_shiftRight t
    rw [this]; rfl
  rw [hb, ite'_false] at h
  change ite' (Nat.beq 4 t) (some s) none = some v at h
  obtain ⟨h2, h3⟩ := ite'_some h
  cases h3
  have := Nat.eq_of_beq_eq_true h2
  subst this
  exact ⟨_, h4, hv⟩
/-- what is asked of a round, with the world before it. -/
structure Rd (E : Env) (H : Hp) (w : World) (rec : LoopState → Option Code → Loop) (E1 : Env) (H1 : Hp) (st : LoopState) (pe : Option Code) (W : World) : Prop where
  g : Gd E E1 H H1 w W
  r : HRel E1 H1 W
  l : W.heap[w.heap.size + 1]? = some (.loop (rec st pe))
  d : W.heap[w.heap.size]? = some (.deferred (some []))
theorem Rd.put {E : Env} {H : Hp} {w : World} {rec : LoopState → Option Code → Loop} {E1 : Env} {H1 : Hp} {st st' : LoopState} {pe pe' : Option Code} {W : World} (h : Rd E H w rec E1 H1 st pe W) : Rd E H w rec E1 H1 st' pe' (W.putObj (w.heap.size + 1) (.loop (rec st' pe'))) :=
  ⟨h.g.putL (by omega) _, h.r.putL h.l _, World.putObj_heap_same (Array.getElem?_eq_some_iff.1 h.l).1, (World.putObj_heap_other (by omega)).trans h.d⟩
theorem Rd.then {E : Env} {H : Hp} {w : World} {rec : LoopState → Option Code → Loop} {E1 E2 : Env} {H1 H2 : Hp} {st : LoopState} {pe : Option Code} {W W2 : World} (h : Rd E H w rec E1 H1 st pe W) (g : Gd E1 E2 H1 H2 W W2) (hr : HRel E2 H2 W2) : Rd E H w rec E2 H2 st pe W2 :=
  ⟨h.g.trans g, hr, g.keepL h.r h.l, g.keepD h.r h.d⟩
/-- the record of a range. -/
def recOf (fn : FuncId) (tmps : Array Value) (ps : Array Tmp) (assign body : Code) (D : Nat) (st : LoopState) (pe : Option Code) : Loop := { state := st, pending := pe, fn, tmps, params := ps, assign, body, defers := D }
def jumpOf : Ex → Option Code
  | .normal => none
  | .exit id => some (.exit id)
  | .ret => some .ret
/-- one round, as it is run: the parameters set, the assignment, the body. -/
theorem round_ok {P : Program} {T : Cx} {ih : Cmd → Out} (hD : CodesOk P T ih) {assign body : Code} (nda : ndCode assign = true) (ndb : ndCode body = true) (nra : nrCode assign = true) (nrb : nrCode body = true)
    {A : AA} {fn : FuncId} {p0 p1 : Nat} {i : Nat} {E : Env} {H : Hp} {w : World} {a : Act} (ha : AR ds E H.next A a) {E1 : Env} {H1 : Hp} {W : World} {v v' : Value}
    (hrd : Rd E H w (recOf fn a.tmps #[p0, p1] assign body w.heap.size) E1 H1 .ready none W) (hv : VR E1 H1.next v v') {A1 A2 A3 : AA} {H3 : Hp} (h0 : A.set p0 (.int .i64 (.ofNat i)) = some A1) (h1 : A1.set p1 v = some A2)
    (hasg : ih (.code assign A2 H1) = .code .normal A3 H3) {e : Ex} {A4 : AA} {H4 : Hp} (hbody : ih (.code body A3 H3) = .code e A4 H4) (n : Nat) :
    ∃ tmps, (Instr.yield (w.heap.size + 1) #[.int .i64 (i : Int), v']).run P W = .ok (.round (w.heap.size + 1) fn tmps assign body) W ∧ RoundIn (FF none) n P (w.heap.size + 1) fn tmps assign body W fun en W' =>
      en = .returned (.bool (jumpOf e).isNone) ∧ ∃ E4, Rd E H w (recOf fn a.tmps #[p0, p1] assign body w.heap.size) E4 H4 (if (jumpOf e).isNone then .ready else .done) (jumpOf e) W' := by
  refine ⟨_, run_yield hrd.l rfl, roundIn_of_wpIn trivial ?_⟩
  have ha2 : AR [] E1 H1.next A2 { tmps := ((#[p0, p1].zip #[.int .i64 (i : Int), v']).foldl (fun tmps (t, a) => tmps.setIfInBounds t a) a.tmps), defers := [] } := by
    have ha' : AR [] E1 H1.next A { tmps := a.tmps, defers := [] } := by
      have := ha.mono hrd.g.ag hrd.g.le
      exact ⟨rfl, this.size, this.gl, this.tm⟩
    have e := (ha'.put (d := some p0) h0 (.same rfl)).put (d := some p1) h1 hv
    have e2 : ((#[p0, p1].zip #[.int .i64 (i : Int), v']).foldl (fun tmps (t, a) => tmps.setIfInBounds t a) a.tmps) = (a.tmps.setIfInBounds p0 (.int .i64 (i : Int))).setIfInBounds p1 v' := by simp
    rw [e2]
    exact e
  refine wpIn_mono (hD _ _ _ _ _ _ hasg nda [] (some (w.heap.size + 1)) (.inr nra) E1 _ W ha2 hrd.r n) fun x a3 W3 hp => ?_
  obtain ⟨hx, E3, ms, g3, ha3, hr3, _⟩ := hp
  subst hx
  have hrd3 := hrd.then g3 hr3
  refine ⟨_, run_beginRound hrd3.l rfl, ?_⟩
  have hrd4 : Rd E H w (recOf fn a.tmps #[p0, p1] assign body w.heap.size) E3 H3 .busy none _ := hrd3.put
  refine wpIn_mono (hD _ _ _ _ _ _ hbody ndb _ (some (w.heap.size + 1)) (.inr nrb) E3 a3 _ ha3 hrd4.r n) fun x a4 W4 hp => ?_
  obtain ⟨hx, E4, ms4, g4, ha4, hr4, _⟩ := hp
  subst hx
  have hrd5 := hrd4.then g4 hr4
  cases e with
  | normal => exact ⟨_, _, run_endRound none hrd5.l, rfl, E4, hrd5.put⟩
  | exit id => exact ⟨_, _, run_endRound (some (.exit id)) hrd5.l, rfl, E4, hrd5.put⟩
  | ret => exact ⟨_, _, run_endRound (some .ret) hrd5.l, rfl, E4, hrd5.put⟩
/-- behind the range. -/
theorem range_end {P : Program} {ps : Array Tmp} {assign body : Code} {A : AA} {fn : FuncId} {E : Env} {H : Hp} {w : World} {a : Act} (ha : AR ds E H.next A a) {E1 : Env} {H1 : Hp} {W : World} {e : Ex} {st : LoopState} (hst : st ≠ .busy)
    (hrd : Rd E H w (recOf fn a.tmps ps assign body w.heap.size) E1 H1 st (jumpOf e) W) (n : Nat) (v : Value) :
    rangePost (FF none) n P (w.heap.size + 1) (PostM ds e A H1 E H w) { a with defers := [{ target := .collected w.heap.size, args := #[] }] ++ a.defers } (.returned v) W := by
  refine ⟨_, _, run_endLoop hrd.l hst, ?_⟩
  have hrd2 : Rd E H w (recOf fn a.tmps ps assign body w.heap.size) E1 H1 .exhausted (jumpOf e) _ := hrd.put
  have key : ∀ x, x = e.out → PostM ds e A H1 E H w x { a with defers := [{ target := .collected w.heap.size, args := #[] }] ++ a.defers } (W.putObj (w.heap.size + 1) (.loop (recOf fn a.tmps ps assign body w.heap.size .exhausted (jumpOf e)))) := fun x hx => by
    refine ⟨hx, E1, [w.heap.size], hrd2.g, ?_, hrd2.r, ⟨by simp, fun D hD => ?_⟩⟩
    · have := ha.mono hrd.g.ag hrd.g.le
      exact ⟨by show _ ++ a.defers = _; rw [this.df]; rfl, this.size, this.gl, this.tm⟩
    · have : D = w.heap.size := by simpa using hD
      subst this
      exact ⟨Nat.le_refl _, hrd2.d⟩
  cases e with
  | normal => exact key _ rfl
  | exit id => exact wpIn_exit (key _ rfl)
  | ret => exact wpIn_ret (key _ rfl)
end
end Go.Proofs.YtdkfimejabanlaaDoor
namespace Go.Proofs.YtdkfimejabanlaaDoor
open Go Go.RowKit
set_option linter.unusedVariables false
set_option linter.unusedSimpArgs false
noncomputable section
variable {ds : List Deferred}
section
variable {P : Program} {o : Oper} {a : Act} {w : World}
theorem run_move {x : Operand} {v : Value} (h : o.op = .move x ∨ o.op = .assign x) (hx : a.eval x = v) : (execOp a.eval o).run P w = .ok (.value v) w := by
  rcases h with h | h <;> simp [execOp, h, hx, Sem.run, pure]
theorem run_int {op : BinOp} {t t' : TypeId} {x y : Operand} {m k : Int} {v : Value} (h : o.op = .binOp op t x y t') (hx : a.eval x = .int .i64 m) (hy : a.eval y = .int .i64 k) (hv : intBin op .i64 m k = some v) : (execOp a.eval o).run P w = .ok (.value v) w := by
  obtain ⟨h4, h5⟩ := intBin_ok (P := P) (w := w) (t := t) (k := .i64) (k' := .i64) hv (.inr rfl)
  have h1 : (eqGuard op t x y (a.eval x) (a.eval y)).run P w = .ok () w := by rw [hx, hy]; exact guard_run (by simp) (by simp)
  rw [hx, hy] at h1
  simp [execOp, h, hx, hy, h1, h4, Result.andThen]
theorem run_load {t : TypeId} {x : Operand} {p : Addr} {v : Value} (h : o.op = .load t x) (hx : a.eval x = .pointer (some p)) (hl : (loadVar t p).run P w = .ok v w) : (execOp a.eval o).run P w = .ok (.value v) w := by
  simp [execOp, h, hx, Instr.loadAt, Instr.sureAddr, hl]
theorem run_not {t : TypeId} {x : Operand} {b : Bool} (h : o.op = .unOp .not t x) (hx : a.eval x = .bool b) : (execOp a.eval o).run P w = .ok (.value (.bool (!b))) w := by
  simp [execOp, h, hx, Op.unary, Sem.run, pure, bind, Sem.bind]
theorem run_yieldcall {x : Operand} {args : Array Operand} {tys : Array TypeId} {l : Nat} {nx : Next} (h : o.op = .call ⟨.value x, args, tys⟩) (hx : a.eval x = .func (.yield l) #[] #[]) (hy : (Instr.yield l (args.map a.eval)).run P w = .ok nx w) : (execOp a.eval o).run P w = .ok nx w := by
  simp [execOp, h, resolve, Deferred.ofValue, hx, invoke, hy]
end
/-- what the closure comes to. -/
def bwQ (E : Env) (H : Hp) (w : World) (rec : LoopState → Option Code → Loop) (e : Ex) (H' : Hp) : Exit → Act → World → Prop := fun x a' W' => (x = .normal ∨ x = .ret) ∧ a'.defers = [] ∧ ∃ E2 st, st ≠ .busy ∧ Rd E H w rec E2 H' st (jumpOf e) W'
theorem range8 : List.range 8 = [0, 1, 2, 3, 4, 5, 6, 7] := rfl
section
variable {n : Nat} {P : Program} {Q : Exit → Act → World → Prop} {a : Act} {W : World} {l : Nat} {pv : Value}
/-- the test i >= 0. -/
theorem bw_test {i : Int} (hit : IT l pv a) (h3 : a.tmps[3]? = some (.int .i64 i)) {c : Code}
    (h : ∀ a', IT l pv a' → a'.tmps[3]? = some (.int .i64 i) → if 0 ≤ i then c.wpIn (FF none) n P Q a' W else Q (.exit 0) a' W) :
    (Code.seq (.seq (.region 1 bwr1 false) (.cond (.tmp 8) .skip (.exit 0))) c).wpIn (FF none) n P Q a W := by
  have h31 : (a.put (some 7) (.int .i64 i)).tmps[3]? = some (.int .i64 i) := by rw [tput_other (by omega)]; exact h3
  have hi1 := hit.put 7 (.int .i64 i) (by omega) (by omega)
  have hi2 := hi1.put 8 (.bool (Bool.not (ltF i 0))) (by omega) (by omega)
  have h32 : ((a.put (some 7) (.int .i64 i)).put (some 8) (.bool (Bool.not (ltF i 0)))).tmps[3]? = some (.int .i64 i) := by rw [tput_other (by omega)]; exact h31
  refine wpIn_seq (wpIn_seq (wpIn_region ?_))
  show wpOpsIn _ _ _ bwr1 _ [0, 1] a W
  refine opsIn_val (o := bwr1[0]) (some 7) rfl rfl rfl (by intro c hc; cases hc) (run_move (.inl rfl) (eval_tmp h3)) ?_
  refine opsIn_val (o := bwr1[1]) (some 8) rfl rfl rfl (by intro c hc; cases hc) (run_int rfl (eval_tmp (tput_same (by rw [hit.size]; omega))) rfl rfl) ?_
  refine opsIn_end ?_
  show (Code.cond (.tmp 8) .skip (.exit 0)).wpIn _ _ _ _ _ _
  refine wpIn_cond (t := Bool.not (ltF i 0)) (eval_tmp (tput_same (by rw [hi1.size]; omega))) ?_
  have h9 := h _ hi2 h32
  clear h32 hi2
  rw [ltF_eq] at h9 ⊢
  by_cases hp : 0 ≤ i
  · rw [if_pos hp] at h9
    rw [decide_eq_false (by omega)] at h9 ⊢
    exact wpIn_skip h9
  · rw [if_neg hp] at h9
    rw [decide_eq_true (by omega)] at h9 ⊢
    exact wpIn_exit h9
/-- i = i - 1. -/
theorem bw_dec {i : Nat} (hit : IT l pv a) (h3 : a.tmps[3]? = some (.int .i64 (i : Int))) (hi : i ≤ 4294967296) (h : ∀ a', IT l pv a' → a'.tmps[3]? = some (.int .i64 ((i : Int) - 1)) → Q .normal a' W) :
    (Code.region 2 bwr2 false).wpIn (FF none) n P Q a W := by
  refine wpIn_region ?_
  show wpOpsIn _ _ _ bwr2 _ [0, 1, 2] a W
  have hw : wrapF .i64 (Int.sub i 1) = (i : Int) - 1 := by
    rw [wrapF_eq]
    show IntKind.i64.wrap ((i : Int) - 1) = _
    simp [IntKind.wrap, IntKind.bits, IntKind.signed]
    omega
  have hi1 := hit.put 9 (.int .i64 (i : Int)) (by omega) (by omega)
  have hi2 := hi1.put 10 (.int .i64 (wrapF .i64 (Int.sub i 1))) (by omega) (by omega)
  have hi3 := hi2.put 3 (.int .i64 (wrapF .i64 (Int.sub i 1))) (by omega) (by omega)
  refine opsIn_val (o := bwr2[0]) (some 9) rfl rfl rfl (by intro c hc; cases hc) (run_move (.inl rfl) (eval_tmp h3)) ?_
  refine opsIn_val (o := bwr2[1]) (some 10) rfl rfl rfl (by intro c hc; cases hc) (run_int rfl (eval_tmp (tput_same (by rw [hit.size]; omega))) rfl rfl) ?_
  refine opsIn_val (o := bwr2[2]) (some 3) rfl rfl rfl (by intro c hc; cases hc) (run_move (.inr rfl) (eval_tmp (tput_same (by rw [hi1.size]; omega)))) ?_
  refine opsIn_end (h _ hi3 ?_)
  rw [← hw]
  exact tput_same (by rw [hi2.size]; omega)
end
end
end Go.Proofs.YtdkfimejabanlaaDoor
