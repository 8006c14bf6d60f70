import Derived.Test.YtanhkchpffkloaaGreatDoorEm
namespace Go.Proofs.YtanhkchpffkloaaGreatDoor
open Go
set_option linter.unusedVariables false
set_option linter.unusedSimpArgs false
noncomputable section
variable {ds : List Deferred}
theorem planOk_nil {ops : Array Oper} {listed : Array Bool} (h : planOk ops [] listed = true) : Region.ready .any ops listed = [] := by
  change (match Region.ready .any ops listed with
    | [] => true
    | _ => false) = true at h
  split at h
  · assumption
  · cases h
theorem planOk_cons {ops : Array Oper} {i : Nat} {b : Bool} {l : List (Nat × Bool)} {listed : Array Bool} (h : planOk ops ((i, b) :: l) listed = true) : planOk ops l (listed.setIfInBounds i true) = true ∧
    ((b = true ∧ (Region.ready .any ops listed).contains i = true ∧ Region.free .any ops listed i = true) ∨ (b = false ∧ Region.ready .any ops listed = [i])) := by
  change ite' b (ite' ((Region.ready .any ops listed).contains i) (ite' (Region.free .any ops listed i) (planOk ops l (listed.setIfInBounds i true)) false) false)
    (match Region.ready .any ops listed with
      | [j] => ite' (Nat.beq j i) (planOk ops l (listed.setIfInBounds i true)) false
      | _ => false) = true at h
  cases b with
  | true =>
    rw [ite'_true] at h
    obtain ⟨h1, h2⟩ := ite'_true_eq h
    obtain ⟨h3, h4⟩ := ite'_true_eq h2
    exact ⟨h4, .inl ⟨rfl, h1, h3⟩⟩
  | false =>
    rw [ite'_false] at h
    split at h
    · rename_i j hj
      obtain ⟨h1, h2⟩ := ite'_true_eq h
      have := Nat.eq_of_beq_eq_true h1
      subst this
      exact ⟨h2, .inr ⟨rfl, hj⟩⟩
    · cases h
theorem ite'_out {b : Bool} {x : Out} {n : Nat} {e : Ex} {A : AA} {H : Hp} (h : ite' b x (.bad n) = .code e A H) : b = true ∧ x = .code e A H := by
  cases b with
  | true => exact ⟨rfl, h⟩
  | false => cases h
theorem runPlan_cons (T : Cx) (ih : Cmd → Out) (ops : List Oper) (D : Nat → Bool) (id : Nat) (i : Nat) (b : Bool) (l : List (Nat × Bool)) (held : List (Nat × Nat × Value)) (A : AA) (H : Hp) : runPlan T ih ops D id ((i, b) :: l) held A H = (match ops[i]? with
    | some o => planStep T ih id o b (D i) (runPlan T ih ops D id l) held A H (wantedA ops A o)
    | none => .bad 13) := rfl
/-- the invariant of what is held. -/
def Keeps (D : Nat → Bool) (S : World → Prop) (HL : List (Addr × Value)) (listed : Array Bool) (w : World) : Prop := NoD D listed → (∀ w2, SS HL w2 → S w2) ∧ SS HL w
theorem noD_set {D : Nat → Bool} {listed : Array Bool} {i : Nat} (h : NoD D (listed.setIfInBounds i true)) : NoD D listed := fun d hd => by
  have h1 := h d hd
  cases hl : listed.getD d false with
  | false => rfl
  | true => rw [getD_set_true hl] at h1; cases h1
theorem ready_in {ops : Array Oper} {listed : Array Bool} {i : Nat} (hsz : listed.size = ops.size) (hr : i ∈ Region.ready .any ops listed) : (listed.setIfInBounds i true).getD i false = true := by
  obtain ⟨hiun, o, ho, _⟩ := mem_ready.1 hr
  have h1 : i < listed.size := by rw [hsz]; exact (Array.getElem?_eq_some_iff.1 ho).1
  simp [h1]
/-- an operation that is taken first. -/
theorem take_ok {P : Program} {ops : Array Oper} {e : Ex} {A' : AA} {H' H0 : Hp} {E0 : Env} {w0 : World} {S S1 : World → Prop} {D : Nat → Bool} {i fuel : Nat} {o : Oper} {listed : Array Bool} {a : Act} {w : World} {v : Value} (ho : ops[i]? = some o) (hns : Region.noSelect ops = true)
    (hf : Region.free .any ops listed i = true) (hrd : (Region.ready .any ops listed).contains i = true) (hDi : D i = false) (hcl : ClosedL ops listed)
    (hD : (∀ w, S1 w) ∨ ((∀ w, S w → S1 w) ∧ ∀ j, D j = true → (ops[j]?).isSome = true ∧ ∃ n, reachB ops i n j = true)) (hy : YieldsIf P ops S1 o v a) (hS : NoD D listed → S w)
    (h : wpD P ops (Post ds e A' H' E0 H0 w0) D S fuel (listed.setIfInBounds i true) (a.put o.dst v) w) : wpD P ops (Post ds e A' H' E0 H0 w0) D S (fuel + 1) listed a w :=
  wpD_take ho hns (Act.put_panic) hDi hD fuel listed a w hcl (Region.free_spec ho hf) (by simpa using hrd) hy hS h
theorem held_ok {T : Cx} {ops : Array Oper} {D : Nat → Bool} {l : List (Nat × Bool)} {listed : Array Bool} {i : Nat} {o : Oper} (hpa : pureAt T ops i = false) (hd : ∀ k, (k, true) ∈ (i, true) :: l → ∀ j, D j = true → k ≠ j ∧ (ops[j]?).isSome = true ∧ (pureAt T ops k = false → ∃ n, reachB ops k n j = true))
    (hcl : ClosedL ops listed) (hsz : listed.size = ops.size) (hmem : i ∈ Region.ready .any ops listed) (hoi : ops[i]? = some o) : (∀ j, D j = true → (ops[j]?).isSome = true ∧ ∃ n, reachB ops i n j = true) ∧ NoD D listed := by
  have hDr : ∀ j, D j = true → (ops[j]?).isSome = true ∧ ∃ n, reachB ops i n j = true := fun j hj => by
    obtain ⟨_, h2, h3⟩ := hd i (List.mem_cons_self ..) j hj
    exact ⟨h2, h3 hpa⟩
  refine ⟨hDr, fun d hd0 => ?_⟩
  cases hl : listed.getD d false with
  | false => rfl
  | true =>
    obtain ⟨h3, n0, h4⟩ := hDr d hd0
    obtain ⟨o2, ho2⟩ := Option.isSome_iff_exists.1 h3
    have := reach_listed hcl n0 d o2 ho2 (hcl d o2 ho2 hl) h4
    obtain ⟨hiun, _⟩ := mem_ready.1 hmem
    have hil : i < listed.size := by rw [hsz]; exact (Array.getElem?_eq_some_iff.1 hoi).1
    simp [hil] at hiun this
    rw [this] at hiun; cases hiun
theorem runPlan_ok {P : Program} {T : Cx} (hT : Fits P T) {ih : Cmd → Out} (hih : CallsOk P T ih) {ops : Array Oper} (hns : Region.noSelect ops = true) {id : Nat} {A' : AA} {H' H0 : Hp} {e : Ex} {E0 : Env} {w0 : World} {D : Nat → Bool} :
    ∀ (l : List (Nat × Bool)) (listed : Array Bool) (fuel : Nat) (held : List (Nat × Nat × Value)) (HL : List (Addr × Value)) (S : World → Prop) (A : AA) (H : Hp) (E : Env) (a : Act) (w : World), (∀ i, (i, true) ∈ l → ∀ j, D j = true → i ≠ j ∧ (ops[j]?).isSome = true ∧ (pureAt T ops i = false → ∃ n, reachB ops i n j = true)) →
      listed.size = ops.size → ClosedL ops listed → planOk ops l listed = true → l.length ≤ fuel → runPlan T ih ops.toList D id l held A H = .code e A' H' →
      AR ds E H.next A a → HRel E H w → HeldR E H.next held HL → Keeps D S HL listed w → Gd E0 E H0 H w0 w → wpD P ops (Post ds e A' H' E0 H0 w0) D S fuel listed a w
  | [], listed, fuel, held, HL, S, A, H, E, a, w, hd, hsz, hcl, hp, hf, h, ha, hr, hh, hs, g => by
    change Out.code .normal A H = .code e A' H' at h
    cases h
    exact wpD_done (planOk_nil hp) ⟨rfl, E, g, ha, hr⟩ fuel
  | (i, b) :: l, listed, 0, held, HL, S, A, H, E, a, w, hd, hsz, hcl, hp, hf, h, ha, hr, hh, hs, g => by simp at hf
  | (i, b) :: l, listed, fuel + 1, held, HL, S, A, H, E, a, w, hd, hsz, hcl, hp, hf, h, ha, hr, hh, hs, g => by
    obtain ⟨hp1, hcase⟩ := planOk_cons hp
    have hf1 : l.length ≤ fuel := by simp at hf; exact hf
    have hd1 : ∀ i, (i, true) ∈ l → ∀ j, D j = true → i ≠ j ∧ (ops[j]?).isSome = true ∧ (pureAt T ops i = false → ∃ n, reachB ops i n j = true) := fun k hk => hd k (List.mem_cons_of_mem _ hk)
    have hsz1 : (listed.setIfInBounds i true).size = ops.size := by simpa using hsz
    have hmem : i ∈ Region.ready .any ops listed := by
      rcases hcase with ⟨_, hrd, _⟩ | ⟨_, hrd⟩
      · simpa using hrd
      · rw [hrd]; exact List.mem_singleton_self _
    have hcl1 := closed_step hcl hmem
    have hs1 : Keeps D S HL (listed.setIfInBounds i true) w := fun hn => hs (noD_set hn)
    rw [runPlan_cons] at h
    split at h
    · rename_i o ho
      have hoi : ops[i]? = some o := by rw [← Array.getElem?_toList]; exact ho
      have hDi : b = true → D i = false := fun hb => by
        subst hb
        cases hD : D i with
        | false => rfl
        | true => exact absurd rfl (hd i (List.mem_cons_self ..) i hD).1
      unfold planStep at h
      split at h
      · -- wanted
        rename_i hw
        have hwant := wantedA_ok ha hw
        rcases hcase with ⟨rfl, hrd, hfree⟩ | ⟨rfl, hrd⟩
        · rw [ite'_true] at h
          rw [takeStep_def] at h
          cases hpu : isPure o.op with
          | true =>
            rw [hpu, ite'_true] at h
            rw [takePut_def] at h
            split at h
            · rename_i r hop
              obtain ⟨v, H1⟩ := r
              obtain ⟨A1, hput, hrest⟩ := put1_ok h
              obtain ⟨v', e1, hv, hrun⟩ := opD_pure hT hpu A H v H1 hop E a ha
              have e1' : H1 = H := e1
              subst e1'
              exact take_ok (S1 := fun _ => True) hoi hns hfree hrd (hDi rfl) hcl (.inl fun _ => trivial) (.inl ⟨hwant, fun w2 _ => hrun w2⟩) (fun hn => (hs hn).1 _ (hs hn).2)
                (runPlan_ok hT hih hns l _ fuel held HL S A1 H1 E _ w hd1 hsz1 hcl1 hp1 hf1 hrest (ha.put hput hv) hr hh hs1 g)
            · unfold takeMem at h
              split at h
              · rename_i c hc
                obtain ⟨sT, dT, x⟩ := c
                have hop : o.op = .convert sT dT x := by
                  unfold convOf at hc
                  split at hc
                  · cases hc; assumption
                  · cases hc
                simp only at h
                unfold takeConv at h
                split at h
                · rename_i p n c0 hx
                  split at h
                  · rename_i cl hcl2
                    obtain ⟨hb, h⟩ := ite'_out h
                    split at h
                    · rename_i v hv
                      obtain ⟨A1, hput, hrest⟩ := put1_ok h
                      have hpa : pureAt T ops i = false := by
                        unfold pureAt; rw [hoi]
                        show ite' (isPure o.op) (convB T (convOf o.op)) false = false
                        rw [hpu, ite'_true, hc]
                        show Bool.not (b2s T sT dT) = false
                        rw [hb]; rfl
                      obtain ⟨hDr, hNo⟩ := held_ok hpa hd hcl hsz hmem hoi
                      obtain ⟨e0, q1, q2, q3⟩ := b2s_ok hT hb
                      obtain ⟨_, hpb, c', e2, _⟩ := (ev_ok ha hx).sl
                      obtain ⟨hcn, l', r1, hcw⟩ := hr.cells hcl2
                      have hcw2 : ∀ i u, l'[i]? = some u → w.cell? ⟨E.s p.block, p.off + i, none⟩ = some u := fun i u hu => by
                        rw [hcw i (by have := (List.getElem?_eq_some_iff.1 hu).1; rw [← r1.length, hcn] at this; exact this)]; exact hu
                      obtain ⟨HL2, hh2, hiff⟩ := heldOf_ok (E := E) hpb hh p.off r1
                      have hs2 : SS HL2 w := (hiff w).2 ⟨hcw2, (hs hNo).2⟩
                      have hto : ∀ w2, SS HL2 w2 → S w2 := fun w2 hw2 => (hs hNo).1 w2 ((hiff w2).1 hw2).2
                      have hpl := (textOf_run (P := P) (b := E.s p.block) (off := p.off) (c := c') q1 q2 q3 hv r1 hcn (w := w) hcw2).2
                      refine wpD_mono (S' := SS HL2) hto _ _ _ _ ?_
                      refine take_ok (S1 := SS HL2) (v := v) hoi hns hfree hrd (hDi rfl) hcl (.inr ⟨fun _ h => h, hDr⟩) (.inl ⟨hwant, fun w2 hw2 => ?_⟩) (fun _ => hs2)
                        (runPlan_ok hT hih hns l _ fuel _ HL2 (SS HL2) A1 _ E _ w hd1 hsz1 hcl1 hp1 hf1 hrest (ha.put hput (.same hpl)) hr hh2 (fun _ => ⟨fun _ h => h, hs2⟩) g)
                      have := (textOf_run (P := P) (b := E.s p.block) (off := p.off) (c := c') q1 q2 q3 hv r1 hcn (w := w2) ((hiff w2).1 hw2).1).1
                      simp [execOp, hop, e2, this]
                    · cases h
                  · cases h
                · rename_i l0 c0 hx
                  obtain ⟨hb, h⟩ := ite'_out h
                  obtain ⟨A1, hput, hrest⟩ := put1_ok h
                  obtain ⟨e0, q1, q2, q3⟩ := b2s_ok hT hb
                  obtain ⟨_, _, e2⟩ := (ev_ok ha hx).snil
                  refine take_ok (S1 := fun _ => True) (v := .string ByteArray.empty) hoi hns hfree hrd (hDi rfl) hcl (.inl fun _ => trivial) (.inl ⟨hwant, fun w2 _ => ?_⟩) (fun hn => (hs hn).1 _ (hs hn).2)
                    (runPlan_ok hT hih hns l _ fuel held HL S A1 H E _ w hd1 hsz1 hcl1 hp1 hf1 hrest (ha.put hput (.same rfl)) hr hh hs1 g)
                  have := run_convert_bytes_nil (P := P) w2 sT e0 q1 q2 0 0 dT q3
                  simp [execOp, hop, e2, this]
                · cases h
              · cases h
          | false =>
            rw [hpu, ite'_false] at h
            have hpa : pureAt T ops i = false := by
              unfold pureAt; rw [hoi]
              show ite' (isPure o.op) (convB T (convOf o.op)) false = false
              rw [hpu]
            obtain ⟨hDr, hNo⟩ := held_ok hpa hd hcl hsz hmem hoi
            split at h
            · rename_i t x hop
              unfold takeLoad at h
              split at h
              · rename_i p hx
                split at h
                · rename_i n hn
                  split at h
                  · rename_i cl hcl2
                    rw [takePut_def] at h
                    split at h
                    · rename_i r hopd
                      obtain ⟨v, H1⟩ := r
                      obtain ⟨A1, hput, hrest⟩ := put1_ok h
                      rw [hop] at hopd
                      change o_load t x T A H = some (v, H1) at hopd
                      unfold o_load at hopd
                      rw [hx] at hopd
                      simp only at hopd
                      split at hopd
                      · rename_i u hu
                        cases hopd
                        obtain ⟨_, hpb, e2⟩ := (ev_ok ha hx).pptr
                        obtain ⟨l', v', r1, r2, hl', hcw, hrun⟩ := load_held (P := P) hT hr hu hn hcl2
                        obtain ⟨HL2, hh2, hiff⟩ := heldOf_ok (E := E) hpb hh p.off r1
                        have hs2 : SS HL2 w := (hiff w).2 ⟨hcw, (hs hNo).2⟩
                        have hto : ∀ w2, SS HL2 w2 → S w2 := fun w2 hw2 => (hs hNo).1 w2 ((hiff w2).1 hw2).2
                        refine wpD_mono (S' := SS HL2) hto _ _ _ _ ?_
                        refine take_ok (S1 := SS HL2) (v := v') hoi hns hfree hrd (hDi rfl) hcl (.inr ⟨fun _ h => h, hDr⟩) (.inl ⟨hwant, fun w2 hw2 => ?_⟩) (fun _ => hs2)
                          (runPlan_ok hT hih hns l _ fuel _ HL2 (SS HL2) A1 _ E _ w hd1 hsz1 hcl1 hp1 hf1 hrest (ha.put hput r2) hr hh2 (fun _ => ⟨fun _ h => h, hs2⟩) g)
                        have := hrun w2 ((hiff w2).1 hw2).1
                        simp [execOp, hop, e2, Instr.loadAt, Instr.sureAddr, this]
                      · cases hopd
                    · cases h
                  · cases h
                · cases h
              · cases h
            · cases h
        · rw [ite'_false] at h
          refine wpD_one hrd ?_
          unfold wpOp
          simp only [hoi, hwant, if_true]
          refine .inl (doOp_ok hT hih h ha hr (fun E1 A1 H1 a1 w1 hrest g1 ha1 hr1 => ?_))
          simp only at hrest
          cases hk : heldOk H1 held with
          | false =>
            rw [hk, ite'_false] at hrest
            obtain ⟨hDt, hrest⟩ := ite'_out hrest
            have hup : ¬ NoD D (listed.setIfInBounds i true) := fun hn => by
              have h1 := hn i hDt
              rw [ready_in hsz hmem] at h1; cases h1
            exact ⟨fun hn => absurd hn hup, runPlan_ok hT hih hns l _ fuel [] [] S A1 H1 E1 a1 w1 hd1 hsz1 hcl1 hp1 hf1 hrest ha1 hr1 .nil (fun hn => absurd hn hup) (g.trans g1)⟩
          | true =>
            rw [hk, ite'_true] at hrest
            have hh1 := hh.mono g1.ag g1.le
            have hs2 := heldOk_ok hr1 hh1 hk
            exact ⟨fun hn => (hs (noD_set hn)).1 _ hs2, runPlan_ok hT hih hns l _ fuel held HL S A1 H1 E1 a1 w1 hd1 hsz1 hcl1 hp1 hf1 hrest ha1 hr1 hh1 (fun hn => ⟨(hs (noD_set hn)).1, hs2⟩) (g.trans g1)⟩
      · -- not wanted
        rename_i hw
        have hwant := wantedA_ok ha hw
        obtain ⟨A1, hput, hrest⟩ := put1_ok h
        have hnext := runPlan_ok hT hih hns l (listed.setIfInBounds i true) fuel held HL S A1 H E _ w hd1 hsz1 hcl1 hp1 hf1 hrest (ha.put hput VR.undef) hr hh hs1 g
        rcases hcase with ⟨rfl, hrd, hfree⟩ | ⟨rfl, hrd⟩
        · exact take_ok (S1 := fun _ => True) hoi hns hfree hrd (hDi rfl) hcl (.inl fun _ => trivial) (.inr ⟨hwant, rfl⟩) (fun hn => (hs hn).1 _ (hs hn).2) hnext
        · refine wpD_one hrd ?_
          unfold wpOp
          simp only [hoi, hwant]
          exact ⟨fun hn => (hs1 hn).1 _ (hs1 hn).2, hnext⟩
      · cases h
    · cases h
/-- a region that asks for an order. -/
def drawRun (T : Cx) (ih : Cmd → Out) (ops : Array Oper) (id : Nat) (A : AA) (H : Hp) : Out := match planGen ops ops.size (Array.replicate ops.size false) with
  | some l => ite' (ite' (planOk ops l (Array.replicate ops.size false)) (ite' (Region.noSelect ops) (Nat.ble l.length ops.size) false) false) (runPlan T ih ops.toList (dOf T ops l) id l [] A H) (.bad 17)
  | none => .bad (2000 + id)
theorem draw_ok {P : Program} {T : Cx} (hT : Fits P T) (hm : P.follows .mixedOrders = true) {ih : Cmd → Out} (hih : CallsOk P T ih) {ops : Array Oper} {id : Nat} {A A' : AA} {H H' : Hp} {e : Ex} (h : drawRun T ih ops id A H = .code e A' H') {E : Env} {a : Act} {w : World} (ha : AR ds E H.next A a) (hr : HRel E H w) :
    (Code.region id ops true).wp P (Post ds e A' H' E H w) a w := by
  unfold drawRun at h
  split at h
  · rename_i l hl
    obtain ⟨h1, h2⟩ := ite'_out h
    obtain ⟨h3, h4⟩ := ite'_true_eq h1
    obtain ⟨h5, h6⟩ := ite'_true_eq h4
    have hr1 : HRel E H { w with drawn := w.drawn + 1 } := hr.heap rfl
    have g1 : Gd E E H H w { w with drawn := w.drawn + 1 } := ⟨Nat.le_refl _, Agree.refl _ _, fun b x hx => .inl ⟨b, x, hx, fun h => h, rfl⟩, rfl, rfl, rfl, Nat.le_refl _, fun _ _ _ => rfl⟩
    exact wp_region_any hm (wpD_any _ _ _ _ (runPlan_ok hT hih h5 l _ _ [] [] (SS []) A H E a _ (fun i hi j hj => dOf_ok hj hi) (by simp) (closed_start _ _) h3 (Nat.le_of_ble_eq_true h6) h2 ha hr1 .nil (fun _ => ⟨fun _ h => h, fun q hq => by cases hq⟩) g1))
  · cases h
end
end Go.Proofs.YtanhkchpffkloaaGreatDoor
