import Derived.Test.YtanhkchpffkloaaGreatDoorEnw
namespace Go.Proofs.YtanhkchpffkloaaGreatDoor
open Go
set_option linter.unusedVariables false
set_option linter.unusedSimpArgs false
noncomputable section
variable {ds : List Deferred}
/-! ### an operation in its turn: what its temporary turns into is told, too -/
def Cont2 (ds : List Deferred) (o : Oper) (E : Env) (A : AA) (a : Act) (H : Hp) (w : World) (rest : Rest) (e : Ex) (A' : AA) (H' : Hp) (K : Act → World → Prop) : Prop :=
  ∀ E1 A1 H1 v v' w1, rest A1 H1 = .code e A' H' → putA A o.dst v = some A1 → Gd E E1 H H1 w w1 → AR ds E1 H1.next A1 (a.put o.dst v') → HRel E1 H1 w1 → K (a.put o.dst v') w1
theorem doOp_ok2 {P : Program} {T : Cx} (hT : Fits P T) {ih : Cmd → Out} (hih : CallsOk P T ih) {id : Nat} {o : Oper} {rest : Rest} {A A' : AA} {H H' : Hp} {e : Ex} (h : doOp T ih id o rest A H = .code e A' H') {E : Env} {a : Act} {w : World} (ha : AR ds E H.next A a) (hr : HRel E H w)
    {K : Act → World → Prop} {Q : Exit → Act → World → Prop} (hK : Cont2 ds o E A a H w rest e A' H' K) : o.wp P a w K Q := by
  unfold doOp at h
  cases hk : kdOf o.op with
  | plain =>
    rw [hk] at h
    change doPlain T id o rest A H = .code e A' H' at h
    rw [doPlain_def] at h
    split at h
    · rename_i r hop
      obtain ⟨v, H1⟩ := r
      obtain ⟨A1, hp, hrest⟩ := put1_ok h
      obtain ⟨E1, v', w1, n, h1, h2, h3, h4, h5⟩ := opF_ok hT A H v H1 hop E a w ha hr
      have ha1 := (ha.mono h3.ag h3.le).put hp h4
      unfold Oper.wp
      rw [h1]
      rcases h2 with rfl | ⟨rfl, rfl⟩
      · exact hK E1 A1 H1 _ _ _ hrest hp h3 ha1 h5
      · exact hK E1 A1 H1 _ _ _ hrest hp h3 ha1 h5
    · cases h
  | call f args =>
    rw [hk] at h
    change doCall T ih o rest A H (ev A f) (evL A args) = .code e A' H' at h
    unfold doCall at h
    split at h
    · rename_i fid x1 x2 hf
      split at h
      · rename_i vs hvs
        obtain ⟨hg, h⟩ : Nat.beq A.g T.g = true ∧ doCall2 o rest A (ih (.call fid (addCap (addFirst x1.toList vs) x2.toList) H)) = .code e A' H' := by
          cases hb : Nat.beq A.g T.g with
          | true => rw [hb] at h; exact ⟨rfl, h⟩
          | false => rw [hb] at h; cases h
        have hg2 := Nat.eq_of_beq_eq_true hg
        unfold doCall2 at h
        split at h
        · rename_i v H1 hcall
          obtain ⟨A1, hp, hrest⟩ := put1_ok h
          obtain ⟨⟨fn, q1, q2, q3⟩, hc⟩ := hih fid _ H v H1 hcall
          obtain ⟨tys, ho⟩ := kdOf_call hk
          obtain ⟨l', m', e3, r1, r2⟩ := (ev_ok ha hf).fn
          have hvl := addCap_vl r2 (addFirst_vl r1 (evL_ok ha hvs))
          have hC := hc E _ w hvl hr (fun g hgg => ha.gl g (by rw [hg2]; exact hgg))
          unfold Oper.wp
          have hrun : (execOp a.eval o).run P w = .ok (.enter fid ((l' ++ args.map a.eval) ++ m').toArray) w := by
            simp [execOp, ho, resolve, Deferred.ofValue, e3, invoke, call_run q1 q2 q3]
          rw [hrun, Oper.upon_enter]
          refine hC.mono fun en w1 hh => ?_
          obtain ⟨E1, v', rfl, g1, g2, g3⟩ := hh
          exact hK E1 A1 H1 _ _ _ hrest hp g1 ((ha.mono g1.ag g1.le).put hp g2) g3
        · cases h
        · cases h
      · cases h
    · cases h
/-! ### an operation that is taken first -/
theorem tk_ok {P : Program} {T : Cx} (hT : Fits P T) {ops : Array Oper} (hns : Region.noSelect ops = true) {id : Nat} {A' : AA} {H' : Hp} {e : Ex} {D : Nat → Bool} {Q : Exit → Act → World → Prop} (hQ : ∀ c a w d v, Q (.panic c) (a.put d v) w → Q (.panic c) a w) {x : OI} (hx : IsOI ops x) {rest : Rest2} {held : List (Nat × Nat × Value)} {HL : List (Addr × Value)} {S : World → Prop} {A : AA} {H : Hp} {E : Env} {a : Act} {w : World} {M : Nat → Prop} {listed : Array Bool} {g m0 : Nat}
    (h : tkStep T id x.o rest held A H (wantedA ops.toList A x.o) = .code e A' H') (hl : LM ops M listed) (hcl : ClosedL ops listed) (hm : ∀ k, m0.testBit k = true → M k) (hp : subM x.pm m0 = true) (hf : freeM (infos ops) m0 x = true) (hn : ¬ M x.i)
    (hd : ∀ j, D j = true → x.i ≠ j ∧ (ops[j]?).isSome = true ∧ (pureAt T ops x.i = false → ∃ n, reachB ops x.i n j = true)) (ha : AR ds E H.next A a) (hr : HRel E H w) (hh : HeldR E H.next held HL) (hs : Keeps D S HL listed w)
    (hK : ∀ held2 HL2 S2 A1 v v', rest held2 A1 H = .code e A' H' → putA A x.o.dst v = some A1 → AR ds E H.next A1 (a.put x.o.dst v') → HeldR E H.next held2 HL2 → Keeps D S2 HL2 (listed.setIfInBounds x.i true) w → wpD P ops Q D S2 g (listed.setIfInBounds x.i true) (a.put x.o.dst v') w) :
    wpD P ops Q D S (g + 1) listed a w := by
  have hrd := oi_ready hl hx hn fun k hk => hm k (subM_ok hp hk)
  have hDi : D x.i = false := by
    cases hD : D x.i with
    | false => rfl
    | true => exact absurd rfl (hd _ hD).1
  have hs1 : Keeps D S HL (listed.setIfInBounds x.i true) w := fun hn => hs (noD_set hn)
  have take : ∀ {S S1 : World → Prop} {v : Value}, ((∀ w, S1 w) ∨ ((∀ w, S w → S1 w) ∧ ∀ j, D j = true → (ops[j]?).isSome = true ∧ ∃ n, reachB ops x.i n j = true)) → YieldsIf P ops S1 x.o v a → (NoD D listed → S w) → wpD P ops Q D S g (listed.setIfInBounds x.i true) (a.put x.o.dst v) w → wpD P ops Q D S (g + 1) listed a w := fun h1 h2 h3 h4 =>
    take_oi hx hns (fun c a w v => hQ c a w _ v) hDi h1 hl hcl hm hp hf hn h2 h3 h4
  have hNo : pureAt T ops x.i = false → (∀ j, D j = true → (ops[j]?).isSome = true ∧ ∃ n, reachB ops x.i n j = true) ∧ NoD D listed := fun hpa => by
    have hDr : ∀ j, D j = true → (ops[j]?).isSome = true ∧ ∃ n, reachB ops x.i n j = true := fun j hj => by
      obtain ⟨_, h2, h3⟩ := hd j hj
      exact ⟨h2, h3 hpa⟩
    refine ⟨hDr, fun d hd0 => ?_⟩
    cases hlb : listed.getD d false with
    | false => rfl
    | true =>
      obtain ⟨h3, n0, h4⟩ := hDr d hd0
      obtain ⟨o2, ho2⟩ := Option.isSome_iff_exists.1 h3
      have := reach_listed hcl n0 d o2 ho2 (hcl d o2 ho2 hlb) h4
      exact absurd ((hl.at_ _).1 this) hn
  rw [tkStep_def] at h
  split at h
  · rename_i hw
    have hwant := wantedA_ok ha hw
    rw [takeStep_def] at h
    cases hpu : isPure x.o.op with
    | true =>
      rw [hpu, ite'_true] at h
      rw [takePut_def] at h
      split at h
      · rename_i r hop
        obtain ⟨v, H1⟩ := r
        obtain ⟨A1, hput, hrest⟩ := put1_ok h
        obtain ⟨v', e1, hv, hrun⟩ := opD_pure hT hpu A H v H1 hop E a ha
        have e1' : H1 = H := e1
        subst e1'
        exact take (S1 := fun _ => True) (.inl fun _ => trivial) (.inl ⟨hwant, fun w2 _ => hrun w2⟩) (fun hn => (hs hn).1 _ (hs hn).2) (hK held HL S A1 v v' hrest hput (ha.put hput hv) hh hs1)
      · unfold takeMem at h
        split at h
        · rename_i c hc
          obtain ⟨sT, dT, y⟩ := c
          have hop : x.o.op = .convert sT dT y := by
            unfold convOf at hc
            split at hc
            · cases hc; assumption
            · cases hc
          simp only at h
          unfold takeConv at h
          split at h
          · rename_i p n c0 hxx
            split at h
            · rename_i cl hcl2
              obtain ⟨hb, h⟩ := ite'_out h
              split at h
              · rename_i v hv
                obtain ⟨A1, hput, hrest⟩ := put1_ok h
                have hpa : pureAt T ops x.i = false := by
                  unfold pureAt; rw [hx.1]
                  show ite' (isPure x.o.op) (convB T (convOf x.o.op)) false = false
                  rw [hpu, ite'_true, hc]
                  show Bool.not (b2s T sT dT) = false
                  rw [hb]; rfl
                obtain ⟨hDr, hNoD⟩ := hNo hpa
                obtain ⟨e0, q1, q2, q3⟩ := b2s_ok hT hb
                obtain ⟨_, hpb, c', e2, _⟩ := (ev_ok ha hxx).sl
                obtain ⟨hcn, l', r1, hcw⟩ := hr.cells hcl2
                have hcw2 : ∀ i u, l'[i]? = some u → w.cell? ⟨E.s p.block, p.off + i, none⟩ = some u := fun i u hu => by
                  rw [hcw i (by have := (List.getElem?_eq_some_iff.1 hu).1; rw [← r1.length, hcn] at this; exact this)]; exact hu
                obtain ⟨HL2, hh2, hiff⟩ := heldOf_ok (E := E) hpb hh p.off r1
                have hs2 : SS HL2 w := (hiff w).2 ⟨hcw2, (hs hNoD).2⟩
                have hto : ∀ w2, SS HL2 w2 → S w2 := fun w2 hw2 => (hs hNoD).1 w2 ((hiff w2).1 hw2).2
                have hpl := (textOf_run (P := P) (b := E.s p.block) (off := p.off) (c := c') q1 q2 q3 hv r1 hcn (w := w) hcw2).2
                refine wpD_mono (S' := SS HL2) hto _ _ _ _ ?_
                refine take (S1 := SS HL2) (v := v) (.inr ⟨fun _ h => h, hDr⟩) (.inl ⟨hwant, fun w2 hw2 => ?_⟩) (fun _ => hs2) (hK _ HL2 (SS HL2) A1 v v hrest hput (ha.put hput (.same hpl)) hh2 (fun _ => ⟨fun _ h => h, hs2⟩))
                have := (textOf_run (P := P) (b := E.s p.block) (off := p.off) (c := c') q1 q2 q3 hv r1 hcn (w := w2) ((hiff w2).1 hw2).1).1
                simp [execOp, hop, e2, this]
              · cases h
            · cases h
          · rename_i l0 c0 hxx
            obtain ⟨hb, h⟩ := ite'_out h
            obtain ⟨A1, hput, hrest⟩ := put1_ok h
            obtain ⟨e0, q1, q2, q3⟩ := b2s_ok hT hb
            obtain ⟨_, _, e2⟩ := (ev_ok ha hxx).snil
            refine take (S1 := fun _ => True) (v := .string ByteArray.empty) (.inl fun _ => trivial) (.inl ⟨hwant, fun w2 _ => ?_⟩) (fun hn => (hs hn).1 _ (hs hn).2) (hK held HL S A1 _ _ hrest hput (ha.put hput (.same rfl)) hh hs1)
            have := run_convert_bytes_nil (P := P) w2 sT e0 q1 q2 0 0 dT q3
            simp [execOp, hop, e2, this]
          · cases h
        · cases h
    | false =>
      rw [hpu, ite'_false] at h
      have hpa : pureAt T ops x.i = false := by
        unfold pureAt; rw [hx.1]
        show ite' (isPure x.o.op) (convB T (convOf x.o.op)) false = false
        rw [hpu]
      obtain ⟨hDr, hNoD⟩ := hNo hpa
      split at h
      · rename_i t y hop
        unfold takeLoad at h
        split at h
        · rename_i p hxx
          split at h
          · rename_i n hnn
            split at h
            · rename_i cl hcl2
              rw [takePut_def] at h
              split at h
              · rename_i r hopd
                obtain ⟨v, H1⟩ := r
                obtain ⟨A1, hput, hrest⟩ := put1_ok h
                rw [hop] at hopd
                change o_load t y T A H = some (v, H1) at hopd
                unfold o_load at hopd
                rw [hxx] at hopd
                simp only at hopd
                split at hopd
                · rename_i u hu
                  cases hopd
                  obtain ⟨_, hpb, e2⟩ := (ev_ok ha hxx).pptr
                  obtain ⟨l', v', r1, r2, hl', hcw, hrun⟩ := load_held (P := P) hT hr hu hnn hcl2
                  obtain ⟨HL2, hh2, hiff⟩ := heldOf_ok (E := E) hpb hh p.off r1
                  have hs2 : SS HL2 w := (hiff w).2 ⟨hcw, (hs hNoD).2⟩
                  have hto : ∀ w2, SS HL2 w2 → S w2 := fun w2 hw2 => (hs hNoD).1 w2 ((hiff w2).1 hw2).2
                  refine wpD_mono (S' := SS HL2) hto _ _ _ _ ?_
                  refine take (S1 := SS HL2) (v := v') (.inr ⟨fun _ h => h, hDr⟩) (.inl ⟨hwant, fun w2 hw2 => ?_⟩) (fun _ => hs2) (hK _ HL2 (SS HL2) A1 _ v' hrest hput (ha.put hput r2) hh2 (fun _ => ⟨fun _ h => h, hs2⟩))
                  have := hrun w2 ((hiff w2).1 hw2).1
                  simp [execOp, hop, e2, Instr.loadAt, Instr.sureAddr, this]
                · cases hopd
              · cases h
            · cases h
          · cases h
        · cases h
      · cases h
  · rename_i hw
    have hwant := wantedA_ok ha hw
    obtain ⟨A1, hput, hrest⟩ := put1_ok h
    exact take (S1 := fun _ => True) (.inl fun _ => trivial) (.inr ⟨hwant, rfl⟩) (fun hn => (hs hn).1 _ (hs hn).2) (hK held HL S A1 _ _ hrest hput (ha.put hput VR.undef) hh hs1)
  · cases h
/-! ### what came up early is claimed -/
theorem runK_early {P : Program} {T : Cx} (hT : Fits P T) {ops : Array Oper} {D : Nat → Bool} {m : Nat} {E : Env} {H : Hp} {a : Act} (w : World) {r : AA × Hp} : ∀ (ks pre : List OI) (A : AA), CVk ops D m pre ks → runK T ops.toList ks A H = some r → AR ds E H.next A a → (∀ x ∈ ks, KF P ops x a) → AR ds E H.next r.1 a ∧ r.2 = H
  | [], pre, A, hcv, h, ha, hk => by
    cases h; exact ⟨ha, rfl⟩
  | x :: ks, pre, A, hcv, h, ha, hk => by
    rw [runK_cons] at h
    obtain ⟨v, v', A1, hy, hv, hp, hrest⟩ := runK1_ok (P := P) hT h hcv.1.pu ha
    obtain ⟨d, u, h1, h2, h3⟩ := hk x (List.mem_cons_self ..)
    have e : v' = u := by
      rcases hy with ⟨w1, y1⟩ | ⟨w1, y1⟩ <;> rcases h3 with ⟨w2, y2⟩ | ⟨w2, y2⟩
      · have e1 := y1 w trivial
        rw [y2 w trivial] at e1
        cases e1; rfl
      · rw [w1] at w2; cases w2
      · rw [w1] at w2; cases w2
      · rw [y1, y2]
    subst e
    have ha1 := ha.put hp hv
    rw [h1, put_same h2] at ha1
    exact runK_early hT w ks _ A1 hcv.2 hrest ha1 fun y hy => hk y (List.mem_cons_of_mem _ hy)
theorem alloc_inj {w : World} {o o2 : Obj} (h : w.alloc o = w.alloc o2) : o = o2 := by
  have h1 : (w.alloc o).heap = (w.alloc o2).heap := by rw [h]
  have h2 : w.heap.push o = w.heap.push o2 := h1
  have h3 : (w.heap.push o)[w.heap.size]? = (w.heap.push o2)[w.heap.size]? := by rw [h2]
  simpa using h3
theorem close_early {P : Program} {T : Cx} (hT : Fits P T) {ops : Array Oper} {D : Nat → Bool} {m : Nat} {c : Clu} {mo : Mo} {E : Env} {A : AA} {H : Hp} {a : Act} {w : World} {r : AA × Hp} (h : closeC T ops.toList A H c = some r) (hcv : CV ops D m c) (ha : AR ds E H.next A a) (hr : HRel E H w) (hcf : CF P ops c mo a w) (hup : mo.up = true) (hun : ∀ s, mo = .at s → ∀ b x, H.b.get b = some x → E.s b ≠ s) :
    ∃ E2, Agree E E2 H.next ∧ H.next ≤ r.2.next ∧ AR ds E2 r.2.next r.1 a ∧ HRel E2 r.2 w ∧ ∀ b x, r.2.b.get b = some x → (H.b.get b = some x ∧ E2.s b = E.s b) ∨ mo = .at (E2.s b) := by
  obtain ⟨hz, hks⟩ := hcf
  have hks2 : ∀ x ∈ c.ks, KF P ops x a := hks hup
  unfold closeC at h
  split at h
  · rename_i hw
    have hwant := wantedA_ok ha hw
    split at h
    · rename_i k hk
      cases mo with
      | late => cases hup
      | void => rw [hz.1] at hwant; cases hwant
      | «at» s =>
        obtain ⟨_, d, l', e, sh, h2, h3, h4, h5⟩ := hz
        obtain ⟨l2, r1, r2, r3⟩ := lateZ_ok (P := P) hT hk ha
        have e1 := r2 w
        rw [h4 w] at e1
        injection e1 with e1 e2
        injection e1 with e1
        have e3 := Sh.at_inj e1
        have e4 := alloc_inj e2
        subst e3
        rw [e4] at h5
        have hcl := hr.claim h5 (hun s rfl) r1
        unfold thenA at h
        split at h
        · rename_i A1 hp
          have hs1 : (E.add H.next s 0).s H.next = s := by simp [Env.add]
          have ha0 : AR ds (E.add H.next s 0) (H.next + 1) A a := ha.mono (Env.add_agree _ _ _ _) (Nat.le_succ _)
          have ha1 := ha0.put hp (Sh.vr (E := E.add H.next s 0) (N := H.next) r3 hs1)
          rw [h2, put_same h3] at ha1
          obtain ⟨q1, q2⟩ := runK_early (P := P) (E := E.add H.next s 0) hT w c.ks _ A1 hcv.ks h ha1 hks2
          refine ⟨E.add H.next s 0, Env.add_agree _ _ _ _, by rw [q2]; exact Nat.le_succ _, by rw [q2]; exact q1, by rw [q2]; exact hcl, fun b x hb => ?_⟩
          rw [q2] at hb
          simp only [newB, Hp.new, Tr.get_put] at hb
          split at hb
          · rename_i e5; subst e5; exact .inr (by rw [hs1])
          · exact .inl ⟨hb, (Env.add_agree E H.next s 0 b (hr.lt _ _ hb)).1⟩
        · cases h
    · cases h
  · rename_i hw
    have hwant := wantedA_ok ha hw
    cases mo with
    | late => cases hup
    | «at» s => rw [hz.1] at hwant; cases hwant
    | void =>
      obtain ⟨_, d, h2, h3⟩ := hz
      unfold thenA at h
      split at h
      · rename_i A1 hp
        have ha1 := ha.put hp (VR.undef (E := E) (N := H.next))
        rw [h2, put_same h3] at ha1
        obtain ⟨q1, q2⟩ := runK_early (P := P) hT w c.ks _ A1 hcv.ks h ha1 hks2
        exact ⟨E, Agree.refl _ _, by rw [q2]; exact Nat.le_refl _, by rw [q2]; exact q1, by rw [q2]; exact hr, fun b x hb => .inl ⟨by rw [q2] at hb; exact hb, rfl⟩⟩
      · cases h
  · cases h
end
end Go.Proofs.YtanhkchpffkloaaGreatDoor
