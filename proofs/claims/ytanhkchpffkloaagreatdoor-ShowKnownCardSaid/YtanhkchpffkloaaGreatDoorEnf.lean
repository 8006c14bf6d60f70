import Derived.Test.YtanhkchpffkloaaGreatDoorEwr
namespace Go.Proofs.YtanhkchpffkloaaGreatDoor
open Go
set_option linter.unusedVariables false
set_option linter.unusedSimpArgs false
noncomputable section
variable {ds : List Deferred}
/-! ### a region of four whose second and third come in any order -/
theorem step_any {P : Program} {T : Cx} (hT : Fits P T) {ih : Cmd → Out} (hih : CallsOk P T ih) {ops : Array Oper} {id i : Nat} {o : Oper} (hoi : ops[i]? = some o) {rest : Rest} {A A' : AA} {H H' : Hp} {e : Ex} (h : stepOp T ih id o rest A H (wantedA ops.toList A o) = .code e A' H') {E : Env} {a : Act} {w : World} (ha : AR ds E H.next A a) (hr : HRel E H w)
    {Q : Exit → Act → World → Prop} {K : Act → World → Prop} (hK : Cont ds E H w rest e A' H' K) : wpOp P ops Q i K a w := by
  rw [stepOp_def] at h
  split at h
  · rename_i hw
    have hwant := wantedA_ok ha hw
    unfold wpOp
    simp only [hoi, hwant, if_true]
    exact .inl (doOp_ok hT hih h ha hr hK)
  · rename_i hw
    have hwant := wantedA_ok ha hw
    obtain ⟨A1, hput, hrest⟩ := put1_ok h
    unfold wpOp
    simp only [hoi, hwant]
    exact hK E A1 H _ w hrest (Gd.refl _ _ _) (ha.put hput VR.undef) hr
  · cases h
def chainOk (ops : Array Oper) (l : List Nat) : Array Bool → Bool := List.rec (motive := fun _ => Array Bool → Bool) (fun L => Region.ready .any ops L == []) (fun i _ ih L => ite' (Region.ready .any ops L == [i]) (ih (L.setIfInBounds i true)) false) l
theorem chain_any {P : Program} {T : Cx} (hT : Fits P T) {ih : Cmd → Out} (hih : CallsOk P T ih) {ops : Array Oper} {id : Nat} {A2 : AA} {H2 : Hp} {e2 : Ex} {Q : Exit → Act → World → Prop} :
    ∀ (l : List (Nat × Oper)) (L : Array Bool) (A : AA) (H : Hp) (E : Env) (a : Act) (w : World), (∀ p ∈ l, ops[p.1]? = some p.2) → chainOk ops (l.map (·.1)) L = true → runOps T ih ops.toList id (l.map (·.2)) A H = .code e2 A2 H2 → AR ds E H.next A a → HRel E H w →
      (∀ E1 a1 w1, e2 = .normal → Gd E E1 H H2 w w1 → AR ds E1 H2.next A2 a1 → HRel E1 H2 w1 → Q .normal a1 w1) → wpAny P .any ops Q l.length L a w
  | [], L, A, H, E, a, w, hp, hc, h, ha, hr, hQ => by
    change Out.code .normal A H = .code e2 A2 H2 at h
    cases h
    exact ⟨eq_of_beq hc, hQ E a w rfl (Gd.refl _ _ _) ha hr⟩
  | (i, o) :: l, L, A, H, E, a, w, hp, hc, h, ha, hr, hQ => by
    change ite' (Region.ready .any ops L == [i]) (chainOk ops (l.map (·.1)) (L.setIfInBounds i true)) false = true at hc
    obtain ⟨h1, h2⟩ := ite'_true_eq hc
    have hrd : Region.ready .any ops L = [i] := eq_of_beq h1
    simp only [List.map_cons] at h
    rw [runOps_cons] at h
    refine ⟨fun h0 => (by rw [hrd] at h0; cases h0), fun j hj => ?_⟩
    rw [hrd, List.mem_singleton] at hj
    subst hj
    exact step_any hT hih (hp (j, o) (List.mem_cons_self ..)) h ha hr (fun E1 A1 H1 a1 w1 hrest g1 ha1 hr1 =>
      chain_any hT hih l _ A1 H1 E1 a1 w1 (fun p hq => hp p (List.mem_cons_of_mem _ hq)) h2 hrest ha1 hr1 (fun E3 a3 w3 he g3 ha3 hr3 => hQ E3 a3 w3 he (g1.trans g3) ha3 hr3))
def forkOk (ops : Array Oper) : Bool := ite' (Nat.beq ops.size 4) (ite' (Region.ready .any ops (Array.replicate ops.size false) == [0]) (ite' (Region.ready .any ops ((Array.replicate ops.size false).setIfInBounds 0 true) == [1, 2])
  (ite' (chainOk ops [2, 3] (((Array.replicate ops.size false).setIfInBounds 0 true).setIfInBounds 1 true)) (chainOk ops [1, 3] (((Array.replicate ops.size false).setIfInBounds 0 true).setIfInBounds 2 true)) false) false) false) false
def thenCode' (ih : Cmd → Out) (b : Code) (r : Out) : Out := match r with
  | .code .normal A' H' => ih (.code b A' H')
  | r => r
theorem then_ok {ih : Cmd → Out} {b : Code} {r : Out} {e : Ex} {B : AA} {G : Hp} (h : thenCode' ih b r = .code e B G) : ∃ e2 A2 H2, r = .code e2 A2 H2 ∧ (e2 = .normal → ih (.code b A2 H2) = .code e B G) := by
  unfold thenCode' at h
  split at h
  · exact ⟨_, _, _, rfl, fun _ => h⟩
  · rename_i hne
    subst h
    exact ⟨_, _, _, rfl, fun he => absurd rfl (by subst he; exact hne _ _)⟩
def forkSeq (T : Cx) (ih : Cmd → Out) (id : Nat) (ops l : List Oper) (b : Code) (A : AA) (H : Hp) : Out := match l with
  | [o0, o1, o2, o3] => stepOp T ih id o0 (fun A' H' => meetOut (thenCode' ih b (runOps T ih ops id [o1, o2, o3] A' H')) (thenCode' ih b (runOps T ih ops id [o2, o1, o3] A' H'))) A H (wantedA ops A o0)
  | _ => .bad 29
theorem fork_ok {P : Program} {T : Cx} (hT : Fits P T) (hm : P.follows .mixedOrders = true) {ih : Cmd → Out} (hih : CallsOk P T ih) {ro : Option Nat} {b : Code} (hD : ∀ A H e A' H', ih (.code b A H) = .code e A' H' → ∀ (E : Env) (a : Act) (w : World), AR ds E H.next A a → HRel E H w → wpR ro P b (PostM ds e A' H' E H w) a w)
    {ops : Array Oper} (hnd : NoDefer ops) {id : Nat} {A A' : AA} {H H' : Hp} {e : Ex} (hf : forkOk ops = true) {l : List Oper} (hl : ops.toList = l) (h : forkSeq T ih id ops.toList l b A H = .code e A' H') {E : Env} {a : Act} {w : World} (ha : AR ds E H.next A a) (hr : HRel E H w) :
    wpR ro P (.region id ops true) (fun x a1 w1 => x = .normal ∧ wpR ro P b (PostM ds e A' H' E H w) a1 w1) a w := by
  obtain ⟨f1, f2⟩ := ite'_true_eq hf
  obtain ⟨f3, f4⟩ := ite'_true_eq f2
  obtain ⟨f5, f6⟩ := ite'_true_eq f4
  obtain ⟨f7, f8⟩ := ite'_true_eq f6
  have hsz : ops.size = 4 := Nat.eq_of_beq_eq_true f1
  have r0 : Region.ready .any ops (Array.replicate ops.size false) = [0] := eq_of_beq f3
  have r1 : Region.ready .any ops ((Array.replicate ops.size false).setIfInBounds 0 true) = [1, 2] := eq_of_beq f5
  unfold forkSeq at h
  split at h
  · rename_i o0 o1 o2 o3
    have g0 : ops[0]? = some o0 := by rw [← Array.getElem?_toList, hl]; rfl
    have g1 : ops[1]? = some o1 := by rw [← Array.getElem?_toList, hl]; rfl
    have g2 : ops[2]? = some o2 := by rw [← Array.getElem?_toList, hl]; rfl
    have g3 : ops[3]? = some o3 := by rw [← Array.getElem?_toList, hl]; rfl
    have hrd : HRel E H { w with drawn := w.drawn + 1 } := hr.heap rfl
    have gd : Gd E E H H w { w with drawn := w.drawn + 1 } := ⟨Nat.le_refl _, Agree.refl _ _, fun b x hx => .inl ⟨b, x, hx, fun h => h, rfl⟩, rfl, rfl, rfl, Nat.le_refl _, fun _ _ _ => rfl⟩
    refine wpR_region_any hnd (fun ⟨a, w, h⟩ => by cases h.1) hm ?_
    have hgo : wpAny P .any ops (fun x a1 w1 => x = .normal ∧ wpR ro P b (PostM ds e A' H' E H w) a1 w1) (3 + 1) (Array.replicate ops.size false) a { w with drawn := w.drawn + 1 } := by
      refine ⟨fun h0 => (by rw [r0] at h0; cases h0), fun j hj => ?_⟩
      rw [r0, List.mem_singleton] at hj
      subst hj
      refine step_any hT hih g0 h ha hrd (fun E1 A1 H1 a1 w1 hrest k1 ha1 hr1 => ?_)
      obtain ⟨B1, G1, B2, G2, m1, m2, l1, l2, l3⟩ := meetOut_ok hrest
      refine ⟨fun h0 => (by rw [r1] at h0; cases h0), fun j hj => ?_⟩
      rw [r1] at hj
      have hj2 : j = 1 ∨ j = 2 := by simpa using hj
      rcases hj2 with rfl | rfl
      · obtain ⟨e2, A2, H2, hrun, hcont⟩ := then_ok m1
        rw [runOps_cons] at hrun
        refine step_any hT hih g1 hrun ha1 hr1 (fun E2 A3 H3 a3 w3 hrest3 k3 ha3 hr3 => ?_)
        refine chain_any hT hih [(2, o2), (3, o3)] _ A3 H3 E2 a3 w3 (fun p hp => ?_) f7 hrest3 ha3 hr3 (fun E4 a4 w4 he k4 ha4 hr4 => ⟨rfl, ?_⟩)
        · rcases List.mem_cons.1 hp with e | hp
          · subst e; exact g2
          · rw [List.mem_singleton] at hp; subst hp; exact g3
        · refine wpR_mono (hD _ _ _ _ _ (hcont he) E4 a4 w4 ha4 hr4) fun x a5 w5 hp => ?_
          obtain ⟨hx, E5, ms5, k5, ha5, hr5, hm5⟩ := hp
          have hsz5 := (gd.trans (k1.trans (k3.trans k4))).size
          refine ⟨hx, E5, ms5, l1.gd ((((gd.trans k1).trans (k3.trans k4))).trans k5), ?_, l1.rel hr5, hm5.mono hsz5⟩
          rw [l1.1]; exact l3.1 ha5
      · obtain ⟨e2, A2, H2, hrun, hcont⟩ := then_ok m2
        rw [runOps_cons] at hrun
        refine step_any hT hih g2 hrun ha1 hr1 (fun E2 A3 H3 a3 w3 hrest3 k3 ha3 hr3 => ?_)
        refine chain_any hT hih [(1, o1), (3, o3)] _ A3 H3 E2 a3 w3 (fun p hp => ?_) f8 hrest3 ha3 hr3 (fun E4 a4 w4 he k4 ha4 hr4 => ⟨rfl, ?_⟩)
        · rcases List.mem_cons.1 hp with e | hp
          · subst e; exact g1
          · rw [List.mem_singleton] at hp; subst hp; exact g3
        · refine wpR_mono (hD _ _ _ _ _ (hcont he) E4 a4 w4 ha4 hr4) fun x a5 w5 hp => ?_
          obtain ⟨hx, E5, ms5, k5, ha5, hr5, hm5⟩ := hp
          have hsz5 := (gd.trans (k1.trans (k3.trans k4))).size
          refine ⟨hx, E5, ms5, l2.gd ((((gd.trans k1).trans (k3.trans k4))).trans k5), ?_, l2.rel hr5, hm5.mono hsz5⟩
          rw [l2.1]; exact l3.2 ha5
    have : wpAny P .any ops (fun x a1 w1 => x = .normal ∧ wpR ro P b (PostM ds e A' H' E H w) a1 w1) ops.size (Array.replicate ops.size false) a { w with drawn := w.drawn + 1 } := by
      have e4 : ops.size = 3 + 1 := hsz
      generalize hL : Array.replicate ops.size false = L at hgo ⊢
      rw [e4]; exact hgo
    exact this
  · cases h
end
end Go.Proofs.YtanhkchpffkloaaGreatDoor
