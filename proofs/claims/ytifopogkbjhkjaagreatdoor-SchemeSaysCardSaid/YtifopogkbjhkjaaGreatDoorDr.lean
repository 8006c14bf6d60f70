import Derived.Deep.RegionHeld
import Derived.Deep.RegionHeld3
namespace Go.Proofs.YtifopogkbjhkjaaGreatDoor.DR
open Go
set_option linter.unusedVariables false
set_option linter.unusedSimpArgs false
section
/-- does operation j wait for operation i? -/
def reachB (ops : Array Oper) (i : Nat) (n : Nat) : Nat → Bool := Nat.rec (motive := fun _ => Nat → Bool) (fun _ => false) (fun _ ih j => match ops[j]? with
  | some o => o.after.toList.any fun e => Region.binds .any e && (Nat.beq e.on i || ih e.on)
  | none => false) n
theorem reachB_succ (ops : Array Oper) (i n j : Nat) : reachB ops i (n + 1) j = (match ops[j]? with
  | some o => o.after.toList.any fun e => Region.binds .any e && (Nat.beq e.on i || reachB ops i n e.on)
  | none => false) := rfl
/-- what is listed has all that it waits for listed. -/
def ClosedL (ops : Array Oper) (listed : Array Bool) : Prop := ∀ (j : Nat) (o : Oper), ops[j]? = some o → listed.getD j false = true → ∀ e ∈ o.after, Region.binds .any e = true → listed.getD e.on false = true
theorem reach_listed {ops : Array Oper} {listed : Array Bool} (hc : ClosedL ops listed) {i : Nat} : ∀ (n j : Nat) (o : Oper), ops[j]? = some o → (∀ e ∈ o.after, Region.binds .any e = true → listed.getD e.on false = true) → reachB ops i n j = true → listed.getD i false = true
  | 0, _, _, _, _, h => by cases h
  | n + 1, j, o, ho, hp, h => by
    rw [reachB_succ, ho] at h
    simp only at h
    rw [List.any_eq_true] at h
    obtain ⟨e, he, h2⟩ := h
    have he2 : e ∈ o.after := by simpa using he
    simp only [Bool.and_eq_true, Bool.or_eq_true] at h2
    have hl := hp e he2 h2.1
    rcases h2.2 with h3 | h3
    · rw [← Nat.eq_of_beq_eq_true h3]; exact hl
    · cases n with
      | zero => cases h3
      | succ n =>
        cases ho2 : ops[e.on]? with
        | none => rw [reachB_succ, ho2] at h3; cases h3
        | some o2 => exact reach_listed hc (n + 1) e.on o2 ho2 (hc e.on o2 ho2 hl) h3
theorem closed_start (ops : Array Oper) (n : Nat) : ClosedL ops (Array.replicate n false) := fun j o ho h => by
  simp only [Array.getD_eq_getD_getElem?, Array.getElem?_replicate] at h
  split at h <;> cases h
theorem closed_step {ops : Array Oper} {listed : Array Bool} (hc : ClosedL ops listed) {i : Nat} (hr : i ∈ Region.ready .any ops listed) : ClosedL ops (listed.setIfInBounds i true) := fun j o ho h e he hb => by
  obtain ⟨h0, oi, hoi, hall⟩ := mem_ready.1 hr
  by_cases hj : i = j
  · subst hj
    rw [hoi] at ho; cases ho
    exact getD_set_true (hall e he hb)
  · rw [getD_set_ne false hj] at h
    exact getD_set_true (hc j o ho h e he hb)
/-- none of D has come up. -/
def NoD (D : Nat → Bool) (listed : Array Bool) : Prop := ∀ d, D d = true → listed.getD d false = false
/-- whatever order is picked from here on; S holds behind every operation as long as none of D has come up. -/
def wpD (P : Program) (ops : Array Oper) (Q : Exit → Act → World → Prop) (D : Nat → Bool) (S : World → Prop) : Nat → Array Bool → Act → World → Prop
  | 0, listed, a, w => Region.ready .any ops listed = [] ∧ Q .normal a w
  | n + 1, listed, a, w => (Region.ready .any ops listed = [] → Q .normal a w) ∧
    ∀ i ∈ Region.ready .any ops listed, wpOp P ops Q i (fun a' w' => (NoD D (listed.setIfInBounds i true) → S w') ∧ wpD P ops Q D S n (listed.setIfInBounds i true) a' w') a w
variable {P : Program} {ops : Array Oper} {Q : Exit → Act → World → Prop} {S S' : World → Prop} {D : Nat → Bool}
theorem wpD_any : ∀ (n : Nat) (listed : Array Bool) (a : Act) (w : World), wpD P ops Q D S n listed a w → wpAny P .any ops Q n listed a w
  | 0, _, _, _, h => h
  | n + 1, listed, a, w, h => ⟨h.1, fun i hi => wpOp_mono (fun a' w' hk => wpD_any n _ a' w' hk.2) (h.2 i hi)⟩
theorem wpD_mono (hs : ∀ w, S' w → S w) : ∀ (n : Nat) (listed : Array Bool) (a : Act) (w : World), wpD P ops Q D S' n listed a w → wpD P ops Q D S n listed a w
  | 0, _, _, _, h => h
  | n + 1, listed, a, w, h => ⟨h.1, fun i hi => wpOp_mono (fun a' w' hk => ⟨fun hd => hs _ (hk.1 hd), wpD_mono hs n _ a' w' hk.2⟩) (h.2 i hi)⟩
theorem wpD_done {listed : Array Bool} {a : Act} {w : World} (hr : Region.ready .any ops listed = []) (h : Q .normal a w) : ∀ n, wpD P ops Q D S n listed a w
  | 0 => ⟨hr, h⟩
  | n + 1 => ⟨fun _ => h, fun i hi => by rw [hr] at hi; cases hi⟩
theorem wpD_one {i n : Nat} {listed : Array Bool} {a : Act} {w : World} (hr : Region.ready .any ops listed = [i]) (h : wpOp P ops Q i (fun a' w' => (NoD D (listed.setIfInBounds i true) → S w') ∧ wpD P ops Q D S n (listed.setIfInBounds i true) a' w') a w) : wpD P ops Q D S (n + 1) listed a w :=
  ⟨fun h0 => (by rw [hr] at h0; cases h0), fun j hj => (by rw [hr, List.mem_singleton] at hj; subst hj; exact h)⟩
/-- an operation that may come up is taken first: what it yields hangs on S1 alone, and S1 stays while it has not come up. -/
theorem wpD_take {S1 : World → Prop} {i : Nat} {oi : Oper} {v : Value} (hi : ops[i]? = some oi) (hns : Region.noSelect ops = true) (hQ : ∀ c a w, Q (.panic c) (a.put oi.dst v) w → Q (.panic c) a w) (hDi : D i = false)
    (hD : (∀ w, S1 w) ∨ ((∀ w, S w → S1 w) ∧ ∀ j, D j = true → (ops[j]?).isSome = true ∧ ∃ n, reachB ops i n j = true)) :
    ∀ (n : Nat) (listed : Array Bool) (a : Act) (w : World), ClosedL ops listed → (∀ j oj, ops[j]? = some oj → j ≠ i → listed.getD j true = false → (∀ e ∈ oj.after, Region.binds .any e = true → e.on ≠ i) → oi.apart ops oj = true) → i ∈ Region.ready .any ops listed → YieldsIf P ops S1 oi v a → (NoD D listed → S w) →
      wpD P ops Q D S n (listed.setIfInBounds i true) (a.put oi.dst v) w → wpD P ops Q D S (n + 1) listed a w := by
  have hsel := Region.noSelect_spec hns
  have hif : ∀ {listed : Array Bool}, i ∈ Region.ready .any ops listed → listed.getD i false = false := fun {listed} hr => by
    obtain ⟨hiun, _⟩ := mem_ready.1 hr
    rcases Nat.lt_or_ge i listed.size with h' | h'
    · simp [h'] at hiun ⊢; exact hiun
    · simp [Array.getElem?_eq_none h']
  have hgo : ∀ (listed : Array Bool) (w : World), ClosedL ops listed → i ∈ Region.ready .any ops listed → (NoD D listed → S w) → S1 w := fun listed w hc hr h => by
    rcases hD with h2 | h2
    · exact h2 w
    · refine h2.1 w (h fun d hd => ?_)
      cases hl : listed.getD d false with
      | false => rfl
      | true =>
        obtain ⟨h3, n0, h4⟩ := h2.2 d hd
        obtain ⟨o, ho⟩ := Option.isSome_iff_exists.1 h3
        have := reach_listed hc n0 d o ho (hc d o ho hl) h4
        rw [hif hr] at this; cases this
  have hno : ∀ {listed : Array Bool}, NoD D (listed.setIfInBounds i true) ↔ NoD D listed := fun {listed} => ⟨fun h d hd => by
    have := h d hd
    rwa [getD_set_ne false (fun e => by subst e; rw [hDi] at hd; cases hd)] at this, fun h d hd => by
    rw [getD_set_ne false (fun e => by subst e; rw [hDi] at hd; cases hd)]; exact h d hd⟩
  intro n
  induction n with
  | zero =>
    intro listed a w hc hf hr hy hS H
    refine ⟨fun h => (by rw [h] at hr; cases hr), fun j hj => ?_⟩
    by_cases hji : j = i
    · subst hji
      exact hy.wpOp hi (hgo listed w hc hr hS) ⟨fun h => hS (hno.1 h), H⟩
    · have := ready_mono hj hji
      rw [H.1] at this; cases this
  | succ n ih =>
    intro listed a w hc hf hr hy hS H
    refine ⟨fun h => (by rw [h] at hr; cases hr), fun j hj => ?_⟩
    by_cases hji : j = i
    · subst hji
      exact hy.wpOp hi (hgo listed w hc hr hS) ⟨fun h => hS (hno.1 h), H⟩
    · have h1 := H.2 j (ready_mono hj hji)
      obtain ⟨hjun, oj, hoj, hall⟩ := mem_ready.1 hj
      have hnot : ∀ e ∈ oj.after, Region.binds .any e = true → e.on ≠ i := fun e he hb heq => by
        have h1 := hall e he hb
        rw [heq, hif hr] at h1; cases h1
      have h2 := wpOp_putIf hoj (hf j oj hoj hji hjun hnot) (fun cs b => hsel i oi cs b hi) (fun cs b => hsel j oj cs b hoj) hQ hy h1
      refine wpOp_mono (fun a' w' h3 => ?_) h2
      obtain ⟨hy', hSj, hrest⟩ := h3
      have hSj2 : NoD D (listed.setIfInBounds j true) → S w' := fun h => hSj (by
        rw [Array.setIfInBounds_comm _ _ (Ne.symm hji)]
        exact hno.2 h)
      refine ⟨hSj2, ih (listed.setIfInBounds j true) a' w' (closed_step hc hj) (fun k ok hk hki hun hno' => ?_) (ready_mono hr (Ne.symm hji)) hy' hSj2 ?_⟩
      · refine hf k ok hk hki ?_ hno'
        by_cases hjk : j = k
        · subst hjk; exact hjun
        · rw [getD_set_ne true hjk] at hun; exact hun
      · rw [Array.setIfInBounds_comm _ _ hji]
        exact hrest
/-- what of ds comes up comes up behind i. -/
def waitsB (ops : Array Oper) (ds : List Nat) (i : Nat) : Bool := ds.all fun d => decide (d < ops.size) && reachB ops i ops.size d
def inD (ds : List Nat) : Nat → Bool := fun d => ds.contains d
theorem waits_spec {ds : List Nat} {i : Nat} (h : waitsB ops ds i = true) : ∀ j, inD ds j = true → (ops[j]?).isSome = true ∧ ∃ n, reachB ops i n j = true := fun j hj => by
  unfold waitsB at h
  rw [List.all_eq_true] at h
  have := h j (by simpa [inD] using hj)
  simp only [Bool.and_eq_true, decide_eq_true_eq] at this
  exact ⟨by simp [this.1], _, this.2⟩
/-- whatever order is picked; S is asked for as long as none of ds has come up. -/
def WD (P : Program) (ops : Array Oper) (Q : Exit → Act → World → Prop) (ds : List Nat) (S : World → Prop) (n : Nat) (listed : Array Bool) (a : Act) (w : World) : Prop := ClosedL ops listed → wpD P ops Q (inD ds) S n listed a w
variable {ds : List Nat}
theorem wp_region_D {id : Nat} {a : Act} {w : World} (ds : List Nat) (S : World → Prop) (hm : P.follows .mixedOrders = true) (hS : S w.drew) (h : S w.drew → WD P ops Q ds S ops.size (Array.replicate ops.size false) a w.drew) : (Code.region id ops true).wp P Q a w :=
  wp_region_any hm (wpD_any _ _ _ _ (h hS (closed_start _ _)))
theorem WD_take {i : Nat} {oi : Oper} {v : Value} {n : Nat} {listed : Array Bool} {a : Act} {w : World} (hi : ops[i]? = some oi)
    (hs : Region.noSelect ops = true) (hf : Region.free .any ops listed i = true) (hr : (Region.ready .any ops listed).contains i = true) (hw : (ds.contains i == false && waitsB ops ds i) = true)
    (hQ : ∀ c a w, Q (.panic c) (a.put oi.dst v) w → Q (.panic c) a w) (hy : YieldsIf P ops S oi v a) (hS : S w)
    (h : WD P ops Q ds S n (listed.setIfInBounds i true) (a.put oi.dst v) w) : WD P ops Q ds S (n + 1) listed a w := fun hc => by
  rw [Bool.and_eq_true] at hw
  have hr' : i ∈ Region.ready .any ops listed := by simpa using hr
  exact wpD_take (S1 := S) hi hs hQ (by simpa [inD] using hw.1) (.inr ⟨fun _ h => h, waits_spec hw.2⟩) n listed a w hc (Region.free_spec hi hf) hr' hy (fun _ => hS) (h (closed_step hc hr'))
theorem WDt (i : Nat) (oi : Oper) {v : Value} {n : Nat} {listed : Array Bool} {a : Act} {w : World} (hi : ops[i]? = some oi)
    (hc : (Region.noSelect ops && Region.free .any ops listed i && (Region.ready .any ops listed).contains i && (ds.contains i == false && waitsB ops ds i)) = true)
    (hQ : ∀ c a w, Q (.panic c) (a.put oi.dst v) w → Q (.panic c) a w) (hy : YieldsIf P ops S oi v a) (hS : S w)
    (h : WD P ops Q ds S n (listed.setIfInBounds i true) (a.put oi.dst v) w) : WD P ops Q ds S (n + 1) listed a w := by
  rw [Bool.and_eq_true, Bool.and_eq_true, Bool.and_eq_true] at hc
  exact WD_take hi hc.1.1.1 hc.1.1.2 hc.1.2 hc.2 hQ hy hS h
/-- the same, short: what the words hold for every take is found by itself. -/
theorem WDs (i : Nat) (oi : Oper) (v : Value) {n : Nat} {listed : Array Bool} {a : Act} {w : World} (hy : ∀ w, S w → Sem.run P (execOp a.eval oi) w = Result.ok (Next.value v) w) (hS : S w)
    (h : WD P ops Q ds S n (listed.setIfInBounds i true) (a.put oi.dst v) w) (hi : ops[i]? = some oi := by rfl) (hw : Region.wanted oi (yielded ops a.tmps) = true := by rfl)
    (hc : (Region.noSelect ops && Region.free .any ops listed i && (Region.ready .any ops listed).contains i && (ds.contains i == false && waitsB ops ds i)) = true := by kernel_rfl)
    (hQ : ∀ c a w, Q (.panic c) (a.put oi.dst v) w → Q (.panic c) a w := by exact fun _ _ _ h => h) : WD P ops Q ds S (n + 1) listed a w := WDt i oi hi hc hQ (.inl ⟨hw, hy⟩) hS h
theorem WDk (i : Nat) (oi : Oper) {n : Nat} {listed : Array Bool} {a : Act} {w : World} (hS : S w)
    (h : WD P ops Q ds S n (listed.setIfInBounds i true) (a.put oi.dst undef) w) (hi : ops[i]? = some oi := by rfl) (hw : Region.wanted oi (yielded ops a.tmps) = false := by rfl)
    (hc : (Region.noSelect ops && Region.free .any ops listed i && (Region.ready .any ops listed).contains i && (ds.contains i == false && waitsB ops ds i)) = true := by kernel_rfl)
    (hQ : ∀ c a w, Q (.panic c) (a.put oi.dst undef) w → Q (.panic c) a w := by exact fun _ _ _ h => h) : WD P ops Q ds S (n + 1) listed a w := WDt i oi hi hc hQ (.inr ⟨hw, rfl⟩) hS h
/-- what hangs on no world. -/
theorem WD_takeAny {i : Nat} {oi : Oper} {v : Value} {n : Nat} {listed : Array Bool} {a : Act} {w : World} (hi : ops[i]? = some oi)
    (hs : Region.noSelect ops = true) (hf : Region.free .any ops listed i = true) (hr : (Region.ready .any ops listed).contains i = true) (hw : (ds.contains i == false && ds.any fun d => listed.getD d false) = true)
    (hQ : ∀ c a w, Q (.panic c) (a.put oi.dst v) w → Q (.panic c) a w) (hy : YieldsIf P ops (fun _ => True) oi v a)
    (h : WD P ops Q ds S n (listed.setIfInBounds i true) (a.put oi.dst v) w) : WD P ops Q ds S (n + 1) listed a w := fun hc => by
  rw [Bool.and_eq_true] at hw
  have hr' : i ∈ Region.ready .any ops listed := by simpa using hr
  refine wpD_take (S1 := fun _ => True) hi hs hQ (by simpa [inD] using hw.1) (.inl (fun _ => trivial)) n listed a w hc (Region.free_spec hi hf) hr' hy (fun hd => ?_) (h (closed_step hc hr'))
  obtain ⟨d, hd1, hd2⟩ := List.any_eq_true.1 hw.2
  have := hd d (by simpa [inD] using hd1)
  rw [hd2] at this; cases this
def AllD (P : Program) (ops : Array Oper) (Q : Exit → Act → World → Prop) (ds : List Nat) (S : World → Prop) (n : Nat) (listed : Array Bool) (a : Act) (w : World) (rs : List Nat) : Prop :=
  ∀ i ∈ rs, (i ∈ Region.ready .any ops listed) → wpOp P ops Q i (fun a' w' => (NoD (inD ds) (listed.setIfInBounds i true) → S w') ∧ WD P ops Q ds S n (listed.setIfInBounds i true) a' w') a w
theorem AllD.nil {n : Nat} {listed : Array Bool} {a : Act} {w : World} : AllD P ops Q ds S n listed a w [] := fun _ h => by cases h
/-- an operation that keeps S. -/
theorem AllD.cons {n : Nat} {listed : Array Bool} {a : Act} {w : World} {i : Nat} {o : Oper} {rs : List Nat} (ho : ops[i]? = some o)
    (h : ∀ K' : Act → World → Prop, Shut (∀ a w, S w → (S w → WD P ops Q ds S n (listed.setIfInBounds i true) a w) → K' a w) → if Region.wanted o (yielded ops a.tmps) = true then Oper.wp P o a w K' Q else K' (a.put o.dst undef) w)
    (hs : AllD P ops Q ds S n listed a w rs) : AllD P ops Q ds S n listed a w (i :: rs) := fun j hj hr => by
  rcases List.mem_cons.1 hj with rfl | hj
  · exact wpOp_step ho (fun K' hK => h K' (fun a w hS hW => hK a w ⟨fun _ => hS, hW hS⟩))
  · exact hs j hj hr
/-- one of ds: S need not stay. -/
theorem AllD.last {n : Nat} {listed : Array Bool} {a : Act} {w : World} {i : Nat} {o : Oper} {rs : List Nat} (ho : ops[i]? = some o) (hd : ds.contains i = true)
    (h : ∀ K' : Act → World → Prop, Shut (∀ a w, WD P ops Q ds S n (listed.setIfInBounds i true) a w → K' a w) → if Region.wanted o (yielded ops a.tmps) = true then Oper.wp P o a w K' Q else K' (a.put o.dst undef) w)
    (hs : AllD P ops Q ds S n listed a w rs) : AllD P ops Q ds S n listed a w (i :: rs) := fun j hj hr => by
  rcases List.mem_cons.1 hj with rfl | hj
  · refine wpOp_step ho (fun K' hK => h K' (fun a w hW => hK a w ⟨fun hn => ?_, hW⟩))
    have h1 := hn j (by simpa [inD] using hd)
    have h2 := (mem_ready.1 hr).1
    rcases Nat.lt_or_ge j listed.size with h' | h'
    · simp [h'] at h1
    · simp [Array.getElem?_eq_none h'] at h2
  · exact hs j hj hr
theorem WD_ready {rs : List Nat} {n : Nat} {listed : Array Bool} {a : Act} {w : World} (hr : Region.ready .any ops listed = rs) (hne : rs ≠ [])
    (h : AllD P ops Q ds S n listed a w rs) : WD P ops Q ds S (n + 1) listed a w := fun hc =>
  ⟨fun h0 => absurd (hr ▸ h0) hne, fun i hi => wpOp_mono (fun a' w' hk => ⟨hk.1, hk.2 (closed_step hc hi)⟩) (h i (hr ▸ hi) hi)⟩
theorem WD_done {listed : Array Bool} {a : Act} {w : World} (hr : Region.ready .any ops listed = []) (h : Q .normal a w) (n : Nat) : WD P ops Q ds S n listed a w := fun _ => wpD_done hr h n
end
end Go.Proofs.YtifopogkbjhkjaaGreatDoor.DR
