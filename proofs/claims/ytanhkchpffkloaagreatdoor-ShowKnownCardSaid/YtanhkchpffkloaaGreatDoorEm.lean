import Derived.Test.YtanhkchpffkloaaGreatDoorEmm
namespace Go.Proofs.YtanhkchpffkloaaGreatDoor
open Go
set_option linter.unusedVariables false
set_option linter.unusedSimpArgs false
noncomputable section
variable {ds : List Deferred}
/-! ### regions that ask for an order -/
def valEq (a b : Value) : Bool := match a with
  | .bool x => (match b with
    | .bool y => ite' x y (Bool.not y)
    | _ => false)
  | .int k x => (match b with
    | .int k' y => ite' (kindEq k k') (eqF x y) false
    | _ => false)
  | .string x => (match b with
    | .string y => bytesEq x.data.toList y.data.toList
    | _ => false)
  | .pointer none => (match b with
    | .pointer none => true
    | _ => false)
  | .pointer (some ⟨pb, po, none⟩) => (match b with
    | .pointer (some ⟨qb, qo, none⟩) => ite' (Nat.beq pb qb) (Nat.beq po qo) false
    | _ => false)
  | .slice none l c => (match b with
    | .slice none l' c' => ite' (Nat.beq l l') (Nat.beq c c') false
    | _ => false)
  | .slice (some ⟨pb, po, none⟩) l c => (match b with
    | .slice (some ⟨qb, qo, none⟩) l' c' => ite' (Nat.beq pb qb) (ite' (Nat.beq po qo) (ite' (Nat.beq l l') (Nat.beq c c') false) false) false
    | _ => false)
  | .map none => (match b with
    | .map none => true
    | _ => false)
  | .map (some r) => (match b with
    | .map (some r') => Nat.beq r r'
    | _ => false)
  | _ => false
theorem ite'_true_eq {b x : Bool} (h : ite' b x false = true) : b = true ∧ x = true := by
  cases b with
  | true => exact ⟨rfl, h⟩
  | false => cases h
theorem valEq_eq {a b : Value} (h : valEq a b = true) : a = b := by
  unfold valEq at h
  split at h
  · split at h
    · rename_i x _ y; cases x <;> cases y <;> first | rfl | cases h
    · cases h
  · split at h
    · obtain ⟨h1, h2⟩ := ite'_true_eq h
      rw [eqF_eq] at h2
      rw [kindEq_eq h1, eq_of_beq h2]
    · cases h
  · split at h
    · rw [bytesEq_eq] at h
      have := eq_of_beq h
      rename_i x _ y
      congr 1
      apply ByteArray.ext
      exact Array.toList_inj.1 this
    · cases h
  · split at h
    · rfl
    · cases h
  · split at h
    · obtain ⟨h1, h2⟩ := ite'_true_eq h
      rw [Nat.eq_of_beq_eq_true h1, Nat.eq_of_beq_eq_true h2]
    · cases h
  · split at h
    · obtain ⟨h1, h2⟩ := ite'_true_eq h
      rw [Nat.eq_of_beq_eq_true h1, Nat.eq_of_beq_eq_true h2]
    · cases h
  · split at h
    · obtain ⟨h1, h2⟩ := ite'_true_eq h
      obtain ⟨h3, h4⟩ := ite'_true_eq h2
      obtain ⟨h5, h6⟩ := ite'_true_eq h4
      rw [Nat.eq_of_beq_eq_true h1, Nat.eq_of_beq_eq_true h3, Nat.eq_of_beq_eq_true h5, Nat.eq_of_beq_eq_true h6]
    · cases h
  · split at h
    · rfl
    · cases h
  · split at h
    · rw [Nat.eq_of_beq_eq_true h]
    · cases h
  · cases h
theorem VR.fun' {E : Env} {N : Nat} {v v1 v2 : Value} (hq : valEq v v = true) (h : VR E N v v1) (k : VR E N v v2) : v1 = v2 := by
  cases h with
  | same h =>
    cases k with
    | same _ => rfl
    | ptr _ => cases h
    | slice _ _ => cases h
    | open_ _ _ _ _ => cases h
    | map _ => cases h
    | agg _ => cases h
    | tuple _ => cases h
    | iface _ => cases h
    | tail => cases h
    | clo _ _ => cases hq
  | ptr h =>
    cases k with
    | same h => cases h
    | ptr _ => rfl
  | slice h hc =>
    cases k with
    | same h => cases h
    | slice _ _ => rfl
    | open_ _ hc2 _ _ => omega
  | @open_ _ o _ c c' h hc hl hk =>
    cases k with
    | same h => cases h
    | slice _ hc2 => omega
    | @open_ _ _ _ _ c2 _ hc2 hl2 hk2 =>
      have h1 : c' * (c - OPN) = c2 * (c - OPN) := by omega
      have h2 : 0 < c - OPN := by omega
      rw [Nat.eq_of_mul_eq_mul_right h2 h1]
  | map h =>
    cases k with
    | same h => cases h
    | map _ => rfl
  | agg h => cases hq
  | tuple h => cases hq
  | iface h => cases hq
  | tail => cases hq
  | clo _ _ => cases hq
inductive HeldR (E : Env) (N : Nat) : List (Nat × Nat × Value) → List (Addr × Value) → Prop
  | nil : HeldR E N [] []
  | cons {b o : Nat} {u u' : Value} {l : List (Nat × Nat × Value)} {l' : List (Addr × Value)} (h : b < N) (hv : VR E N u u') (t : HeldR E N l l') : HeldR E N ((b, o, u) :: l) ((⟨E.s b, o, none⟩, u') :: l')
theorem HeldR.mono {E E' : Env} {N N' : Nat} (ha : Agree E E' N) (hN : N ≤ N') : ∀ {l : List (Nat × Nat × Value)} {l' : List (Addr × Value)}, HeldR E N l l' → HeldR E' N' l l'
  | _, _, .nil => .nil
  | _, _, .cons h hv t => by rw [← (ha _ h).1]; exact .cons (Nat.lt_of_lt_of_le h hN) (hv.mono ha hN) (HeldR.mono ha hN t)
def SS (l : List (Addr × Value)) : World → Prop := fun w => ∀ q ∈ l, w.cell? q.1 = some q.2
def heldOk (H : Hp) (l : List (Nat × Nat × Value)) : Bool := List.rec (motive := fun _ => Bool) true (fun q _ ih => match H.cell q.1 q.2.1 with
  | some u => ite' (valEq q.2.2 u) ih false
  | none => false) l
theorem heldOk_ok {E : Env} {H : Hp} {w : World} (hr : HRel E H w) : ∀ {l : List (Nat × Nat × Value)} {l' : List (Addr × Value)}, HeldR E H.next l l' → heldOk H l = true → SS l' w
  | _, _, .nil, _ => fun q hq => by cases hq
  | _, _, .cons (b := b) (o := o) (u := u) (u' := u') (l := l) h hv t, hk => by
    change (match H.cell b o with
      | some x => ite' (valEq u x) (heldOk H l) false
      | none => false) = true at hk
    split at hk
    · rename_i x hx
      obtain ⟨h1, h2⟩ := ite'_true_eq hk
      have e := valEq_eq h1
      subst e
      obtain ⟨_, x', e1, r⟩ := hr.cell hx
      intro q hq
      rcases List.mem_cons.1 hq with e | e
      · subst e; rw [← hv.fun' h1 r] at e1; exact e1
      · exact heldOk_ok hr t h2 q e
    · cases hk
/-! ### the order in which a region's operations are taken -/
def planOk (ops : Array Oper) (l : List (Nat × Bool)) : Array Bool → Bool := List.rec (motive := fun _ => Array Bool → Bool)
  (fun listed => match Region.ready .any ops listed with
    | [] => true
    | _ => false)
  (fun s _ ih listed => ite' s.2 (ite' ((Region.ready .any ops listed).contains s.1) (ite' (Region.free .any ops listed s.1) (ih (listed.setIfInBounds s.1 true)) false) false)
    (match Region.ready .any ops listed with
      | [i] => ite' (Nat.beq i s.1) (ih (listed.setIfInBounds s.1 true)) false
      | _ => false)) l
def isLoad (o : Op) : Bool := match o with
  | .load _ _ => true
  | _ => false
/-- the first of these that may be taken. -/
def pick1 (ops : Array Oper) (listed : Array Bool) (rs : List Nat) : Option Nat := List.rec (motive := fun _ => Option Nat) none (fun i _ ih => match ops[i]? with
  | some o => ite' (ite' (isPure o.op) true (isLoad o.op)) (ite' (Region.free .any ops listed i) (some i) ih) ih
  | none => ih) rs
def planGen (ops : Array Oper) (fuel : Nat) : Array Bool → Option (List (Nat × Bool)) := Nat.rec (motive := fun _ => Array Bool → Option (List (Nat × Bool))) (fun _ => some [])
  (fun _ ih listed => match Region.ready .any ops listed with
    | [] => some []
    | rs => (match pick1 ops listed rs with
      | some i => (match ih (listed.setIfInBounds i true) with
        | some l => some ((i, true) :: l)
        | none => none)
      | none => (match rs with
        | [i] => (match ih (listed.setIfInBounds i true) with
          | some l => some ((i, false) :: l)
          | none => none)
        | _ => none))) fuel
abbrev Rest2 := List (Nat × Nat × Value) → AA → Hp → Out
def heldOf (b off : Nat) (l : List Value) (held : List (Nat × Nat × Value)) : List (Nat × Nat × Value) := List.rec (motive := fun _ => Nat → List (Nat × Nat × Value)) (fun _ => held) (fun v _ ih off => (b, off, v) :: ih (Nat.succ off)) l off
def sizeA (T : Cx) (t : TypeId) : Option Nat := match T.ty.get t with
  | some i => (match T.und t with
    | some d => some (ite' (isAggD d) i.size 1)
    | none => none)
  | none => none
def takePut (o : Oper) (rest : Rest2) (held : List (Nat × Nat × Value)) (A : AA) (H : Hp) (r : Option (Value × Hp)) (no : Out) : Out := Option.rec (motive := fun _ => Out) no (fun r => Prod.rec (motive := fun _ => Out) (fun v H1 => putR o.dst A v H1 (rest held)) r) r
theorem takePut_def (o : Oper) (rest : Rest2) (held : List (Nat × Nat × Value)) (A : AA) (H : Hp) (r : Option (Value × Hp)) (no : Out) : takePut o rest held A H r no = (match r with
  | some r => put1 o A r.1 r.2 (rest held)
  | none => no) := by
  cases r with
  | none => rfl
  | some r => obtain ⟨v, H1⟩ := r; rfl
def takeLoad (T : Cx) (id : Nat) (o : Oper) (rest : Rest2) (held : List (Nat × Nat × Value)) (A : AA) (H : Hp) (t : TypeId) (x : Option Value) : Out := match x with
  | some (.pointer (some p)) => (match sizeA T t with
    | some n => (match H.cells p.block p.off n with
      | some l => takePut o rest (heldOf p.block p.off l held) A H (opD o.op T A H) (.bad (1000 + id))
      | none => .bad 19)
    | none => .bad 20)
  | _ => .bad 21
/-- a text of a row of bytes: these are held. -/
def takeConv (T : Cx) (id : Nat) (o : Oper) (rest : Rest2) (held : List (Nat × Nat × Value)) (A : AA) (H : Hp) (s d : TypeId) (x : Option Value) : Out := match x with
  | some (.slice (some p) n _) => (match H.cells p.block p.off n with
    | some l => ite' (b2s T s d) (match textOf l with
      | some v => put1 o A v H (rest (heldOf p.block p.off l held))
      | none => .bad 22) (.bad 23)
    | none => .bad 24)
  | some (.slice none _ _) => ite' (b2s T s d) (put1 o A (.string ByteArray.empty) H (rest held)) (.bad 23)
  | _ => .bad (1000 + id)
def convOf (o : Op) : Option (TypeId × TypeId × Operand) := match o with
  | .convert s d x => some (s, d, x)
  | _ => none
def takeMem (T : Cx) (id : Nat) (o : Oper) (rest : Rest2) (held : List (Nat × Nat × Value)) (A : AA) (H : Hp) (c : Option (TypeId × TypeId × Operand)) : Out := match c with
  | some c => takeConv T id o rest held A H c.1 c.2.1 (ev A c.2.2)
  | none => .bad (1000 + id)
def ldStep (T : Cx) (id : Nat) (o : Oper) (rest : Rest2) (held : List (Nat × Nat × Value)) (A : AA) (H : Hp) : Out := match o.op with
  | .load t x => takeLoad T id o rest held A H t (ev A x)
  | _ => .bad 15
def takeStep (T : Cx) (id : Nat) (o : Oper) (rest : Rest2) (held : List (Nat × Nat × Value)) (A : AA) (H : Hp) : Out := Bool.rec (motive := fun _ => Out) (ldStep T id o rest held A H) (takePut o rest held A H ((opDC o.op).run T A H) (takeMem T id o rest held A H (convOf o.op))) (isPure o.op)
theorem takeStep_def (T : Cx) (id : Nat) (o : Oper) (rest : Rest2) (held : List (Nat × Nat × Value)) (A : AA) (H : Hp) : takeStep T id o rest held A H = ite' (isPure o.op) (takePut o rest held A H (opD o.op T A H) (takeMem T id o rest held A H (convOf o.op))) (match o.op with
  | .load t x => takeLoad T id o rest held A H t (ev A x)
  | _ => .bad 15) := by
  unfold takeStep
  rw [opDC_eq]
  rfl
def planStep (T : Cx) (ih : Cmd → Out) (id : Nat) (o : Oper) (tk dj : Bool) (rest : Rest2) (held : List (Nat × Nat × Value)) (A : AA) (H : Hp) (w : Option Bool) : Out := match w with
  | some true => ite' tk (takeStep T id o rest held A H) (doOp T ih id o (fun A' H' => ite' (heldOk H' held) (rest held A' H') (ite' dj (rest [] A' H') (.bad 14))) A H)
  | some false => put1 o A undef H (rest held)
  | none => .bad 12
def runPlan (T : Cx) (ih : Cmd → Out) (ops : List Oper) (D : Nat → Bool) (id : Nat) (l : List (Nat × Bool)) : Rest2 := List.rec (motive := fun _ => Rest2) (fun _ A H => .code .normal A H)
  (fun s _ rest held A H => match ops[s.1]? with
    | some o => planStep T ih id o s.2 (D s.1) rest held A H (wantedA ops A o)
    | none => .bad 13) l
/-- an operation that is taken first may not be one of these; each of them waits for every load that is taken first. -/
def convB (T : Cx) (c : Option (TypeId × TypeId × Operand)) : Bool := match c with
  | some c => Bool.not (b2s T c.1 c.2.1)
  | none => true
def pureAt (T : Cx) (ops : Array Oper) (i : Nat) : Bool := match ops[i]? with
  | some o => ite' (isPure o.op) (convB T (convOf o.op)) false
  | none => true
def tkOk (T : Cx) (ops : Array Oper) (j : Nat) (l : List (Nat × Bool)) : Bool := List.rec (motive := fun _ => Bool) true (fun s _ ih => ite' s.2 (ite' (Nat.beq s.1 j) false (ite' (pureAt T ops s.1) ih (ite' (reachB ops s.1 6 j) ih false))) ih) l
def dOf (T : Cx) (ops : Array Oper) (l : List (Nat × Bool)) (j : Nat) : Bool := ite' ((ops[j]?).isSome) (tkOk T ops j l) false
theorem tkOk_cons (T : Cx) (ops : Array Oper) (j : Nat) (s : Nat × Bool) (l : List (Nat × Bool)) : tkOk T ops j (s :: l) = ite' s.2 (ite' (Nat.beq s.1 j) false (ite' (pureAt T ops s.1) (tkOk T ops j l) (ite' (reachB ops s.1 6 j) (tkOk T ops j l) false))) (tkOk T ops j l) := rfl
theorem tkOk_ok {T : Cx} {ops : Array Oper} {j : Nat} : ∀ {l : List (Nat × Bool)}, tkOk T ops j l = true → ∀ s ∈ l, s.2 = true → s.1 ≠ j ∧ (pureAt T ops s.1 = false → ∃ n, reachB ops s.1 n j = true)
  | [], _, s, hs, _ => by cases hs
  | q :: l, h, s, hs, hb => by
    rw [tkOk_cons] at h
    have key : (q.2 = true → q.1 ≠ j ∧ (pureAt T ops q.1 = false → ∃ n, reachB ops q.1 n j = true)) ∧ tkOk T ops j l = true := by
      cases hq : q.2 with
      | false => rw [hq, ite'_false] at h; exact ⟨fun h => (by cases h), h⟩
      | true =>
        rw [hq, ite'_true] at h
        cases h1 : Nat.beq q.1 j with
        | true => rw [h1] at h; cases h
        | false =>
          rw [h1, ite'_false] at h
          have hne : q.1 ≠ j := fun e => by rw [e, Nat.beq_refl] at h1; cases h1
          cases h2 : pureAt T ops q.1 with
          | true => rw [h2, ite'_true] at h; exact ⟨fun _ => ⟨hne, fun h => (by cases h)⟩, h⟩
          | false =>
            rw [h2, ite'_false] at h
            obtain ⟨h3, h4⟩ := ite'_true_eq h
            exact ⟨fun _ => ⟨hne, fun _ => ⟨6, h3⟩⟩, h4⟩
    rcases List.mem_cons.1 hs with e | e
    · subst e; exact key.1 hb
    · exact tkOk_ok key.2 s e hb
theorem dOf_ok {T : Cx} {ops : Array Oper} {l : List (Nat × Bool)} {i j : Nat} (hd : dOf T ops l j = true) (hi : (i, true) ∈ l) : i ≠ j ∧ (ops[j]?).isSome = true ∧ (pureAt T ops i = false → ∃ n, reachB ops i n j = true) := by
  obtain ⟨h1, h2⟩ := ite'_true_eq hd
  obtain ⟨h3, h4⟩ := tkOk_ok h2 _ hi rfl
  exact ⟨h3, h1, h4⟩
theorem Act.put_panic {A' : AA} {H H' : Hp} {E : Env} {e : Ex} {w0 : World} {d : Option Tmp} {v : Value} : ∀ c a w, Post ds e A' H' E H w0 (.panic c) (a.put d v) w → Post ds e A' H' E H w0 (.panic c) a w := fun c a w h => by
  have h1 := h.1
  cases e <;> cases h1
/-- what a load looks at. -/
theorem load_held {P : Program} {T : Cx} (hT : Fits P T) {E : Env} {H : Hp} {w : World} (hr : HRel E H w) {t : TypeId} {b off n : Nat} {v : Value} {l : List Value} (h : loadV T H t b off = some v) (hs : sizeA T t = some n) (hl : H.cells b off n = some l) :
    ∃ l' v', VL E H.next l l' ∧ VR E H.next v v' ∧ l'.length = n ∧ (∀ i u, l'[i]? = some u → w.cell? ⟨E.s b, off + i, none⟩ = some u) ∧ ∀ w2 : World, (∀ i u, l'[i]? = some u → w2.cell? ⟨E.s b, off + i, none⟩ = some u) → (loadVar t ⟨E.s b, off, none⟩).run P w2 = .ok v' w2 := by
  unfold loadV at h
  unfold sizeA at hs
  split at h
  · rename_i i hi
    rw [hi] at hs
    simp only at hs
    split at h
    · rename_i d hd
      rw [hd] at hs
      simp only [Option.some.injEq] at hs
      have e1 := hT.ty t i hi
      have e2 := hT.und hd
      obtain ⟨hn, l', r, hc⟩ := hr.cells hl
      have hl' : l'.length = n := by rw [← r.length]; exact hn
      have hcw : ∀ j u, l'[j]? = some u → w.cell? ⟨E.s b, off + j, none⟩ = some u := fun j u hu => by
        rw [hc j (by have := (List.getElem?_eq_some_iff.1 hu).1; omega)]; exact hu
      cases hag : isAggD d with
      | true =>
        rw [hag, ite'_true] at h hs
        subst hs
        rw [hl] at h
        cases h
        refine ⟨l', .agg l'.toArray, r, .agg r, hl', hcw, fun w2 h2 => ?_⟩
        have hld := run_loadCells_list (P := P) w2 ⟨E.s b, off, none⟩ l' (fun j u hu => by rw [add_plain']; exact h2 j u hu)
        rw [hl'] at hld
        have hu := run_underlying (P := P) e2 w2
        cases d <;> simp [isAggD] at hag <;> simp [loadVar, isAgg, hu, sizeOf, typeInfo, e1, hld]
      | false =>
        rw [hag, ite'_false] at h hs
        subst hs
        rw [cells_succ, h] at hl
        cases hl
        cases r with
        | @cons _ v' _ l2 hv ht =>
          refine ⟨v' :: l2, v', .cons hv ht, hv, hl', hcw, fun w2 h2 => ?_⟩
          have e3 : w2.cell? ⟨E.s b, off, none⟩ = some v' := by simpa using h2 0 v' rfl
          have hu := run_underlying (P := P) e2 w2
          cases d <;> simp [isAggD] at hag <;> simp [loadVar, isAgg, hu, e3]
    · cases h
  · cases h
theorem heldOf_ok {E : Env} {N : Nat} {b : Nat} (hb : b < N) {held : List (Nat × Nat × Value)} {hl : List (Addr × Value)} (hh : HeldR E N held hl) : ∀ {l l' : List Value} (off : Nat), VL E N l l' → ∃ hl2, HeldR E N (heldOf b off l held) hl2 ∧ (∀ w : World, SS hl2 w ↔ (∀ i u, l'[i]? = some u → w.cell? ⟨E.s b, off + i, none⟩ = some u) ∧ SS hl w)
  | _, _, off, .nil => ⟨hl, hh, fun w => ⟨fun h => ⟨fun i u hu => by simp at hu, h⟩, fun h => h.2⟩⟩
  | _, _, off, .cons (v' := v') (l' := l2) hv ht => by
    obtain ⟨hl2, h1, h2⟩ := heldOf_ok hb hh (off + 1) ht
    refine ⟨(⟨E.s b, off, none⟩, v') :: hl2, .cons hb hv h1, fun w => ⟨fun h => ?_, fun h => ?_⟩⟩
    · have h3 := (h2 w).1 (fun q hq => h q (List.mem_cons_of_mem _ hq))
      refine ⟨fun i u hu => ?_, h3.2⟩
      cases i with
      | zero => simp at hu; subst hu; exact h _ (List.mem_cons_self ..)
      | succ i =>
        have := h3.1 i u (by simpa using hu)
        rw [show off + (i + 1) = off + 1 + i from by omega]; exact this
    · intro q hq
      rcases List.mem_cons.1 hq with e | e
      · subst e; exact h.1 0 v' rfl
      · exact (h2 w).2 ⟨fun i u hu => by rw [show off + 1 + i = off + (i + 1) from by omega]; exact h.1 (i + 1) u (by simpa using hu), h.2⟩ q e
end
end Go.Proofs.YtanhkchpffkloaaGreatDoor
