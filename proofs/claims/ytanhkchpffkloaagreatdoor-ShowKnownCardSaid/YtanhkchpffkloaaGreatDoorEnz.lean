import Derived.Test.YtanhkchpffkloaaGreatDoorEmz
namespace Go.Proofs.YtanhkchpffkloaaGreatDoor
open Go
set_option linter.unusedVariables false
set_option linter.unusedSimpArgs false
noncomputable section
variable {ds : List Deferred}
/-! ### operations that make memory and look at none -/
inductive Sh where
  | ptr
  | sl (l c : Nat)
  | mp
def Sh.at (s : Sh) (b : Nat) : Value := match s with
  | .ptr => .pointer (some ⟨b, 0, none⟩)
  | .sl l c => .slice (some ⟨b, 0, none⟩) l c
  | .mp => .map (some b)
structure Mk where
  l : List Value
  e : TypeId
  s : Sh
def Mk.blk (k : Mk) : Blk := match k.s with
  | .mp => .map [] 0
  | _ => .row (Tr.lay k.l 0 .nil) k.l.length k.e false
def newB (H : Hp) (k : Mk) : Hp := H.new k.blk
def obOf (s : Sh) (l : List Value) (e : TypeId) : Obj := match s with
  | .mp => .map #[] 0
  | _ => .cells l.toArray e
def l_map (r : Option Operand) : Option Mk := match r with
  | none => some ⟨[], 0, .mp⟩
  | _ => none
def l_alloc (T : Cx) (t : TypeId) : Option Mk := match T.ty.get t with
  | some i => (match i.zero with
    | some z => ite' (plainL z.cells.toList) (some ⟨z.cells.toList, t, .ptr⟩) none
    | none => none)
  | none => none
def l_box (t : TypeId) (v : Option Value) : Option Mk := match v with
  | some v => some ⟨v.cells.toList, t, .ptr⟩
  | none => none
def l_buildSlice (T : Cx) (A : AA) (t : TypeId) (len : Nat) (parts : List (Nat × Operand)) : Option Mk := match T.und t with
  | some (.slice e) => (match T.ty.get e with
    | some ie => (match ie.zero with
      | some z => ite' (plainL ((Array.range (len * ie.size)).map (z.cells[· % z.cells.size]!)).toList) (ite' (Nat.ble (len * ie.size) 16777216) (ite' (Nat.beq (len * ie.size) 0) (match parts with
        | [] => ite' (Nat.beq len 0) (some ⟨[], e, .sl 0 0⟩) none
        | _ => none) (match evP A parts with
        | some ps => (match Instr.fill (fun i => some (i * ie.size, ie.size)) ((Array.range (len * ie.size)).map (z.cells[· % z.cells.size]!)) ps with
          | some r => some ⟨r.toList, e, .sl len len⟩
          | none => none)
        | none => none)) none) none
      | none => none)
    | none => none)
  | _ => none
def l_mkSl (T : Cx) (e : TypeId) (n m : Nat) : Option Mk := match T.ty.get e with
  | some i => (match i.zero with
    | some z => ite' (plainL z.cells.toList) (ite' (Nat.beq i.size z.cells.toList.length) (ite' (Nat.ble n m) (ite' (Nat.ble m 1000000000) (ite' (Nat.ble (Nat.mul i.bytes m) 281474976710656) (some ⟨cyc z.cells.toList m, e, .sl n m⟩) none) none) none) none) none
    | none => none)
  | none => none
def l_makeSlice (T : Cx) (t : TypeId) (l c : Option Value) : Option Mk := match T.und t with
  | some (.slice e) => (match l with
    | some (.int _ (.ofNat n)) => (match c with
      | some (.int _ (.ofNat m)) => l_mkSl T e n m
      | _ => none)
    | _ => none)
  | _ => none
def lateZ (T : Cx) (A : AA) (o : Op) : Option Mk := match o with
  | .alloc t => l_alloc T t
  | .box t x => l_box t (ev A x)
  | .buildSlice t n ps => l_buildSlice T A t n ps.toList
  | .makeSlice t l c => l_makeSlice T t (ev A l) (ev A c)
  | .makeMap _ r => l_map r
  | _ => none
abbrev AH := Option (AA × Hp)
def thenA (A : Option AA) (H : Hp) (k : AA → Hp → AH) : AH := match A with
  | some A => k A H
  | none => none
def runK1 (T : Cx) (ops : List Oper) (x : OI) (k : AA → Hp → AH) (A : AA) (H : Hp) : AH := match wantedA ops A x.o with
  | some true => (match opD x.o.op T A H with
    | some r => thenA (putA A x.o.dst r.1) H k
    | none => none)
  | some false => thenA (putA A x.o.dst undef) H k
  | none => none
def runK (T : Cx) (ops : List Oper) (l : List OI) : AA → Hp → AH := List.rec (motive := fun _ => AA → Hp → AH) (fun A H => some (A, H)) (fun x _ ih A H => runK1 T ops x ih A H) l
def closeC (T : Cx) (ops : List Oper) (A : AA) (H : Hp) (c : Clu) : AH := match wantedA ops A c.z.o with
  | some true => (match lateZ T A c.z.o.op with
    | some k => thenA (putA A c.z.o.dst (k.s.at H.next)) (newB H k) (runK T ops c.ks)
    | none => none)
  | some false => thenA (putA A c.z.o.dst undef) H (runK T ops c.ks)
  | none => none
def okAH (r : AH) : Bool := match r with
  | some _ => true
  | none => false
def trials (T : Cx) (ops : List Oper) (A : AA) (H : Hp) (Z : List Clu) : Bool := allC (fun c => okAH (closeC T ops A H c)) Z
def AA.forget (A : AA) (d : Option Tmp) : AA := match d with
  | some t => A.forgetT t
  | none => A
def goStep (T : Cx) (ih : Cmd → Out) (id : Nat) (o : Oper) (dj : Bool) (rest : Rest2) (held : List (Nat × Nat × Value)) (A : AA) (H : Hp) (w : Option Bool) : Out := Option.rec (motive := fun _ => Out) (.bad 12) (fun b => Bool.rec (motive := fun _ => Out) (putR o.dst A undef H (rest held)) (doOp T ih id o (fun A' H' => ite' (heldOk H' held) (rest held A' H') (ite' dj (rest [] A' H') (.bad 14))) A H) b) w
theorem goStep_def (T : Cx) (ih : Cmd → Out) (id : Nat) (o : Oper) (dj : Bool) (rest : Rest2) (held : List (Nat × Nat × Value)) (A : AA) (H : Hp) (w : Option Bool) : goStep T ih id o dj rest held A H w = (match w with
  | some true => doOp T ih id o (fun A' H' => ite' (heldOk H' held) (rest held A' H') (ite' dj (rest [] A' H') (.bad 14))) A H
  | some false => put1 o A undef H (rest held)
  | none => .bad 12) := by
  cases w with
  | none => rfl
  | some b => cases b <;> rfl
def tkStep (T : Cx) (id : Nat) (o : Oper) (rest : Rest2) (held : List (Nat × Nat × Value)) (A : AA) (H : Hp) (w : Option Bool) : Out := Option.rec (motive := fun _ => Out) (.bad 12) (fun b => Bool.rec (motive := fun _ => Out) (putR o.dst A undef H (rest held)) (takeStep T id o rest held A H) b) w
theorem tkStep_def (T : Cx) (id : Nat) (o : Oper) (rest : Rest2) (held : List (Nat × Nat × Value)) (A : AA) (H : Hp) (w : Option Bool) : tkStep T id o rest held A H w = (match w with
  | some true => takeStep T id o rest held A H
  | some false => put1 o A undef H (rest held)
  | none => .bad 12) := by
  cases w with
  | none => rfl
  | some b => cases b <;> rfl
def clsStep (r : AH) (rest : Rest2) (held : List (Nat × Nat × Value)) : Out := match r with
  | some r => rest held r.1 r.2
  | none => .bad 32
/-- the last two, in both orders. -/
def stepFork (T : Cx) (ih : Cmd → Out) (ops : List Oper) (D : Nat → Bool) (id : Nat) (x y : OI) (rest : Rest2) (held : List (Nat × Nat × Value)) (A : AA) (H : Hp) : Out :=
  meetOut (goStep T ih id x.o (D x.i) (fun held A H => goStep T ih id y.o (D y.i) rest held A H (wantedA ops A y.o)) held A H (wantedA ops A x.o)) (goStep T ih id y.o (D y.i) (fun held A H => goStep T ih id x.o (D x.i) rest held A H (wantedA ops A x.o)) held A H (wantedA ops A y.o))
def stepCls (T : Cx) (ops : List Oper) (c : Clu) (Z : List Clu) (rest : Rest2) (held : List (Nat × Nat × Value)) (A : AA) (H : Hp) : Out := ite' (trials T ops A H Z) (clsStep (closeC T ops A H c) rest held) (.bad 33)
def stepExt (T : Cx) (ops : List Oper) (c : Clu) (x : OI) (rest : Rest2) (held : List (Nat × Nat × Value)) (A : AA) (H : Hp) : Out := ite' (okAH (closeC T ops (A.forget x.o.dst) H c)) (rest held (A.forget x.o.dst) H) (.bad 31)
def stepZ (T : Cx) (ih : Cmd → Out) (ops : List Oper) (D : Nat → Bool) (id : Nat) (s : Step) (rest : Rest2) (held : List (Nat × Nat × Value)) (A : AA) (H : Hp) : Out := Step.rec (motive := fun _ => Out)
  (fun x => tkStep T id x.o rest held A H (wantedA ops A x.o))
  (fun x Z => ite' (trials T ops A H Z) (goStep T ih id x.o (D x.i) rest held A H (wantedA ops A x.o)) (.bad 30))
  (fun x => rest held (A.forget x.o.dst) H)
  (fun c x => stepExt T ops c x rest held A H)
  (fun c Z => stepCls T ops c Z rest held A H)
  (fun x y => stepFork T ih ops D id x y rest held A H) s
def runZ (T : Cx) (ih : Cmd → Out) (ops : List Oper) (D : Nat → Bool) (id : Nat) (l : List Step) : Rest2 := List.rec (motive := fun _ => Rest2) (fun _ A H => .code .normal A H) (fun s _ rest held A H => stepZ T ih ops D id s rest held A H) l
/-- what is taken first, for D. -/
def flatZ (l : List Step) : List (Nat × Bool) := List.rec (motive := fun _ => List (Nat × Bool)) [] (fun s _ ih => match s with
  | .tk x => (x.i, true) :: ih
  | .ext _ x => (x.i, true) :: ih
  | _ => ih) l
def noSelB (is : List OI) : Bool := allI (fun x => match x.o.op with
  | .select _ _ => false
  | _ => true) is
def drawZ (T : Cx) (ih : Cmd → Out) (ops : Array Oper) (id : Nat) (A : AA) (H : Hp) : Out := match planZ ops with
  | some l => ite' (noSelB (infos ops)) (runZ T ih ops.toList (dOf T ops (flatZ l)) id l [] A H) (.bad 17)
  | none => .bad (2000 + id)

def Sh.fit (s : Sh) : Prop := match s with
  | .ptr => True
  | .mp => True
  | .sl _ c => c < OPN
theorem lateZ_ok {P : Program} {T : Cx} (hT : Fits P T) {o : Oper} {A : AA} {k : Mk} {E : Env} {N : Nat} {a : Act} (h : lateZ T A o.op = some k) (ha : AR ds E N A a) :
    ∃ l', VL E N k.l l' ∧ (∀ w : World, (execOp a.eval o).run P w = .ok (.value (k.s.at w.heap.size)) (w.alloc (obOf k.s l' k.e))) ∧ k.s.fit := by
  unfold lateZ at h
  split at h
  · rename_i t ho
    unfold l_alloc at h
    split at h
    · rename_i i hi
      split at h
      · rename_i z hz
        obtain ⟨hp, h⟩ := ite'_some h
        cases h
        exact ⟨_, plainL_ok hp, fun w => by simp [execOp, ho, Instr.alloc, zeroValue, typeInfo, hT.ty t i hi, hz, newVar, newRow, Sh.at, obOf], trivial⟩
      · cases h
    · cases h
  · rename_i t x ho
    unfold l_box at h
    split at h
    · rename_i u hu
      cases h
      have hc := (ev_ok ha hu).cells
      exact ⟨_, hc, fun w => by simp [execOp, ho, Instr.box, newVar, newRow, Sh.at, obOf], trivial⟩
    · cases h
  · rename_i t len parts ho
    unfold l_buildSlice at h
    split at h
    · rename_i e hu
      split at h
      · rename_i ie hie
        split at h
        · rename_i z hz
          obtain ⟨h1, h⟩ := ite'_some h
          obtain ⟨h2, h⟩ := ite'_some h
          cases h3 : Nat.beq (len * ie.size) 0 with
          | true =>
            rw [h3, ite'_true] at h
            split at h
            · rename_i hps
              obtain ⟨h4, hf3⟩ := ite'_some h
              have hl0 := Nat.eq_of_beq_eq_true h4
              clear h
              cases hf3
              have hps2 : parts = #[] := by
                apply Array.ext'; simpa using hps
              subst hl0
              have hr0 : Array.range 0 = #[] := rfl
              exact ⟨[], .nil, fun w => by simp [execOp, obOf, Sh.at, ho, hps2, Instr.buildSlice, run_underlying (hT.und hu), sizeOf, typeInfo, hT.ty e ie hie, Instr.fill, newRow, hr0], by show 0 < OPN; unfold OPN; omega⟩
            · cases h
          | false =>
            rw [h3, ite'_false] at h
            split at h
            · rename_i ps hps
              split at h
              · rename_i r hfl
                cases h
                obtain ⟨r', e1, e2⟩ := fill_rel _ (evP_ok ha hps) (plainL_ok (E := E) (N := N) h1) hfl
                have h0 : ¬ len * ie.size = 0 := fun h0 => by rw [h0] at h3; cases h3
                have hle := Nat.le_of_ble_eq_true h2
                have hlen : len < OPN := by
                  have : len ≤ len * ie.size := Nat.le_mul_of_pos_right _ (Nat.pos_of_ne_zero fun e0 => h0 (by rw [e0]; rfl))
                  unfold OPN; omega
                refine ⟨_, e2, fun w => ?_, hlen⟩
                have hrun := run_buildSlice (P := P) w t e len (parts.map fun (p : Nat × Operand) => (p.1, a.eval p.2)) r' ie z (hT.und hu) (hT.ty e ie hie) hz (by omega) h0 (by rw [parts_map]; exact e1)
                simp [execOp, obOf, Sh.at, ho, hrun]
              · cases h
            · cases h
        · cases h
      · cases h
    · cases h
  · rename_i t l c ho
    unfold l_makeSlice at h
    split at h
    · rename_i e ht
      split at h
      · rename_i kl n hl
        split at h
        · rename_i kc m hc
          unfold l_mkSl at h
          split at h
          · rename_i i hi
            split at h
            · rename_i z hz
              obtain ⟨h1, f1⟩ := ite'_some h
              obtain ⟨h2, f2⟩ := ite'_some f1
              obtain ⟨h3, f3⟩ := ite'_some f2
              obtain ⟨h4, f4⟩ := ite'_some f3
              obtain ⟨h5, f5⟩ := ite'_some f4
              cases f5
              have e2 : i.size = z.cells.size := by have := Nat.eq_of_beq_eq_true h2; simpa using this
              have e3 := Nat.le_of_ble_eq_true h3
              have e4 := Nat.le_of_ble_eq_true h4
              have e5 : i.bytes * m ≤ 281474976710656 := Nat.le_of_ble_eq_true h5
              refine ⟨_, cyc_vl h1 m, fun w => ?_, by show m < 9223372036854775808; omega⟩
              have hrun := run_make (P := P) (w := w) t e i z (hT.und ht) (hT.ty e i hi) hz kl kc (Int.ofNat n) (Int.ofNat m) (by simp) (by simpa using e3) (by show (i.bytes : Int) * (m : Int) ≤ _; rw [← Int.natCast_mul]; omega) (by simp; omega)
              have hcell : madeCells z.cells ((Int.ofNat m).toNat * i.size) = (cyc z.cells.toList m).toArray := by rw [e2]; exact cyc_made z.cells m
              rw [hcell] at hrun
              have hrun2 : (Instr.makeSlice t (.int kl (n : Int)) (.int kc (m : Int))).run P w = .ok (.slice (some ⟨w.heap.size, 0, none⟩) n m) (w.alloc (.cells (cyc z.cells.toList m).toArray e)) := hrun
              have e6 : a.eval l = .int kl (n : Int) := (ev_ok ha hl).int
              have e7 : a.eval c = .int kc (m : Int) := (ev_ok ha hc).int
              simp [execOp, ho, e6, e7, hrun2, Sh.at, obOf]
            · cases h
          · cases h
        · cases h
      · cases h
    · cases h
  · rename_i t r ho
    unfold l_map at h
    split at h
    · cases h
      exact ⟨[], .nil, fun w => by simp [execOp, ho, Instr.makeMap, obOf, Sh.at], trivial⟩
    · cases h
  · cases h
theorem Sh.vr {E : Env} {N s : Nat} {k : Sh} (hk : k.fit) (hs : E.s N = s) : VR E (N + 1) (k.at N) (k.at s) := by
  subst hs
  cases k with
  | ptr => exact .ptr (Nat.lt_succ_self _)
  | sl l c => exact .slice (Nat.lt_succ_self _) hk
  | mp => exact .map (Nat.lt_succ_self _)
theorem Sh.at_inj {k k2 : Sh} {s : Nat} (h : k.at s = k2.at s) : k = k2 := by
  cases k <;> cases k2 <;> simp [Sh.at] at h ⊢
  exact h
/-- a row that lies there already is claimed. -/
theorem HRel.claim {E : Env} {H : Hp} {w : World} (h : HRel E H w) {s : Nat} {k : Mk} {l' : List Value} (hs : w.heap[s]? = some (obOf k.s l' k.e)) (hu : ∀ b x, H.b.get b = some x → E.s b ≠ s) (hl : VL E H.next k.l l') : HRel (E.add H.next s 0) (newB H k) w := by
  have hs1 : (E.add H.next s 0).s H.next = s := by simp [Env.add]
  have hne : ∀ b, b < H.next → (E.add H.next s 0).s b = E.s b := fun b hb => (Env.add_agree E H.next s 0 b hb).1
  have h2 : VL (E.add H.next s 0) (H.next + 1) k.l l' := hl.mono (Env.add_agree _ _ _ _) (Nat.le_succ _)
  have hn := hl.length
  have key : ∀ b x, (newB H k).b.get b = some x → (b = H.next ∧ x = k.blk) ∨ (b ≠ H.next ∧ H.b.get b = some x) := fun b x hx => by
    simp only [newB, Hp.new, Tr.get_put] at hx
    split at hx
    · rename_i e1; cases hx; exact .inl ⟨e1, rfl⟩
    · rename_i e1; exact .inr ⟨e1, hx⟩
  refine ⟨fun b x hx => ?_, fun b x hx => ?_, fun b b' x x' g1 g2 he => ?_⟩
  · show b < H.next + 1
    rcases key b x hx with ⟨e1, _⟩ | ⟨_, e1⟩
    · omega
    · have := h.lt _ _ e1; omega
  · show BR _ (H.next + 1) b x _
    rcases key b x hx with ⟨e1, e2⟩ | ⟨_, e1⟩
    · subst e1 e2
      rw [hs1, hs]
      obtain ⟨kl, ke, ks⟩ := k
      cases ks with
      | mp => exact ⟨#[], rfl, .nil⟩
      | ptr => exact ⟨l'.toArray, (0, 0), rfl, ⟨fun i _ hh => by omega, fun _ => rfl⟩, by simp [← hn], by simp [← hn], fun i v hi hv => map_rows h2 i v hv⟩
      | sl _ _ => exact ⟨l'.toArray, (0, 0), rfl, ⟨fun i _ hh => by omega, fun _ => rfl⟩, by simp [← hn], by simp [← hn], fun i v hi hv => map_rows h2 i v hv⟩
    · rw [hne _ (h.lt _ _ e1)]
      exact (h.rel _ _ e1).mono (Env.add_agree _ _ _ _) (Nat.le_succ _) (h.lt _ _ e1)
  · rcases key b x g1 with ⟨e1, _⟩ | ⟨_, e1⟩ <;> rcases key b' x' g2 with ⟨e2, _⟩ | ⟨_, e2⟩
    · omega
    · subst e1
      rw [hs1, hne _ (h.lt _ _ e2)] at he
      exact absurd he.symm (hu _ _ e2)
    · subst e2
      rw [hs1, hne _ (h.lt _ _ e1)] at he
      exact absurd he (hu _ _ e1)
    · rw [hne _ (h.lt _ _ e1), hne _ (h.lt _ _ e2)] at he
      exact h.inj _ _ _ _ e1 e2 he
end
end Go.Proofs.YtanhkchpffkloaaGreatDoor
