import Derived.Test.YtanhkchpffkloaaGreatDoorEg
import Derived.Laws.Tables
import Derived.Laws.MakeOwn
import Derived.Laws.BytesArg
import Derived.Great.BuildSlice
namespace Go.Proofs.YtanhkchpffkloaaGreatDoor
open Go
set_option linter.unusedVariables false
set_option linter.unusedSimpArgs false
noncomputable section
variable {ds : List Deferred}
def isLenD : TypeDesc → Bool
  | .slice _ => true
  | _ => false
def o_len (t : TypeId) (x : Operand) : OpF := fun T A H => match ev A x with
  | some (.slice _ n _) => (match T.und t with
    | some (.slice _) => some (.int .i64 (Int.ofNat n), H)
    | _ => none)
  | some (.string s) => (match T.und t with
    | some .string => some (.int .i64 (Int.ofNat s.data.toList.length), H)
    | _ => none)
  | some (.chan none) => (match T.und t with
    | some (.slice _) => some (.int .i64 (Int.ofNat 0), H)
    | _ => none)
  | _ => none
theorem len_ok {P : Program} {T : Cx} (hT : Fits P T) {o : Oper} {t : TypeId} {x : Operand} (h : o.op = .call ⟨.builtin .len, #[x], #[t]⟩) : SoundP ds P T o (o_len t x) := fun A H v H' hf E a ha => by
  unfold o_len at hf
  split at hf
  · rename_i p n c hb
    split at hf
    · rename_i e ht; cases hf
      refine pure_ok (v' := .int .i64 n) (fun w => ?_) (.same rfl)
      have hs : ∃ p' c', a.eval x = .slice p' n c' := by
        cases p with
        | none => obtain ⟨e1, e2, e3⟩ := (ev_ok ha hb).snil; rw [e3, e1]; exact ⟨_, _, rfl⟩
        | some p => obtain ⟨_, _, c', e3, _⟩ := (ev_ok ha hb).sl; exact ⟨_, _, e3⟩
      obtain ⟨p', c', e3⟩ := hs
      simp [execOp, h, resolve, invoke, builtin, Builtin.len_, run_underlying (hT.und ht), e3, goInt]
    · cases hf
  · rename_i s hb
    split at hf
    · rename_i ht; cases hf
      refine pure_ok (v' := .int .i64 s.size) (fun w => ?_) (.same rfl)
      simp [execOp, h, resolve, invoke, builtin, Builtin.len_, run_underlying (hT.und ht), (ev_ok ha hb).string, goInt]
    · cases hf
  · rename_i hb
    split at hf
    · rename_i e ht; cases hf
      refine pure_ok (v' := .int .i64 (Int.ofNat 0)) (fun w => ?_) (.same rfl)
      obtain ⟨q, c, e3⟩ := (ev_ok ha hb).tl
      simp [execOp, h, resolve, invoke, builtin, Builtin.len_, run_underlying (hT.und ht), e3, goInt]
    · cases hf
  · cases hf
def o_conv (s d : TypeId) (x : Operand) : OpF := fun T A H => match ev A x with
  | some (.int _ n) => (match T.und s with
    | some _ => (match T.und d with
      | some (.int k) => some (.int k (wrapF k n), H)
      | _ => none)
    | none => none)
  | some (.string b) => (match T.und s with
    | some _ => (match T.und d with
      | some .string => some (.string b, H)
      | _ => none)
    | none => none)
  | _ => none
theorem conv_ok {P : Program} {T : Cx} (hT : Fits P T) {o : Oper} {s d : TypeId} {x : Operand} (h : o.op = .convert s d x) : SoundP ds P T o (o_conv s d x) := fun A H v H' hf E a ha => by
  unfold o_conv at hf
  split at hf
  · rename_i q n hb
    split at hf
    · rename_i ds hs
      split at hf
      · rename_i k hd; cases hf
        refine pure_ok (v' := .int k (wrapF k n)) (fun w => ?_) (.same rfl)
        simp [execOp, h, convert, run_underlying (hT.und hs), run_underlying (hT.und hd), (ev_ok ha hb).int, Conv.intToInt, wrapF_eq]
      · cases hf
    · cases hf
  · rename_i b hb
    split at hf
    · rename_i ds hs
      split at hf
      · rename_i hd; cases hf
        refine pure_ok (v' := .string b) (fun w => ?_) (.same rfl)
        simp [execOp, h, convert, run_underlying (hT.und hs), run_underlying (hT.und hd), (ev_ok ha hb).string]
      · cases hf
    · cases hf
  · cases hf
theorem VL.set {E : Env} {N : Nat} : ∀ {l l' : List Value} (h : VL E N l l') (i : Nat) {v v' : Value} (hv : VR E N v v'), VL E N (l.set i v) (l'.set i v')
  | _, _, .nil, _, _, _, _ => .nil
  | _, _, .cons h t, 0, _, _, hv => .cons hv t
  | _, _, .cons h t, i + 1, _, _, hv => .cons h (t.set i hv)
theorem fold_set {E : Env} {N : Nat} (off : Nat) : ∀ {vs vs' : List Value} (h : VL E N vs vs') (j : Nat) {cs cs' : Array Value} (hc : VL E N cs.toList cs'.toList),
    VL E N ((vs.zipIdx j).foldl (fun cs (p : Value × Nat) => cs.setIfInBounds (off + p.2) p.1) cs).toList ((vs'.zipIdx j).foldl (fun cs (p : Value × Nat) => cs.setIfInBounds (off + p.2) p.1) cs').toList
  | _, _, .nil, _, _, _, hc => hc
  | _, _, .cons h t, j, cs, cs', hc => by
    simp only [List.zipIdx_cons, List.foldl_cons]
    exact fold_set off t (j + 1) (by simp only [Array.toList_setIfInBounds]; exact hc.set _ h)
inductive PL (E : Env) (N : Nat) : List (Nat × Value) → List (Nat × Value) → Prop
  | nil : PL E N [] []
  | cons {i : Nat} {v v' : Value} {l l' : List (Nat × Value)} (h : VR E N v v') (t : PL E N l l') : PL E N ((i, v) :: l) ((i, v') :: l')
theorem foldl_zip {α β : Type} (f : α → β × Nat → α) (i : α) (arr : Array β) : Array.foldl f i arr.zipIdx 0 arr.size = List.foldl f i (arr.toList.zipIdx 0) := by
  have e : arr.size = arr.zipIdx.size := by simp
  rw [e, ← Array.foldl_toList, Array.toList_zipIdx]
theorem fill_rel {E : Env} {N : Nat} (place : Nat → Option (Nat × Nat)) : ∀ {ps ps' : List (Nat × Value)} (h : PL E N ps ps') {cs cs' r : Array Value}, VL E N cs.toList cs'.toList → Instr.fill place cs ps = some r → ∃ r', Instr.fill place cs' ps' = some r' ∧ VL E N r.toList r'.toList
  | _, _, .nil, cs, cs', r, hc, hf => by
    simp only [Instr.fill, Option.some.injEq] at hf ⊢
    subst hf; exact ⟨_, rfl, hc⟩
  | _, _, .cons (i := i) (v := v) (v' := v') h t, cs, cs', r, hc, hf => by
    unfold Instr.fill at hf ⊢
    cases hp : place i with
    | none => rw [hp] at hf; cases hf
    | some q =>
      rw [hp] at hf
      obtain ⟨off, size⟩ := q
      simp only at hf ⊢
      have hsz : v'.cells.size = v.cells.size := by have := h.cells.length; simpa using this.symm
      have hcs : cs'.size = cs.size := by have := hc.length; simpa using this.symm
      rw [hsz, hcs]
      split at hf
      · cases hf
      · rename_i hn
        rw [if_neg hn]
        refine fill_rel place t ?_ hf
        have := fold_set (E := E) (N := N) off h.cells 0 hc
        have e1 := foldl_zip (fun (cs : Array Value) (p : Value × Nat) => cs.setIfInBounds (off + p.2) p.1) cs v.cells
        have e2 := foldl_zip (fun (cs : Array Value) (p : Value × Nat) => cs.setIfInBounds (off + p.2) p.1) cs' v'.cells
        rw [← e1, ← e2] at this
        simpa using this
def evP (A : AA) (l : List (Nat × Operand)) : Option (List (Nat × Value)) := List.rec (motive := fun _ => Option (List (Nat × Value))) (some []) (fun p _ ih => match ev A p.2 with
  | some v => (match ih with
    | some l => some ((p.1, v) :: l)
    | none => none)
  | none => none) l
theorem evP_ok {E : Env} {N : Nat} {A : AA} {a : Act} (h : AR ds E N A a) : ∀ {l : List (Nat × Operand)} {vs : List (Nat × Value)}, evP A l = some vs → PL E N vs (l.map fun p => (p.1, a.eval p.2))
  | [], vs, hv => by cases hv; exact .nil
  | x :: l, vs, hv => by
    change (match ev A x.2 with
      | some v => (match evP A l with
        | some l => some ((x.1, v) :: l)
        | none => none)
      | none => none) = some vs at hv
    cases h1 : ev A x.2 with
    | none => rw [h1] at hv; cases hv
    | some v =>
      cases h2 : evP A l with
      | none => rw [h1, h2] at hv; cases hv
      | some l2 =>
        rw [h1, h2] at hv; cases hv
        exact .cons (ev_ok h h1) (evP_ok h h2)
def placesA (T : Cx) (l : List Field) : Option (List (Nat × Nat)) := List.rec (motive := fun _ => Option (List (Nat × Nat))) (some []) (fun f _ ih => match T.ty.get f.type with
  | some i => (match ih with
    | some l => some ((f.offset, i.size) :: l)
    | none => none)
  | none => none) l
theorem placesA_ok {P : Program} {T : Cx} (hT : Fits P T) : ∀ {l : List Field} {r : List (Nat × Nat)}, placesA T l = some r → l.mapM (fun f => (P.info? f.type).map fun i => (f.offset, i.size)) = some r
  | [], r, h => by cases h; rfl
  | f :: l, r, h => by
    change (match T.ty.get f.type with
      | some i => (match placesA T l with
        | some l => some ((f.offset, i.size) :: l)
        | none => none)
      | none => none) = some r at h
    cases h1 : T.ty.get f.type with
    | none => rw [h1] at h; cases h
    | some i =>
      cases h2 : placesA T l with
      | none => rw [h1, h2] at h; cases h
      | some r2 =>
        rw [h1, h2] at h; cases h
        simp [List.mapM_cons, hT.ty _ i h1, placesA_ok hT h2]
/-- what a composite of type t is, of these parts. -/
def builtA (T : Cx) (t : TypeId) (parts : List (Nat × Value)) : Option (Array Value) := match T.ty.get t with
  | some it => (match it.zero with
    | some z => ite' (plainL z.cells.toList) (match T.und t with
      | some (.array _ e) => (match T.ty.get e with
        | some ie => Instr.fill (fun i => some (i * ie.size, ie.size)) z.cells parts
        | none => none)
      | some (.struct fields) => (match placesA T fields.toList with
        | some places => Instr.fill (places.toArray[·]?) z.cells parts
        | none => none)
      | _ => none) none
    | none => none)
  | none => none
theorem builtA_ok {P : Program} {T : Cx} (hT : Fits P T) {E : Env} {N : Nat} {t : TypeId} {ps ps' : List (Nat × Value)} {r : Array Value} (h : builtA T t ps = some r) (hp : PL E N ps ps') : ∃ r', P.built t ps' = some r' ∧ VL E N r.toList r'.toList := by
  unfold builtA at h
  unfold Program.built
  split at h
  · rename_i it hit
    split at h
    · rename_i z hz
      obtain ⟨h1, h⟩ := ite'_some h
      have hz2 := plainL_ok (E := E) (N := N) h1
      rw [hT.ty t it hit]
      split at h
      · rename_i n e hu
        split at h
        · rename_i ie hie
          obtain ⟨r', e1, e2⟩ := fill_rel _ hp hz2 h
          refine ⟨r', ?_, e2⟩
          simp only [hT.und hu, hz, hT.ty e ie hie]
          exact e1
        · cases h
      · rename_i fields hu
        split at h
        · rename_i places hpl
          obtain ⟨r', e1, e2⟩ := fill_rel _ hp hz2 h
          refine ⟨r', ?_, e2⟩
          simp only [hT.und hu, hz, placesA_ok hT hpl]
          exact e1
        · cases h
      · cases h
    · cases h
  · cases h
def o_build (t : TypeId) (parts : List (Nat × Operand)) : OpF := fun T A H => match evP A parts with
  | some ps => (match builtA T t ps with
    | some r => some (.agg r, H)
    | none => none)
  | none => none
theorem parts_map (a : Act) (parts : Array (Nat × Operand)) : (parts.map fun (p : Nat × Operand) => (p.1, a.eval p.2)).toList = parts.toList.map fun p => (p.1, a.eval p.2) := by simp
theorem build_ok {P : Program} {T : Cx} (hT : Fits P T) {o : Oper} {t : TypeId} {parts : Array (Nat × Operand)} (h : o.op = .build t parts) : SoundP ds P T o (o_build t parts.toList) := fun A H v H' hf E a ha => by
  unfold o_build at hf
  split at hf
  · rename_i ps hps
    split at hf
    · rename_i r hb; cases hf
      obtain ⟨r', e1, e2⟩ := builtA_ok hT hb (evP_ok ha hps)
      refine pure_ok (v' := .agg r') (fun w => ?_) (by have z := VR.agg e2; simpa using z)
      have hrun := run_build (P := P) w t (parts.map fun (p : Nat × Operand) => (p.1, a.eval p.2)) r' (by rw [parts_map]; exact e1)
      simp [execOp, h, hrun]
    · cases hf
  · cases hf
def o_buildSlice (t : TypeId) (len : Nat) (parts : List (Nat × Operand)) : OpF := fun T A H => match T.und t with
  | some (.slice e) => (match T.ty.get e with
    | some ie => (match ie.zero with
      | some z => ite' (plainL ((Array.range (len * ie.size)).map (z.cells[· % z.cells.size]!)).toList) (ite' (Nat.ble (len * ie.size) 16777216) (ite' (Nat.beq (len * ie.size) 0) (match parts with
        | [] => ite' (Nat.beq len 0) (some (.slice (some ⟨H.next, 0, none⟩) 0 0, newRowB H e [])) none
        | _ => none) (match evP A parts with
        | some ps => (match Instr.fill (fun i => some (i * ie.size, ie.size)) ((Array.range (len * ie.size)).map (z.cells[· % z.cells.size]!)) ps with
          | some r => some (.slice (some ⟨H.next, 0, none⟩) len len, newRowB H e r.toList)
          | none => none)
        | none => none)) none) none
      | none => none)
    | none => none)
  | _ => none
theorem new_slice {E : Env} {H : Hp} {w : World} (hn : (E.add H.next w.heap.size 0).s H.next = w.heap.size) (l c : Nat) (hc : c < OPN) : VR (E.add H.next w.heap.size 0) (H.next + 1) (.slice (some ⟨H.next, 0, none⟩) l c) (.slice (some ⟨w.heap.size, 0, none⟩) l c) := by
  have z := VR.slice (E := E.add H.next w.heap.size 0) (N := H.next + 1) (o := 0) (l := l) (Nat.lt_succ_self H.next) hc
  rw [hn] at z; exact z
theorem buildSlice_ok {P : Program} {T : Cx} (hT : Fits P T) {o : Oper} {t : TypeId} {len : Nat} {parts : Array (Nat × Operand)} (h : o.op = .buildSlice t len parts) : Sound ds P T o (o_buildSlice t len parts.toList) := fun A H v H' hf E a w ha hr => by
  unfold o_buildSlice at hf
  split at hf
  · rename_i e hu
    split at hf
    · rename_i ie hie
      split at hf
      · rename_i z hz
        obtain ⟨h1, hf⟩ := ite'_some hf
        obtain ⟨h2, hf⟩ := ite'_some hf
        cases h3 : Nat.beq (len * ie.size) 0 with
        | true =>
          rw [h3, ite'_true] at hf
          split at hf
          · rename_i hps
            obtain ⟨h4, hf3⟩ := ite'_some hf
            have hl0 := Nat.eq_of_beq_eq_true h4
            clear hf
            cases hf3
            have hps2 : parts = #[] := by
              apply Array.ext'; simpa using hps
            subst hl0
            obtain ⟨g1, g2, g3⟩ := newRow_ok hr (VL.nil (E := E) (N := H.next)) e
            refine ⟨_, .slice (some ⟨w.heap.size, 0, none⟩) 0 0, _, _, ?_, .inl rfl, g2, new_slice g3 0 0 (by decide), g1⟩
            have hr0 : Array.range 0 = #[] := rfl
            simp [execOp, h, hps2, Instr.buildSlice, run_underlying (hT.und hu), sizeOf, typeInfo, hT.ty e ie hie, Instr.fill, newRow, hr0]
          · cases hf
        | false =>
        rw [h3, ite'_false] at hf
        split at hf
        · rename_i ps hps
          split at hf
          · rename_i r hfl; cases hf
            obtain ⟨r', e1, e2⟩ := fill_rel _ (evP_ok ha hps) (plainL_ok (E := E) (N := H.next) h1) hfl
            obtain ⟨g1, g2, g3⟩ := newRow_ok hr e2 e
            have h0 : ¬ len * ie.size = 0 := fun h0 => by rw [h0] at h3; cases h3
            have hle := Nat.le_of_ble_eq_true h2
            have hlen : len < OPN := by
              have : len ≤ len * ie.size := Nat.le_mul_of_pos_right _ (Nat.pos_of_ne_zero fun e0 => h0 (by rw [e0]; rfl))
              unfold OPN; omega
            refine ⟨_, .slice (some ⟨w.heap.size, 0, none⟩) len len, _, _, ?_, .inl rfl, g2, new_slice g3 len len hlen, g1⟩
            have hrun := run_buildSlice (P := P) w t e len (parts.map fun (p : Nat × Operand) => (p.1, a.eval p.2)) r' ie z (hT.und hu) (hT.ty e ie hie) hz (by omega) h0 (by rw [parts_map]; exact e1)
            simp [execOp, h, hrun]
          · cases hf
        · cases hf
      · cases hf
    · cases hf
  · cases hf
def optB (x : Option Value) (d : Nat) : Option Nat := match x with
  | none => some d
  | some (.int _ (.ofNat n)) => some n
  | _ => none
/-- an operand that may lack. -/
def evO (A : AA) (x : Option Operand) : Option (Option Value) := match x with
  | none => some none
  | some x => (match ev A x with
    | some v => some (some v)
    | none => none)
def hmOk (hi mx : Option Value) : Bool := match mx with
  | none => true
  | some _ => (match hi with
    | none => false
    | some _ => true)
def sliceV (v : Value) (e : Nat) (lo hi mx : Option Value) : Option Value := match v with
  | .slice none _ _ => (match optB mx 0 with
    | some m => (match optB hi 0 with
      | some h => (match optB lo 0 with
        | some l => ite' (Nat.beq m 0) (ite' (Nat.beq h 0) (ite' (Nat.beq l 0) (some (.slice none 0 0)) none) none) none
        | none => none)
      | none => none)
    | none => none)
  | .slice (some p) len cap => ite' (Nat.ble cap OPN)
    (match optB mx cap with
    | some m => (match optB hi len with
      | some h => (match optB lo 0 with
        | some l => ite' (Nat.ble l h) (ite' (Nat.ble h m) (ite' (Nat.ble m cap) (some (.slice (some ⟨p.block, ite' (Nat.beq m l) p.off (Nat.add p.off (Nat.mul l e)), none⟩) (Nat.sub h l) (Nat.sub m l))) none) none) none
        | none => none)
      | none => none)
    | none => none)
    (match mx with
    | none => (match optB hi len with
      | some h => (match optB lo 0 with
        | some l => ite' (Nat.ble l h) (ite' (Nat.ble h len) (ite' (ite' (Nat.beq l 0) true (Nat.ble (Nat.succ l) len)) (ite' (Nat.beq cap (Nat.add OPN e)) (some (.slice (some ⟨p.block, Nat.add p.off (Nat.mul l e), none⟩) (Nat.sub h l) cap)) none) (some (.chan none))) none) none
        | none => none)
      | none => none)
    | some _ => none)
  | _ => none
def o_slice (t : TypeId) (x : Operand) (lo hi mx : Option Operand) : OpF := fun T A H => match ev A x with
  | some v => (match evO A lo with
    | some lo => (match evO A hi with
      | some hi => (match evO A mx with
        | some mx => (match T.und t with
          | some (.slice e) => (match T.ty.get e with
            | some i => ite' (hmOk hi mx) (withH (sliceV v i.size lo hi mx) H) none
            | none => none)
          | _ => none)
        | none => none)
      | none => none)
    | none => none)
  | none => none
theorem evO_ok {E : Env} {N : Nat} {A : AA} {a : Act} (h : AR ds E N A a) {x : Option Operand} {v : Option Value} (hv : evO A x = some v) : (x = none ∧ v = none) ∨ ∃ y u, x = some y ∧ v = some u ∧ VR E N u (a.eval y) := by
  unfold evO at hv
  split at hv
  · cases hv; exact .inl ⟨rfl, rfl⟩
  · split at hv
    · rename_i u hu; cases hv; exact .inr ⟨_, _, rfl, rfl, ev_ok h hu⟩
    · cases hv
theorem optB_ok {E : Env} {N : Nat} {A : AA} {a : Act} (h : AR ds E N A a) {x : Option Operand} {v : Option Value} (hv : evO A x = some v) {d n : Nat} (hb : optB v d = some n) : (x.map a.eval = none ∧ v = none ∧ n = d) ∨ ∃ k, x.map a.eval = some (.int k n) := by
  rcases evO_ok h hv with ⟨rfl, rfl⟩ | ⟨y, u, rfl, rfl, r⟩
  · cases hb; exact .inl ⟨rfl, rfl, rfl⟩
  · right
    unfold optB at hb
    split at hb
    · rename_i e; cases e
    · rename_i k m e
      cases e; cases hb
      exact ⟨k, by simp [r.int]⟩
    · cases hb
theorem bound_run {P : Program} {w : World} {k : IntKind} {n y : Nat} {code : BoundsCode} (h : n ≤ y) : (Instr.sliceBound (.int k n) y code).run P w = .ok n w := by
  simp [Instr.sliceBound, asIntOf, h]
theorem bounds_run {P : Program} {w : World} {len cap l h m : Nat} {lo hi mx : Option Value} (hm : (mx = none ∧ m = cap) ∨ ∃ k, mx = some (.int k m)) (hh : (hi = none ∧ h = len ∧ mx = none) ∨ ∃ k, hi = some (.int k h)) (hl : (lo = none ∧ l = 0) ∨ ∃ k, lo = some (.int k l)) (h1 : l ≤ h) (h2 : h ≤ m) (h3 : m ≤ cap) :
    (Instr.sliceBounds true len cap lo hi mx).run P w = .ok (l, h, m) w := by
  unfold Instr.sliceBounds
  rcases hm with ⟨rfl, rfl⟩ | ⟨k1, rfl⟩ <;> rcases hh with ⟨rfl, rfl, e⟩ | ⟨k2, rfl⟩ <;> rcases hl with ⟨rfl, rfl⟩ | ⟨k3, rfl⟩ <;> (try cases e) <;> simp [bound_run, h1, h2, h3]
theorem slice_ok {P : Program} {T : Cx} (hT : Fits P T) {o : Oper} {t : TypeId} {x : Operand} {lo hi mx : Option Operand} (h : o.op = .slice t x lo hi mx) : SoundP ds P T o (o_slice t x lo hi mx) := fun A H v H' hf E a ha => by
  unfold o_slice at hf
  split at hf
  · rename_i u hu
    split at hf
    · rename_i lo' hlo
      split at hf
      · rename_i hi' hhi
        split at hf
        · rename_i mx' hmx
          split at hf
          · rename_i e ht
            split at hf
            · rename_i i hi2
              obtain ⟨hhm, hf1⟩ := ite'_some hf
              clear hf
              obtain ⟨hf2, e0⟩ := withH_some hf1
              subst e0
              clear hf1
              have hhi2 : ∀ {h0 len : Nat}, optB hi' len = some h0 → (hi.map a.eval = none ∧ h0 = len ∧ mx.map a.eval = none) ∨ ∃ k, hi.map a.eval = some (.int k h0) := fun {h0 len} hh => by
                rcases optB_ok ha hhi hh with z | z
                · refine .inl ⟨z.1, z.2.2, ?_⟩
                  unfold hmOk at hhm
                  rcases evO_ok ha hmx with ⟨rfl, rfl⟩ | ⟨y, u2, rfl, rfl, _⟩
                  · rfl
                  · rw [z.2.1] at hhm; cases hhm
                · exact .inr z
              have hv := ev_ok ha hu
              have hP := hT.und ht
              have hI := hT.ty e i hi2
              unfold sliceV at hf2
              split at hf2
              · obtain ⟨q1, q2, q3⟩ := hv.snil
                subst q1 q2
                split at hf2
                · rename_i m hm
                  split at hf2
                  · rename_i h0 hh
                    split at hf2
                    · rename_i l hl
                      obtain ⟨z1, f1⟩ := ite'_some hf2
                      obtain ⟨z2, f2⟩ := ite'_some f1
                      obtain ⟨z3, f3⟩ := ite'_some f2
                      cases f3
                      have m0 := Nat.eq_of_beq_eq_true z1
                      have hh0 := Nat.eq_of_beq_eq_true z2
                      have l0 := Nat.eq_of_beq_eq_true z3
                      subst m0 hh0 l0
                      refine pure_ok (v' := .slice none 0 0) (fun w => ?_) (.same rfl)
                      have hb := bounds_run (P := P) (w := w) (len := 0) (cap := 0) (l := 0) (h := 0) (m := 0) (lo := lo.map a.eval) (hi := hi.map a.eval) (mx := mx.map a.eval)
                        ((optB_ok ha hmx hm).imp (fun z => ⟨z.1, rfl⟩) id) (hhi2 hh) ((optB_ok ha hlo hl).imp (fun z => ⟨z.1, rfl⟩) id) (Nat.le_refl _) (Nat.le_refl _) (Nat.le_refl _)
                      simp [execOp, h, Instr.sliceAt, Instr.slice, run_underlying hP, q3, hb, sizeOf, typeInfo, hI]
                    · cases hf2
                  · cases hf2
                · cases hf2
              · rename_i p len cap
                obtain ⟨hsp, hpb, c', q3, hc⟩ := hv.sl
                cases hcb : Nat.ble cap OPN with
                | true =>
                  rw [hcb, ite'_true] at hf2
                  have hle := Nat.le_of_ble_eq_true hcb
                  obtain ⟨hc1, hc2⟩ : cap < OPN ∧ c' = cap := by
                    rcases hc with z | z
                    · exact z
                    · omega
                  subst hc2
                  split at hf2
                  · rename_i m hm
                    split at hf2
                    · rename_i h0 hh
                      split at hf2
                      · rename_i l hl
                        obtain ⟨z1, f1⟩ := ite'_some hf2
                        obtain ⟨z2, f2⟩ := ite'_some f1
                        obtain ⟨z3, f3⟩ := ite'_some f2
                        cases f3
                        have k1 := Nat.le_of_ble_eq_true z1
                        have k2 := Nat.le_of_ble_eq_true z2
                        have k3 := Nat.le_of_ble_eq_true z3
                        have hb := fun w => bounds_run (P := P) (w := w) (len := len) (cap := c') (l := l) (h := h0) (m := m) (lo := lo.map a.eval) (hi := hi.map a.eval) (mx := mx.map a.eval)
                          ((optB_ok ha hmx hm).imp (fun z => ⟨z.1, z.2.2⟩) id) (hhi2 hh) ((optB_ok ha hlo hl).imp (fun z => ⟨z.1, z.2.2⟩) id) k1 k2 k3
                        have hoff : ite' (Nat.beq m l) p.off (Nat.add p.off (Nat.mul l i.size)) = if m = l then p.off else p.off + l * i.size := by
                          rw [beq_dec]
                          by_cases e1 : m = l
                          · rw [if_pos e1, decide_eq_true e1]
                          · rw [if_neg e1, decide_eq_false e1]; rfl
                        rw [hoff]
                        refine pure_ok (v' := .slice (some ⟨E.s p.block, if m = l then p.off else p.off + l * i.size, none⟩) (h0 - l) (m - l)) (fun w => ?_) (.slice hpb (show m - l < OPN by omega))
                        by_cases e1 : m = l
                        · simp [execOp, h, Instr.sliceAt, Instr.slice, run_underlying hP, q3, hb w, sizeOf, typeInfo, hI, e1]
                        · simp [execOp, h, Instr.sliceAt, Instr.slice, run_underlying hP, q3, hb w, sizeOf, typeInfo, hI, e1, add_plain']
                      · cases hf2
                    · cases hf2
                  · cases hf2
                | false =>
                  rw [hcb, ite'_false] at hf2
                  have hgt := ble_false hcb
                  obtain ⟨hc1, hc2, hc3⟩ : OPN < cap ∧ len ≤ c' ∧ p.off + c' * (cap - OPN) = E.k p.block := by
                    rcases hc with z | z
                    · omega
                    · exact z
                  split at hf2
                  · split at hf2
                    · rename_i h0 hh
                      split at hf2
                      · rename_i l hl
                        obtain ⟨z1, f1⟩ := ite'_some hf2
                        obtain ⟨z2, f2⟩ := ite'_some f1
                        have k1 := Nat.le_of_ble_eq_true z1
                        have k2 := Nat.le_of_ble_eq_true z2
                        have hmx0 : mx.map a.eval = none := by
                          rcases evO_ok ha hmx with ⟨rfl, _⟩ | ⟨y, u2, rfl, e1, _⟩
                          · rfl
                          · cases e1
                        have hb := fun w => bounds_run (P := P) (w := w) (len := len) (cap := c') (l := l) (h := h0) (m := c') (lo := lo.map a.eval) (hi := hi.map a.eval) (mx := mx.map a.eval)
                          (.inl ⟨hmx0, rfl⟩) (hhi2 hh) ((optB_ok ha hlo hl).imp (fun z => ⟨z.1, z.2.2⟩) id) k1 (Nat.le_trans k2 hc2) (Nat.le_refl _)
                        cases z3 : ite' (Nat.beq l 0) true (Nat.ble (Nat.succ l) len) with
                        | false =>
                          rw [z3, ite'_false] at f2
                          cases f2
                          have hll : h0 - l = 0 := by
                            cases hb0 : Nat.beq l 0 with
                            | true => rw [hb0] at z3; cases z3
                            | false =>
                              rw [hb0, ite'_false] at z3
                              have := ble_false z3
                              omega
                          refine pure_ok (v' := .slice (some ⟨E.s p.block, if c' = l then p.off else p.off + l * i.size, none⟩) 0 (c' - l)) (fun w => ?_) .tail
                          by_cases e1 : c' = l
                          · have hbw := hb w
                            rw [e1] at hbw
                            simp [execOp, h, Instr.sliceAt, Instr.slice, run_underlying hP, q3, hbw, sizeOf, typeInfo, hI, e1, hll]
                          · simp [execOp, h, Instr.sliceAt, Instr.slice, run_underlying hP, q3, hb w, sizeOf, typeInfo, hI, e1, add_plain', hll]
                        | true =>
                        rw [z3, ite'_true] at f2
                        obtain ⟨z4, f4⟩ := ite'_some f2
                        cases f4
                        have k4 : cap = OPN + i.size := Nat.eq_of_beq_eq_true z4
                        have k3 : l = 0 ∨ l < len := by
                          cases hb0 : Nat.beq l 0 with
                          | true => exact .inl (Nat.eq_of_beq_eq_true hb0)
                          | false => rw [hb0, ite'_false] at z3; exact .inr (ble_lt z3)
                        rw [k4, Nat.add_sub_cancel_left] at hc3
                        have hoff : (if c' = l then p.off else p.off + l * i.size) = p.off + l * i.size := by
                          split
                          · rename_i e1
                            have : l = 0 := by omega
                            rw [this]; simp
                          · rfl
                        refine pure_ok (v' := .slice (some ⟨E.s p.block, p.off + l * i.size, none⟩) (h0 - l) (c' - l)) (fun w => ?_) ?_
                        · by_cases e1 : c' = l
                          · have e2 : p.off + l * i.size = p.off := by rw [if_pos e1] at hoff; exact hoff.symm
                            have hbw := hb w
                            rw [e1] at hbw
                            simp [execOp, h, Instr.sliceAt, Instr.slice, run_underlying hP, q3, hbw, sizeOf, typeInfo, hI, e1, e2]
                          · simp [execOp, h, Instr.sliceAt, Instr.slice, run_underlying hP, q3, hb w, sizeOf, typeInfo, hI, e1, add_plain']
                        · refine .open_ hpb hc1 (show h0 - l ≤ c' - l by omega) ?_
                          show p.off + l * i.size + (c' - l) * (cap - OPN) = _
                          rw [k4, Nat.add_sub_cancel_left, ← hc3, Nat.add_assoc, ← Nat.add_mul]
                          congr 2; omega
                      · cases hf2
                    · cases hf2
                  · cases hf2
              · cases hf2
            · cases hf
          · cases hf
        · cases hf
      · cases hf
    · cases hf
  · cases hf
end
end Go.Proofs.YtanhkchpffkloaaGreatDoor
