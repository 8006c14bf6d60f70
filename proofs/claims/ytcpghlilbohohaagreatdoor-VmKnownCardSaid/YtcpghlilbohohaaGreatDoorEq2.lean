import Derived.Test.YtcpghlilbohohaaGreatDoorEq1
import Derived.Laws.Tables
import Derived.Laws.MakeOwn
import Derived.Laws.BytesArg
import Derived.Great.BuildSlice
import Derived.Laws.AppendOwn
namespace Go.Proofs.YtcpghlilbohohaaGreatDoor
open Go
set_option linter.unusedVariables false
set_option linter.unusedSimpArgs false
noncomputable section
variable {ds : List Deferred}
def isLenD : TypeDesc → Bool
  | .slice _ => true
  | _ => false
def o_len (t : TypeId) (x : Operand) : OpF := fun T A H => match ev A x with
  | some (.slice _ n _) => (match T.und t with
    | some (.slice _) => some (.int .i64 (Int.ofNat n), H)
    | _ => none)
  | some (.string s) => (match T.und t with
    | some .string => some (.int .i64 (Int.ofNat s.data.toList.length), H)
    | _ => none)
  | some (.chan none) => (match T.und t with
    | some (.slice _) => some (.int .i64 (Int.ofNat 0), H)
    | _ => none)
  | _ => none
theorem len_ok {P : Program} {T : Cx} (hT : Fits P T) {o : Oper} {t : TypeId} {x : Operand} (h : o.op = .call ⟨.builtin .len, #[x], #[t]⟩) : SoundP ds P T o (o_len t x) := fun A H v H' hf E a ha => by
  unfold o_len at hf
  split at hf
  · rename_i p n c hb
    split at hf
    · rename_i e ht; cases hf
      refine pure_ok (v' := .int .i64 n) (fun w => ?_) (.same rfl)
      have hs : ∃ p' c', a.eval x = .slice p' n c' := by
        cases p with
        | none => obtain ⟨e1, e2, e3⟩ := (ev_ok ha hb).snil; rw [e3, e1]; exact ⟨_, _, rfl⟩
        | some p => obtain ⟨_, _, c', e3, _⟩ := (ev_ok ha hb).sl; exact ⟨_, _, e3⟩
      obtain ⟨p', c', e3⟩ := hs
      simp [execOp, h, resolve, invoke, builtin, Builtin.len_, run_underlying (hT.und ht), e3, goInt]
    · cases hf
  · rename_i s hb
    split at hf
    · rename_i ht; cases hf
      refine pure_ok (v' := .int .i64 s.size) (fun w => ?_) (.same rfl)
      simp [execOp, h, resolve, invoke, builtin, Builtin.len_, run_underlying (hT.und ht), (ev_ok ha hb).string, goInt]
    · cases hf
  · rename_i hb
    split at hf
    · rename_i e ht; cases hf
      refine pure_ok (v' := .int .i64 (Int.ofNat 0)) (fun w => ?_) (.same rfl)
      obtain ⟨q, c, e3⟩ := (ev_ok ha hb).tl
      simp [execOp, h, resolve, invoke, builtin, Builtin.len_, run_underlying (hT.und ht), e3, goInt]
    · cases hf
  · cases hf
def o_conv (s d : TypeId) (x : Operand) : OpF := fun T A H => match ev A x with
  | some (.int _ n) => (match T.und s with
    | some _ => (match T.und d with
      | some (.int k) => some (.int k (wrapF k n), H)
      | _ => none)
    | none => none)
  | some (.string b) => (match T.und s with
    | some _ => (match T.und d with
      | some .string => some (.string b, H)
      | _ => none)
    | none => none)
  | _ => none
theorem conv_ok {P : Program} {T : Cx} (hT : Fits P T) {o : Oper} {s d : TypeId} {x : Operand} (h : o.op = .convert s d x) : SoundP ds P T o (o_conv s d x) := fun A H v H' hf E a ha => by
  unfold o_conv at hf
  split at hf
  · rename_i q n hb
    split at hf
    · rename_i ds hs
      split at hf
      · rename_i k hd; cases hf
        refine pure_ok (v' := .int k (wrapF k n)) (fun w => ?_) (.same rfl)
        simp [execOp, h, convert, run_underlying (hT.und hs), run_underlying (hT.und hd), (ev_ok ha hb).int, Conv.intToInt, wrapF_eq]
      · cases hf
    · cases hf
  · rename_i b hb
    split at hf
    · rename_i ds hs
      split at hf
      · rename_i hd; cases hf
        refine pure_ok (v' := .string b) (fun w => ?_) (.same rfl)
        simp [execOp, h, convert, run_underlying (hT.und hs), run_underlying (hT.und hd), (ev_ok ha hb).string]
      · cases hf
    · cases hf
  · cases hf
theorem VL.set {E : Env} {N : Nat} : ∀ {l l' : List Value} (h : VL E N l l') (i : Nat) {v v' : Value} (hv : VR E N v v'), VL E N (l.set i v) (l'.set i v')
  | _, _, .nil, _, _, _, _ => .nil
  | _, _, .cons h t, 0, _, _, hv => .cons hv t
  | _, _, .cons h t, i + 1, _, _, hv => .cons h (t.set i hv)
theorem fold_set {E : Env} {N : Nat} (off : Nat) : ∀ {vs vs' : List Value} (h : VL E N vs vs') (j : Nat) {cs cs' : Array Value} (hc : VL E N cs.toList cs'.toList),
    VL E N ((vs.zipIdx j).foldl (fun cs (p : Value × Nat) => cs.setIfInBounds (off + p.2) p.1) cs).toList ((vs'.zipIdx j).foldl (fun cs (p : Value × Nat) => cs.setIfInBounds (off + p.2) p.1) cs').toList
  | _, _, .nil, _, _, _, hc => hc
  | _, _, .cons h t, j, cs, cs', hc => by
    simp only [List.zipIdx_cons, List.foldl_cons]
    exact fold_set off t (j + 1) (by simp only [Array.toList_setIfInBounds]; exact hc.set _ h)
inductive PL (E : Env) (N : Nat) : List (Nat × Value) → List (Nat × Value) → Prop
  | nil : PL E N [] []
  | cons {i : Nat} {v v' : Value} {l l' : List (Nat × Value)} (h : VR E N v v') (t : PL E N l l') : PL E N ((i, v) :: l) ((i, v') :: l')
theorem foldl_zip {α β : Type} (f : α → β × Nat → α) (i : α) (arr : Array β) : Array.foldl f i arr.zipIdx 0 arr.size = List.foldl f i (arr.toList.zipIdx 0) := by
  have e : arr.size = arr.zipIdx.size := by simp
  rw [e, ← Array.foldl_toList, Array.toList_zipIdx]
theorem fill_rel {E : Env} {N : Nat} (place : Nat → Option (Nat × Nat)) : ∀ {ps ps' : List (Nat × Value)} (h : PL E N ps ps') {cs cs' r : Array Value}, VL E N cs.toList cs'.toList → Instr.fill place cs ps = some r → ∃ r', Instr.fill place cs' ps' = some r' ∧ VL E N r.toList r'.toList
  | _, _, .nil, cs, cs', r, hc, hf => by
    simp only [Instr.fill, Option.some.injEq] at hf ⊢
    subst hf; exact ⟨_, rfl, hc⟩
  | _, _, .cons (i := i) (v := v) (v' := v') h t, cs, cs', r, hc, hf => by
    unfold Instr.fill at hf ⊢
    cases hp : place i with
    | none => rw [hp] at hf; cases hf
    | some q =>
      rw [hp] at hf
      obtain ⟨off, size⟩ := q
      simp only at hf ⊢
      have hsz : v'.cells.size = v.cells.size := by have := h.cells.length; simpa using this.symm
      have hcs : cs'.size = cs.size := by have := hc.length; simpa using this.symm
      rw [hsz, hcs]
      split at hf
      · cases hf
      · rename_i hn
        rw [if_neg hn]
        refine fill_rel place t ?_ hf
        have := fold_set (E := E) (N := N) off h.cells 0 hc
        have e1 := foldl_zip (fun (cs : Array Value) (p : Value × Nat) => cs.setIfInBounds (off + p.2) p.1) cs v.cells
        have e2 := foldl_zip (fun (cs : Array Value) (p : Value × Nat) => cs.setIfInBounds (off + p.2) p.1) cs' v'.cells
        rw [← e1, ← e2] at this
        simpa using this
def evP (A : AA) (l : List (Nat × Operand)) : Option (List (Nat × Value)) := List.rec (motive := fun _ => Option (List (Nat × Value))) (some []) (fun p _ ih => match ev A p.2 with
  | some v => (match ih with
    | some l => some ((p.1, v) :: l)
    | none => none)
  | none => none) l
theorem evP_ok {E : Env} {N : Nat} {A : AA} {a : Act} (h : AR ds E N A a) : ∀ {l : List (Nat × Operand)} {vs : List (Nat × Value)}, evP A l = some vs → PL E N vs (l.map fun p => (p.1, a.eval p.2))
  | [], vs, hv => by cases hv; exact .nil
  | x :: l, vs, hv => by
    change (match ev A x.2 with
      | some v => (match evP A l with
        | some l => some ((x.1, v) :: l)
        | none => none)
      | none => none) = some vs at hv
    cases h1 : ev A x.2 with
    | none => rw [h1] at hv; cases hv
    | some v =>
      cases h2 : evP A l with
      | none => rw [h1, h2] at hv; cases hv
      | some l2 =>
        rw [h1, h2] at hv; cases hv
        exact .cons (ev_ok h h1) (evP_ok h h2)
def placesA (T : Cx) (l : List Field) : Option (List (Nat × Nat)) := List.rec (motive := fun _ => Option (List (Nat × Nat))) (some []) (fun f _ ih => match T.ty.get f.type with
  | some i => (match ih with
    | some l => some ((f.offset, i.size) :: l)
    | none => none)
  | none => none) l
theorem placesA_ok {P : Program} {T : Cx} (hT : Fits P T) : ∀ {l : List Field} {r : List (Nat × Nat)}, placesA T l = some r → l.mapM (fun f => (P.info? f.type).map fun i => (f.offset, i.size)) = some r
  | [], r, h => by cases h; rfl
  | f :: l, r, h => by
    change (match T.ty.get f.type with
      | some i => (match placesA T l with
        | some l => some ((f.offset, i.size) :: l)
        | none => none)
      | none => none) = some r at h
    cases h1 : T.ty.get f.type with
    | none => rw [h1] at h; cases h
    | some i =>
      cases h2 : placesA T l with
      | none => rw [h1, h2] at h; cases h
      | some r2 =>
        rw [h1, h2] at h; cases h
        simp [List.mapM_cons, hT.ty _ i h1, placesA_ok hT h2]
/-- what a composite of type t is, of these parts. -/
def builtA (T : Cx) (t : TypeId) (parts : List (Nat × Value)) : Option (Array Value) := match T.ty.get t with
  | some it => (match it.zero with
    | some z => ite' (plainL z.cells.toList) (match T.und t with
      | some (.array _ e) => (match T.ty.get e with
        | some ie => Instr.fill (fun i => some (i * ie.size, ie.size)) z.cells parts
        | none => none)
      | some (.struct fields) => (match placesA T fields.toList with
        | some places => Instr.fill (places.toArray[·]?) z.cells parts
        | none => none)
      | _ => none) none
    | none => none)
  | none => none
theorem builtA_ok {P : Program} {T : Cx} (hT : Fits P T) {E : Env} {N : Nat} {t : TypeId} {ps ps' : List (Nat × Value)} {r : Array Value} (h : builtA T t ps = some r) (hp : PL E N ps ps') : ∃ r', P.built t ps' = some r' ∧ VL E N r.toList r'.toList := by
  unfold builtA at h
  unfold Program.built
  split at h
  · rename_i it hit
    split at h
    · rename_i z hz
      obtain ⟨h1, h⟩ := ite'_some h
      have hz2 := plainL_ok (E := E) (N := N) h1
      rw [hT.ty t it hit]
      split at h
      · rename_i n e hu
        split at h
        · rename_i ie hie
          obtain ⟨r', e1, e2⟩ := fill_rel _ hp hz2 h
          refine ⟨r', ?_, e2⟩
          simp only [hT.und hu, hz, hT.ty e ie hie]
          exact e1
        · cases h
      · rename_i fields hu
        split at h
        · rename_i places hpl
          obtain ⟨r', e1, e2⟩ := fill_rel _ hp hz2 h
          refine ⟨r', ?_, e2⟩
          simp only [hT.und hu, hz, placesA_ok hT hpl]
          exact e1
        · cases h
      · cases h
    · cases h
  · cases h
def o_build (t : TypeId) (parts : List (Nat × Operand)) : OpF := fun T A H => match evP A parts with
  | some ps => (match builtA T t ps with
    | some r => some (.agg r, H)
    | none => none)
  | none => none
theorem parts_map (a : Act) (parts : Array (Nat × Operand)) : (parts.map fun (p : Nat × Operand) => (p.1, a.eval p.2)).toList = parts.toList.map fun p => (p.1, a.eval p.2) := by simp
theorem build_ok {P : Program} {T : Cx} (hT : Fits P T) {o : Oper} {t : TypeId} {parts : Array (Nat × Operand)} (h : o.op = .build t parts) : SoundP ds P T o (o_build t parts.toList) := fun A H v H' hf E a ha => by
  unfold o_build at hf
  split at hf
  · rename_i ps hps
    split at hf
    · rename_i r hb; cases hf
      obtain ⟨r', e1, e2⟩ := builtA_ok hT hb (evP_ok ha hps)
      refine pure_ok (v' := .agg r') (fun w => ?_) (by have z := VR.agg e2; simpa using z)
      have hrun := run_build (P := P) w t (parts.map fun (p : Nat × Operand) => (p.1, a.eval p.2)) r' (by rw [parts_map]; exact e1)
      simp [execOp, h, hrun]
    · cases hf
  · cases hf
def o_buildSlice (t : TypeId) (len : Nat) (parts : List (Nat × Operand)) : OpF := fun T A H => match T.und t with
  | some (.slice e) => (match T.ty.get e with
    | some ie => (match ie.zero with
      | some z => ite' (plainL ((Array.range (len * ie.size)).map (z.cells[· % z.cells.size]!)).toList) (ite' (Nat.ble (len * ie.size) 16777216) (ite' (Nat.beq (len * ie.size) 0) (match parts with
        | [] => ite' (Nat.beq len 0) (some (.slice (some ⟨H.next, 0, none⟩) 0 0, newRowB H e [])) none
        | _ => none) (match evP A parts with
        | some ps => (match Instr.fill (fun i => some (i * ie.size, ie.size)) ((Array.range (len * ie.size)).map (z.cells[· % z.cells.size]!)) ps with
          | some r => some (.slice (some ⟨H.next, 0, none⟩) len len, newRowB H e r.toList)
          | none => none)
        | none => none)) none) none
      | none => none)
    | none => none)
  | _ => none
theorem new_slice {E : Env} {H : Hp} {w : World} (hn : (E.add H.next w.heap.size 0).s H.next = w.heap.size) (l c : Nat) (hc : c < OPN) : VR (E.add H.next w.heap.size 0) (H.next + 1) (.slice (some ⟨H.next, 0, none⟩) l c) (.slice (some ⟨w.heap.size, 0, none⟩) l c) := by
  have z := VR.slice (E := E.add H.next w.heap.size 0) (N := H.next + 1) (o := 0) (l := l) (Nat.lt_succ_self H.next) hc
  rw [hn] at z; exact z
theorem buildSlice_ok {P : Program} {T : Cx} (hT : Fits P T) {o : Oper} {t : TypeId} {len : Nat} {parts : Array (Nat × Operand)} (h : o.op = .buildSlice t len parts) : Sound ds P T o (o_buildSlice t len parts.toList) := fun A H v H' hf E a w ha hr => by
  unfold o_buildSlice at hf
  split at hf
  · rename_i e hu
    split at hf
    · rename_i ie hie
      split at hf
      · rename_i z hz
        obtain ⟨h1, hf⟩ := ite'_some hf
        obtain ⟨h2, hf⟩ := ite'_some hf
        cases h3 : Nat.beq (len * ie.size) 0 with
        | true =>
          rw [h3, ite'_true] at hf
          split at hf
          · rename_i hps
            obtain ⟨h4, hf3⟩ := ite'_some hf
            have hl0 := Nat.eq_of_beq_eq_true h4
            clear hf
            cases hf3
            have hps2 : parts = #[] := by
              apply Array.ext'; simpa using hps
            subst hl0
            obtain ⟨g1, g2, g3⟩ := newRow_ok hr (VL.nil (E := E) (N := H.next)) e
            refine ⟨_, .slice (some ⟨w.heap.size, 0, none⟩) 0 0, _, _, ?_, .inl rfl, g2, new_slice g3 0 0 (by decide), g1⟩
            have hr0 : Array.range 0 = #[] := rfl
            simp [execOp, h, hps2, Instr.buildSlice, run_underlying (hT.und hu), sizeOf, typeInfo, hT.ty e ie hie, Instr.fill, newRow, hr0]
          · cases hf
        | false =>
        rw [h3, ite'_false] at hf
        split at hf
        · rename_i ps hps
          split at hf
          · rename_i r hfl; cases hf
            obtain ⟨r', e1, e2⟩ := fill_rel _ (evP_ok ha hps) (plainL_ok (E := E) (N := H.next) h1) hfl
            obtain ⟨g1, g2, g3⟩ := newRow_ok hr e2 e
            have h0 : ¬ len * ie.size = 0 := fun h0 => by rw [h0] at h3; cases h3
            have hle := Nat.le_of_ble_eq_true h2
            have hlen : len < OPN := by
              have : len ≤ len * ie.size := Nat.le_mul_of_pos_right _ (Nat.pos_of_ne_zero fun e0 => h0 (by rw [e0]; rfl))
              unfold OPN; omega
            refine ⟨_, .slice (some ⟨w.heap.size, 0, none⟩) len len, _, _, ?_, .inl rfl, g2, new_slice g3 len len hlen, g1⟩
            have hrun := run_buildSlice (P := P) w t e len (parts.map fun (p : Nat × Operand) => (p.1, a.eval p.2)) r' ie z (hT.und hu) (hT.ty e ie hie) hz (by omega) h0 (by rw [parts_map]; exact e1)
            simp [execOp, h, hrun]
          · cases hf
        · cases hf
      · cases hf
    · cases hf
  · cases hf
def optB (x : Option Value) (d : Nat) : Option Nat := match x with
  | none => some d
  | some (.int _ (.ofNat n)) => some n
  | _ => none
/-- an operand that may lack. -/
def evO (A : AA) (x : Option Operand) : Option (Option Value) := match x with
  | none => some none
  | some x => (match ev A x with
    | some v => some (some v)
    | none => none)
def hmOk (hi mx : Option Value) : Bool := match mx with
  | none => true
  | some _ => (match hi with
    | none => false
    | some _ => true)
def sliceV (v : Value) (e : Nat) (lo hi mx : Option Value) : Option Value := match v with
  | .slice none _ _ => (match optB mx 0 with
    | some m => (match optB hi 0 with
      | some h => (match optB lo 0 with
        | some l => ite' (Nat.beq m 0) (ite' (Nat.beq h 0) (ite' (Nat.beq l 0) (some (.slice none 0 0)) none) none) none
        | none => none)
      | none => none)
    | none => none)
  | .slice (some p) len cap => ite' (Nat.ble cap OPN)
    (match optB mx cap with
    | some m => (match optB hi len with
      | some h => (match optB lo 0 with
        | some l => ite' (Nat.ble l h) (ite' (Nat.ble h m) (ite' (Nat.ble m cap) (some (.slice (some ⟨p.block, ite' (Nat.beq m l) p.off (Nat.add p.off (Nat.mul l e)), none⟩) (Nat.sub h l) (Nat.sub m l))) none) none) none
        | none => none)
      | none => none)
    | none => none)
    (match mx with
    | none => (match optB hi len with
      | some h => (match optB lo 0 with
        | some l => ite' (Nat.ble l h) (ite' (Nat.ble h len) (ite' (ite' (Nat.beq l 0) true (Nat.ble (Nat.succ l) len)) (ite' (Nat.beq cap (Nat.add OPN e)) (some (.slice (some ⟨p.block, Nat.add p.off (Nat.mul l e), none⟩) (Nat.sub h l) cap)) none) (some (.chan none))) none) none
        | none => none)
      | none => none)
    | some _ => none)
  | _ => none
def o_slice (t : TypeId) (x : Operand) (lo hi mx : Option Operand) : OpF := fun T A H => match ev A x with
  | some v => (match evO A lo with
    | some lo => (match evO A hi with
      | some hi => (match evO A mx with
        | some mx => (match T.und t with
          | some (.slice e) => (match T.ty.get e with
            | some i => ite' (hmOk hi mx) (withH (sliceV v i.size lo hi mx) H) none
            | none => none)
          | _ => none)
        | none => none)
      | none => none)
    | none => none)
  | none => none
theorem evO_ok {E : Env} {N : Nat} {A : AA} {a : Act} (h : AR ds E N A a) {x : Option Operand} {v : Option Value} (hv : evO A x = some v) : (x = none ∧ v = none) ∨ ∃ y u, x = some y ∧ v = some u ∧ VR E N u (a.eval y) := by
  unfold evO at hv
  split at hv
  · cases hv; exact .inl ⟨rfl, rfl⟩
  · split at hv
    · rename_i u hu; cases hv; exact .inr ⟨_, _, rfl, rfl, ev_ok h hu⟩
    · cases hv
theorem optB_ok {E : Env} {N : Nat} {A : AA} {a : Act} (h : AR ds E N A a) {x : Option Operand} {v : Option Value} (hv : evO A x = some v) {d n : Nat} (hb : optB v d = some n) : (x.map a.eval = none ∧ v = none ∧ n = d) ∨ ∃ k, x.map a.eval = some (.int k n) := by
  rcases evO_ok h hv with ⟨rfl, rfl⟩ | ⟨y, u, rfl, rfl, r⟩
  · cases hb; exact .inl ⟨rfl, rfl, rfl⟩
  · right
    unfold optB at hb
    split at hb
    · rename_i e; cases e
    · rename_i k m e
      cases e; cases hb
      exact ⟨k, by simp [r.int]⟩
    · cases hb
theorem bound_run {P : Program} {w : World} {k : IntKind} {n y : Nat} {code : BoundsCode} (h : n ≤ y) : (Instr.sliceBound (.int k n) y code).run P w = .ok n w := by
  simp [Instr.sliceBound, asIntOf, h]
theorem bounds_run {P : Program} {w : World} {len cap l h m : Nat} {lo hi mx : Option Value} (hm : (mx = none ∧ m = cap) ∨ ∃ k, mx = some (.int k m)) (hh : (hi = none ∧ h = len ∧ mx = none) ∨ ∃ k, hi = some (.int k h)) (hl : (lo = none ∧ l = 0) ∨ ∃ k, lo = some (.int k l)) (h1 : l ≤ h) (h2 : h ≤ m) (h3 : m ≤ cap) :
    (Instr.sliceBounds true len cap lo hi mx).run P w = .ok (l, h, m) w := by
  unfold Instr.sliceBounds
  rcases hm with ⟨rfl, rfl⟩ | ⟨k1, rfl⟩ <;> rcases hh with ⟨rfl, rfl, e⟩ | ⟨k2, rfl⟩ <;> rcases hl with ⟨rfl, rfl⟩ | ⟨k3, rfl⟩ <;> (try cases e) <;> simp [bound_run, h1, h2, h3]
theorem slice_ok {P : Program} {T : Cx} (hT : Fits P T) {o : Oper} {t : TypeId} {x : Operand} {lo hi mx : Option Operand} (h : o.op = .slice t x lo hi mx) : SoundP ds P T o (o_slice t x lo hi mx) := fun A H v H' hf E a ha => by
  unfold o_slice at hf
  split at hf
  · rename_i u hu
    split at hf
    · rename_i lo' hlo
      split at hf
      · rename_i hi' hhi
        split at hf
        · rename_i mx' hmx
          split at hf
          · rename_i e ht
            split at hf
            · rename_i i hi2
              obtain ⟨hhm, hf1⟩ := ite'_some hf
              clear hf
              obtain ⟨hf2, e0⟩ := withH_some hf1
              subst e0
              clear hf1
              have hhi2 : ∀ {h0 len : Nat}, optB hi' len = some h0 → (hi.map a.eval = none ∧ h0 = len ∧ mx.map a.eval = none) ∨ ∃ k, hi.map a.eval = some (.int k h0) := fun {h0 len} hh => by
                rcases optB_ok ha hhi hh with z | z
                · refine .inl ⟨z.1, z.2.2, ?_⟩
                  unfold hmOk at hhm
                  rcases evO_ok ha hmx with ⟨rfl, rfl⟩ | ⟨y, u2, rfl, rfl, _⟩
                  · rfl
                  · rw [z.2.1] at hhm; cases hhm
                · exact .inr z
              have hv := ev_ok ha hu
              have hP := hT.und ht
              have hI := hT.ty e i hi2
              unfold sliceV at hf2
              split at hf2
              · obtain ⟨q1, q2, q3⟩ := hv.snil
                subst q1 q2
                split at hf2
                · rename_i m hm
                  split at hf2
                  · rename_i h0 hh
                    split at hf2
                    · rename_i l hl
                      obtain ⟨z1, f1⟩ := ite'_some hf2
                      obtain ⟨z2, f2⟩ := ite'_some f1
                      obtain ⟨z3, f3⟩ := ite'_some f2
                      cases f3
                      have m0 := Nat.eq_of_beq_eq_true z1
                      have hh0 := Nat.eq_of_beq_eq_true z2
                      have l0 := Nat.eq_of_beq_eq_true z3
                      subst m0 hh0 l0
                      refine pure_ok (v' := .slice none 0 0) (fun w => ?_) (.same rfl)
                      have hb := bounds_run (P := P) (w := w) (len := 0) (cap := 0) (l := 0) (h := 0) (m := 0) (lo := lo.map a.eval) (hi := hi.map a.eval) (mx := mx.map a.eval)
                        ((optB_ok ha hmx hm).imp (fun z => ⟨z.1, rfl⟩) id) (hhi2 hh) ((optB_ok ha hlo hl).imp (fun z => ⟨z.1, rfl⟩) id) (Nat.le_refl _) (Nat.le_refl _) (Nat.le_refl _)
                      simp [execOp, h, Instr.sliceAt, Instr.slice, run_underlying hP, q3, hb, sizeOf, typeInfo, hI]
                    · cases hf2
                  · cases hf2
                · cases hf2
              · rename_i p len cap
                obtain ⟨hsp, hpb, c', q3, hc⟩ := hv.sl
                cases hcb : Nat.ble cap OPN with
                | true =>
                  rw [hcb, ite'_true] at hf2
                  have hle := Nat.le_of_ble_eq_true hcb
                  obtain ⟨hc1, hc2⟩ : cap < OPN ∧ c' = cap := by
                    rcases hc with z | z
                    · exact z
                    · omega
                  subst hc2
                  split at hf2
                  · rename_i m hm
                    split at hf2
                    · rename_i h0 hh
                      split at hf2
                      · rename_i l hl
                        obtain ⟨z1, f1⟩ := ite'_some hf2
                        obtain ⟨z2, f2⟩ := ite'_some f1
                        obtain ⟨z3, f3⟩ := ite'_some f2
                        cases f3
                        have k1 := Nat.le_of_ble_eq_true z1
                        have k2 := Nat.le_of_ble_eq_true z2
                        have k3 := Nat.le_of_ble_eq_true z3
                        have hb := fun w => bounds_run (P := P) (w := w) (len := len) (cap := c') (l := l) (h := h0) (m := m) (lo := lo.map a.eval) (hi := hi.map a.eval) (mx := mx.map a.eval)
                          ((optB_ok ha hmx hm).imp (fun z => ⟨z.1, z.2.2⟩) id) (hhi2 hh) ((optB_ok ha hlo hl).imp (fun z => ⟨z.1, z.2.2⟩) id) k1 k2 k3
                        have hoff : ite' (Nat.beq m l) p.off (Nat.add p.off (Nat.mul l i.size)) = if m = l then p.off else p.off + l * i.size := by
                          rw [beq_dec]
                          by_cases e1 : m = l
                          · rw [if_pos e1, decide_eq_true e1]
                          · rw [if_neg e1, decide_eq_false e1]; rfl
                        rw [hoff]
                        refine pure_ok (v' := .slice (some ⟨E.s p.block, if m = l then p.off else p.off + l * i.size, none⟩) (h0 - l) (m - l)) (fun w => ?_) (.slice hpb (show m - l < OPN by omega))
                        by_cases e1 : m = l
                        · simp [execOp, h, Instr.sliceAt, Instr.slice, run_underlying hP, q3, hb w, sizeOf, typeInfo, hI, e1]
                        · simp [execOp, h, Instr.sliceAt, Instr.slice, run_underlying hP, q3, hb w, sizeOf, typeInfo, hI, e1, add_plain']
                      · cases hf2
                    · cases hf2
                  · cases hf2
                | false =>
                  rw [hcb, ite'_false] at hf2
                  have hgt := ble_false hcb
                  obtain ⟨hc1, hc2, hc3⟩ : OPN < cap ∧ len ≤ c' ∧ p.off + c' * (cap - OPN) = E.k p.block := by
                    rcases hc with z | z
                    · omega
                    · exact z
                  split at hf2
                  · split at hf2
                    · rename_i h0 hh
                      split at hf2
                      · rename_i l hl
                        obtain ⟨z1, f1⟩ := ite'_some hf2
                        obtain ⟨z2, f2⟩ := ite'_some f1
                        have k1 := Nat.le_of_ble_eq_true z1
                        have k2 := Nat.le_of_ble_eq_true z2
                        have hmx0 : mx.map a.eval = none := by
                          rcases evO_ok ha hmx with ⟨rfl, _⟩ | ⟨y, u2, rfl, e1, _⟩
                          · rfl
                          · cases e1
                        have hb := fun w => bounds_run (P := P) (w := w) (len := len) (cap := c') (l := l) (h := h0) (m := c') (lo := lo.map a.eval) (hi := hi.map a.eval) (mx := mx.map a.eval)
                          (.inl ⟨hmx0, rfl⟩) (hhi2 hh) ((optB_ok ha hlo hl).imp (fun z => ⟨z.1, z.2.2⟩) id) k1 (Nat.le_trans k2 hc2) (Nat.le_refl _)
                        cases z3 : ite' (Nat.beq l 0) true (Nat.ble (Nat.succ l) len) with
                        | false =>
                          rw [z3, ite'_false] at f2
                          cases f2
                          have hll : h0 - l = 0 := by
                            cases hb0 : Nat.beq l 0 with
                            | true => rw [hb0] at z3; cases z3
                            | false =>
                              rw [hb0, ite'_false] at z3
                              have := ble_false z3
                              omega
                          refine pure_ok (v' := .slice (some ⟨E.s p.block, if c' = l then p.off else p.off + l * i.size, none⟩) 0 (c' - l)) (fun w => ?_) .tail
                          by_cases e1 : c' = l
                          · have hbw := hb w
                            rw [e1] at hbw
                            simp [execOp, h, Instr.sliceAt, Instr.slice, run_underlying hP, q3, hbw, sizeOf, typeInfo, hI, e1, hll]
                          · simp [execOp, h, Instr.sliceAt, Instr.slice, run_underlying hP, q3, hb w, sizeOf, typeInfo, hI, e1, add_plain', hll]
                        | true =>
                        rw [z3, ite'_true] at f2
                        obtain ⟨z4, f4⟩ := ite'_some f2
                        cases f4
                        have k4 : cap = OPN + i.size := Nat.eq_of_beq_eq_true z4
                        have k3 : l = 0 ∨ l < len := by
                          cases hb0 : Nat.beq l 0 with
                          | true => exact .inl (Nat.eq_of_beq_eq_true hb0)
                          | false => rw [hb0, ite'_false] at z3; exact .inr (ble_lt z3)
                        rw [k4, Nat.add_sub_cancel_left] at hc3
                        have hoff : (if c' = l then p.off else p.off + l * i.size) = p.off + l * i.size := by
                          split
                          · rename_i e1
                            have : l = 0 := by omega
                            rw [this]; simp
                          · rfl
                        refine pure_ok (v' := .slice (some ⟨E.s p.block, p.off + l * i.size, none⟩) (h0 - l) (c' - l)) (fun w => ?_) ?_
                        · by_cases e1 : c' = l
                          · have e2 : p.off + l * i.size = p.off := by rw [if_pos e1] at hoff; exact hoff.symm
                            have hbw := hb w
                            rw [e1] at hbw
                            simp [execOp, h, Instr.sliceAt, Instr.slice, run_underlying hP, q3, hbw, sizeOf, typeInfo, hI, e1, e2]
                          · simp [execOp, h, Instr.sliceAt, Instr.slice, run_underlying hP, q3, hb w, sizeOf, typeInfo, hI, e1, add_plain']
                        · refine .open_ hpb hc1 (show h0 - l ≤ c' - l by omega) ?_
                          show p.off + l * i.size + (c' - l) * (cap - OPN) = _
                          rw [k4, Nat.add_sub_cancel_left, ← hc3, Nat.add_assoc, ← Nat.add_mul]
                          congr 2; omega
                      · cases hf2
                    · cases hf2
                  · cases hf2
              · cases hf2
            · cases hf
          · cases hf
        · cases hf
      · cases hf
    · cases hf
  · cases hf
end
end Go.Proofs.YtcpghlilbohohaaGreatDoor
namespace Go.Proofs.YtcpghlilbohohaaGreatDoor
open Go
set_option linter.unusedVariables false
set_option linter.unusedSimpArgs false
noncomputable section
variable {ds : List Deferred}
theorem HRel.congr {E : Env} {H H' : Hp} {w : World} (h : HRel E H w) (hb : ∀ b, H'.b.get b = H.b.get b) (hn : H'.next = H.next) : HRel E H' w :=
  ⟨fun b x hx => by rw [hn]; exact h.lt b x (by rw [← hb]; exact hx), fun b x hx => by rw [hn]; exact h.rel b x (by rw [← hb]; exact hx), fun b b' x x' h1 h2 he => h.inj b b' x x' (by rw [← hb]; exact h1) (by rw [← hb]; exact h2) he⟩
theorem Gd.congr {E E' : Env} {H H1 H2 : Hp} {w w' : World} (h : Gd E E' H H1 w w') (hb : ∀ b, H2.b.get b = H1.b.get b) (hn : H2.next = H1.next) : Gd E E' H H2 w w' :=
  ⟨by rw [hn]; exact h.le, h.ag, fun b x hx => h.dom b x (by rw [← hb]; exact hx), h.os, h.tape, h.output, h.size, h.frame⟩
theorem HRel.drop {E : Env} {H : Hp} {w : World} (h : HRel E H w) (b0 : Nat) : HRel E ⟨H.b.put b0 none, H.next⟩ w ∧ Gd E E H ⟨H.b.put b0 none, H.next⟩ w w := by
  have key : ∀ b x, (H.b.put b0 none).get b = some x → H.b.get b = some x := fun b x hx => by
    rw [Tr.get_put] at hx
    split at hx
    · cases hx
    · exact hx
  exact ⟨⟨fun b x hx => h.lt b x (key b x hx), fun b x hx => h.rel b x (key b x hx), fun b b' x x' h1 h2 he => h.inj b b' x x' (key b x h1) (key b' x' h2) he⟩,
    ⟨Nat.le_refl _, Agree.refl _ _, fun b x hx => .inl ⟨b, x, key b x hx, id, rfl⟩, rfl, rfl, rfl, Nat.le_refl _, fun _ _ _ => rfl⟩⟩
/-- a block gets a new number. -/
theorem HRel.renum {E : Env} {H : Hp} {w : World} (h : HRel E H w) {b0 : Nat} {x0 : Blk} (hb : H.b.get b0 = some x0) :
    HRel (E.add H.next (E.s b0) (E.k b0)) ⟨(H.b.put b0 none).put H.next (some x0), H.next + 1⟩ w ∧ Gd E (E.add H.next (E.s b0) (E.k b0)) H ⟨(H.b.put b0 none).put H.next (some x0), H.next + 1⟩ w w := by
  have hlt := h.lt _ _ hb
  have hs : (E.add H.next (E.s b0) (E.k b0)).s H.next = E.s b0 := by simp [Env.add]
  have hk : (E.add H.next (E.s b0) (E.k b0)).k H.next = E.k b0 := by simp [Env.add]
  have hne : ∀ b, b < H.next → (E.add H.next (E.s b0) (E.k b0)).s b = E.s b := fun b hb => (Env.add_agree E H.next (E.s b0) (E.k b0) b hb).1
  have key : ∀ b x, ((H.b.put b0 none).put H.next (some x0)).get b = some x → (b = H.next ∧ x = x0) ∨ (b ≠ H.next ∧ b ≠ b0 ∧ H.b.get b = some x) := fun b x hx => by
    rw [Tr.get_put] at hx
    split at hx
    · rename_i e; cases hx; exact .inl ⟨e, rfl⟩
    · rename_i e
      rw [Tr.get_put] at hx
      split at hx
      · cases hx
      · rename_i e2; exact .inr ⟨e, e2, hx⟩
  refine ⟨⟨fun b x hx => ?_, fun b x hx => ?_, fun b b' x x' h1 h2 he => ?_⟩, ⟨Nat.le_succ _, Env.add_agree _ _ _ _, fun b x hx => ?_, rfl, rfl, rfl, Nat.le_refl _, fun _ _ _ => rfl⟩⟩
  · rcases key b x hx with ⟨e, _⟩ | ⟨_, _, h1⟩
    · show b < H.next + 1; omega
    · have := h.lt b x h1; show b < H.next + 1; omega
  · rcases key b x hx with ⟨e, e2⟩ | ⟨_, _, h1⟩
    · subst e e2
      rw [hs]
      have := h.rel _ _ hb
      unfold BR at this ⊢
      split at this
      · obtain ⟨cs, fz, g1, g2, g3, g4, g5⟩ := this
        exact ⟨cs, fz, g1, g2, g3, by rw [hk]; exact g4, fun i v hi hv => by obtain ⟨v', e, r⟩ := g5 i v hi hv; exact ⟨v', e, r.mono (Env.add_agree _ _ _ _) (Nat.le_succ _)⟩⟩
      · obtain ⟨es', g1, g2⟩ := this
        exact ⟨es', g1, g2.mono (Env.add_agree _ _ _ _) (Nat.le_succ _)⟩
      · exact this
      · obtain ⟨cs, e, fz, g1, g2⟩ := this
        exact ⟨cs, e, fz, g1, fun i v hv => by obtain ⟨v', e, r⟩ := g2 i v hv; exact ⟨v', e, r.mono (Env.add_agree _ _ _ _) (Nat.le_succ _)⟩⟩
    · rw [hne b (h.lt _ _ h1)]
      exact (h.rel _ _ h1).mono (Env.add_agree _ _ _ _) (Nat.le_succ _) (h.lt _ _ h1)
  · rcases key b x h1 with ⟨e, _⟩ | ⟨n1, n2, g1⟩ <;> rcases key b' x' h2 with ⟨e', _⟩ | ⟨n1', n2', g1'⟩
    · omega
    · subst e
      rw [hs, hne b' (h.lt _ _ g1')] at he
      exact absurd (h.inj _ _ _ _ hb g1' he).symm n2'
    · subst e'
      rw [hs, hne b (h.lt _ _ g1)] at he
      exact absurd (h.inj _ _ _ _ g1 hb he) n2
    · rw [hne b (h.lt _ _ g1), hne b' (h.lt _ _ g1')] at he
      exact h.inj _ _ _ _ g1 g1' he
  · rcases key b x hx with ⟨e, e2⟩ | ⟨_, _, h1⟩
    · subst e; exact .inl ⟨b0, x0, hb, fun hw => e2 ▸ hw, hs⟩
    · exact .inl ⟨b, x, h1, id, hne b (h.lt _ _ h1)⟩
/-- a block holds something else, in memory too. -/
theorem HRel.upd {E : Env} {H : Hp} {w w' : World} (h : HRel E H w) {b0 : Nat} {x0 x1 : Blk} (hb : H.b.get b0 = some x0) (hx : BR E H.next b0 x1 w'.heap[E.s b0]?) (ho : ∀ i, i ≠ E.s b0 → w'.heap[i]? = w.heap[i]?)
    (h1 : w'.os = w.os) (h2 : w'.tape = w.tape) (h3 : w'.output = w.output) (h4 : w.heap.size ≤ w'.heap.size) (h5 : wr x0 = true) : HRel E ⟨H.b.put b0 (some x1), H.next⟩ w' ∧ Gd E E H ⟨H.b.put b0 (some x1), H.next⟩ w w' := by
  have key : ∀ b x, (H.b.put b0 (some x1)).get b = some x → (b = b0 ∧ x = x1) ∨ (b ≠ b0 ∧ H.b.get b = some x) := fun b x hx => by
    rw [Tr.get_put] at hx
    split at hx
    · rename_i e; cases hx; exact .inl ⟨e, rfl⟩
    · rename_i e; exact .inr ⟨e, hx⟩
  have dom : ∀ b x, (H.b.put b0 (some x1)).get b = some x → ∃ x', H.b.get b = some x' := fun b x hx => by
    rcases key b x hx with ⟨e, _⟩ | ⟨_, g⟩
    · subst e; exact ⟨_, hb⟩
    · exact ⟨_, g⟩
  refine ⟨⟨fun b x hx => ?_, fun b x hx => ?_, fun b b' x x' g1 g2 he => ?_⟩, ⟨Nat.le_refl _, Agree.refl _ _, fun b x hx => ?_, h1, h2, h3, h4, fun i hi hf => ho i (fun e => hf b0 x0 hb h5 e.symm)⟩⟩
  · obtain ⟨x', g⟩ := dom b x hx; exact h.lt b x' g
  · rcases key b x hx with ⟨e, e2⟩ | ⟨n, g⟩
    · subst e e2; assumption
    · rw [ho _ (fun e => n (h.inj _ _ _ _ g hb e))]; exact h.rel b x g
  · obtain ⟨y, g⟩ := dom b x g1
    obtain ⟨y', g'⟩ := dom b' x' g2
    exact h.inj b b' y y' g g' he
  · rcases key b x hx with ⟨e, _⟩ | ⟨_, g⟩
    · subst e; exact .inl ⟨_, x0, hb, fun _ => h5, rfl⟩
    · exact .inl ⟨b, x, g, id, rfl⟩
theorem cap_ge (w : World) (need old : Nat) (e : TypeId) : need ≤ grownCap w need old e := by
  show need ≤ need + _
  exact Nat.le_add_right _ _
/-- a row that has grown into new memory. -/
theorem grown_new {E : Env} {H : Hp} {w : World} (hr : HRel E H w) {l l' : List Value} (hl : VL E H.next l l') {e : TypeId} {z : Array Value} {n c size : Nat} (hn : l.length = n * size) (hz : z.size = size) (hc : n ≤ c) :
    HRel (E.add H.next w.heap.size (c * size)) (H.new (.row (Tr.lay l 0 .nil) (n * size) e true)) (w.drew.alloc (.cells (l'.toArray ++ Builtin.zeroCells z (c - n)) e)) ∧
    Gd E (E.add H.next w.heap.size (c * size)) H (H.new (.row (Tr.lay l 0 .nil) (n * size) e true)) w (w.drew.alloc (.cells (l'.toArray ++ Builtin.zeroCells z (c - n)) e)) ∧
    (0 < size → VR (E.add H.next w.heap.size (c * size)) (H.next + 1) (.slice (some ⟨H.next, 0, none⟩) n (OPN + size)) (.slice (some ⟨w.heap.size, 0, none⟩) n c)) := by
  have h2 : VL (E.add H.next w.heap.size (c * size)) (H.next + 1) l l' := hl.mono (Env.add_agree _ _ _ _) (Nat.le_succ _)
  have hln := hl.length
  have hs : (E.add H.next w.heap.size (c * size)).s H.next = w.heap.size := by simp [Env.add]
  have hk : (E.add H.next w.heap.size (c * size)).k H.next = c * size := by simp [Env.add]
  have hzs : (Builtin.zeroCells z (c - n)).size = (c - n) * size := by simp [Builtin.zeroCells, hz]
  have hsz : (l'.toArray ++ Builtin.zeroCells z (c - n)).size = c * size := by
    rw [Array.size_append, hzs, List.size_toArray, ← hln, hn, ← Nat.add_mul]
    congr 1; omega
  have hrd : HRel E H w.drew := hr.heap rfl
  obtain ⟨g1, g2⟩ := hrd.new (x := .row (Tr.lay l 0 .nil) (n * size) e true) (o := .cells (l'.toArray ++ Builtin.zeroCells z (c - n)) e) (k := c * size)
    ⟨_, (0, 0), rfl, ⟨fun i _ hh => by omega, fun _ => rfl⟩, by rw [hsz]; exact Nat.mul_le_mul_right _ hc, by rw [hsz]; simp [Env.add], fun i v hi hv => by
      obtain ⟨v', e1, r⟩ := map_rows h2 i v hv
      exact ⟨v', by rw [Array.getElem?_append_left (by have := (Array.getElem?_eq_some_iff.1 e1).1; exact this)]; exact e1, r⟩⟩
  refine ⟨g1, ⟨g2.le, g2.ag, g2.dom, g2.os, g2.tape, g2.output, g2.size, g2.frame⟩, fun hp => ?_⟩
  have z1 := VR.open_ (E := E.add H.next w.heap.size (c * size)) (N := H.next + 1) (b := H.next) (o := 0) (l := n) (c := OPN + size) (c' := c) (Nat.lt_succ_self _) (by omega) hc (by rw [hk]; simp [Nat.add_sub_cancel_left])
  rw [hs] at z1; exact z1
theorem splice_get {a : Nat} {cur : Array Value} {m : List Value} (h : a + m.length ≤ cur.size) (i : Nat) : ((cur.toList.take a ++ m ++ cur.toList.drop (a + m.length)).toArray)[i]? = if i < a then cur[i]? else if i < a + m.length then m[i - a]? else cur[i]? := by
  rw [List.getElem?_toArray, List.append_assoc]
  by_cases h1 : i < a
  · rw [if_pos h1, List.getElem?_append_left (by simp; omega), List.getElem?_take_of_lt h1, Array.getElem?_toList]
  · have hl : (cur.toList.take a).length = a := by simp; omega
    rw [if_neg h1, List.getElem?_append_right (by omega), hl]
    by_cases h2 : i < a + m.length
    · rw [if_pos h2, List.getElem?_append_left (by omega)]
    · rw [if_neg h2, List.getElem?_append_right (by omega), List.getElem?_drop, Array.getElem?_toList]
      congr 1; omega
def growOpen (H : Hp) (p : Addr) (len c : Nat) (more : List Value) (n : Nat) (e : TypeId) (size : Nat) : Option (Value × Hp) := match H.b.get p.block with
  | some (.row cc k e' true) => ite' (Nat.beq e' e) (ite' (Nat.ble (Nat.mul len size) k) (some (.slice (some ⟨H.next, 0, none⟩) (Nat.add len n) c, ⟨(H.b.put p.block none).put H.next (some (.row (Tr.lay more (Nat.mul len size) cc) (Nat.mul (Nat.add len n) size) e true)), Nat.succ H.next⟩)) none) none
  | _ => none
def growNew (H : Hp) (l : List Value) (n : Nat) (e : TypeId) (size : Nat) : Option (Value × Hp) := some (.slice (some ⟨H.next, 0, none⟩) n (Nat.add OPN size), H.new (.row (Tr.lay l 0 .nil) (Nat.mul n size) e true))
def appendS (H : Hp) (s : Value) (more : List Value) (n : Nat) (e : TypeId) (size : Nat) : Option (Value × Hp) := match s with
  | .slice none _ _ => growNew H more n e size
  | .slice (some p) len c => ite' (Nat.ble c OPN)
      (ite' (Nat.ble (Nat.add len n) c)
        (match Hp.storeAll more H p.block (Nat.add p.off (Nat.mul len size)) with
          | some H' => some (.slice (some p) (Nat.add len n) c, H')
          | none => none)
        (match H.cells p.block p.off (Nat.mul len size) with
          | some olds => growNew H (List.append olds more) (Nat.add len n) e size
          | none => none))
      (ite' (Nat.beq p.off 0) (ite' (Nat.beq c (Nat.add OPN size)) (growOpen H p len c more n e size) none) none)
  | _ => none
/-- how long a slice is. -/
def lenS : Value → Nat
  | .slice _ n _ => n
  | _ => 0
def appendA (T : Cx) (H : Hp) (t : TypeId) (s : Value) (more : List Value) (n : Nat) : Option (Value × Hp) := match T.und t with
  | some (.slice e) => (match T.ty.get e with
    | some i => (match i.zero with
      | some z => ite' (Nat.beq z.cells.toList.length i.size) (ite' (Nat.beq i.size 0) none (ite' (Nat.ble (Nat.mul (Nat.mul 2 (Nat.add (lenS s) n)) i.bytes) 281474976710656) (ite' (Nat.ble (Nat.add (lenS s) n) 1000000000) (ite' (allOne more) (ite' (Nat.beq n 0) none (appendS H s more n e i.size)) none) none) none)) none
      | none => none)
    | none => none)
  | _ => none
/-- what is appended: n elements, these cells. -/
structure SrcA (P : Program) (w : World) (tx : TypeId) (x : Value) (n size : Nat) (news : List Value) : Prop where
  kind : (∃ e, P.underlying tx = some (.slice e)) ∨ P.underlying tx = some .string
  len : ∀ W, (Builtin.lenOf x).run P W = .ok n W
  cells : ∀ W : World, W.heap = w.heap → (Builtin.firstCells size n x).run P W = .ok news.toArray W
theorem SrcA.slice {P : Program} {w : World} {t e : TypeId} {a : Addr} {n c size : Nat} {news : List Value} (ht : P.underlying t = some (.slice e)) (hl : news.length = n * size) (h : ∀ j u, news[j]? = some u → w.cell? (a.add j) = some u) : SrcA P w t (.slice (some a) n c) n size news :=
  ⟨.inl ⟨_, ht⟩, fun W => by simp [Builtin.lenOf], fun W hW => run_firstCells_some (P := P) W size n a n c news hl (fun j u hu => by
    have := h j u hu
    unfold World.cell? at this ⊢
    rw [hW]; exact this)⟩
section
variable {P : Program} {w : World} {t tx ty e : TypeId} {i : TypeInfo} {z x : Value} {n : Nat} {news : List Value}
theorem app_nil (ht : P.underlying t = some (.slice e)) (hi : P.info? e = some i) (hz : i.zero = some z) (hs : SrcA P w tx x n i.size news) (h0 : 0 < n) (h63 : (n : Int) ≤ 9223372036854775807) (h48 : n * i.bytes ≤ 281474976710656) :
    (Builtin.append_ #[t, tx] ty #[.slice none 0 0, x]).run P w = .ok (.slice (some ⟨w.heap.size, 0, none⟩) n (grownCap w n 0 e)) (w.drew.alloc (.cells (news.toArray ++ Builtin.zeroCells z.cells (grownCap w n 0 e - n)) e)) := by
  have hn : n ≠ 0 := by omega
  have h63' : ¬ (9223372036854775807 < (n : Int)) := by omega
  have h48' : ¬ (281474976710656 < Builtin.nextslicecap n 0 * i.bytes) := by rw [nextslicecap_zero h0]; omega
  rcases hs.kind with ⟨e', hd⟩ | hd <;> simp [Builtin.append_, run_underlying ht, run_underlying hd, sizeOf, typeInfo, zeroValue, hi, hz, hs.len, hn, h63', h48', Question.forced, run_firstCells_none, hs.cells w.drew rfl, newRow, grownCap]
theorem app_grow (ht : P.underlying t = some (.slice e)) (hi : P.info? e = some i) (hz : i.zero = some z) (b : Addr) (sLen sCap : Nat) (olds : List Value) (hlo : olds.length = sLen * i.size) (holds : ∀ j v, olds[j]? = some v → w.cell? (b.add j) = some v)
    (hs : SrcA P w tx x n i.size news) (hg : sCap < sLen + n) (h63 : ((sLen + n : Nat) : Int) ≤ 9223372036854775807) (hfit : Builtin.nextslicecap (sLen + n) sCap * i.bytes ≤ 281474976710656) :
    (Builtin.append_ #[t, tx] ty #[.slice (some b) sLen sCap, x]).run P w = .ok (.slice (some ⟨w.heap.size, 0, none⟩) (sLen + n) (grownCap w (sLen + n) sCap e))
        (w.drew.alloc (.cells (olds.toArray ++ news.toArray ++ Builtin.zeroCells z.cells (grownCap w (sLen + n) sCap e - (sLen + n))) e)) := by
  have hn : ¬ (sLen + n ≤ sCap) := by omega
  have h63' : ¬ (9223372036854775807 < ((sLen : Int) + (n : Int))) := by omega
  have h48' : ¬ (281474976710656 < Builtin.nextslicecap (sLen + n) sCap * i.bytes) := by omega
  have hf := run_firstCells_some (P := P) w.drew i.size sLen b sLen sCap olds hlo holds
  rcases hs.kind with ⟨e', hd⟩ | hd <;> simp [Builtin.append_, run_underlying ht, run_underlying hd, sizeOf, typeInfo, zeroValue, hi, hz, hs.len, hn, h63', h48', Question.forced, hf, hs.cells w.drew rfl, newRow, grownCap] <;> exact congrArg (fun q => w.drew.alloc (Obj.cells q e)) (by apply Array.ext'; simp)
theorem app_fits {w' : World} (ht : P.underlying t = some (.slice e)) (hi : P.info? e = some i) (b : Addr) (sLen sCap : Nat) (hs : SrcA P w tx x n i.size news) (hroom : sLen + n ≤ sCap) (hst : (storeCells (b.add (sLen * i.size)) news).run P w = .ok () w') :
    (Builtin.append_ #[t, tx] ty #[.slice (some b) sLen sCap, x]).run P w = .ok (.slice (some b) (sLen + n) sCap) w' := by
  rcases hs.kind with ⟨e', hd⟩ | hd <;> simp [Builtin.append_, run_underlying ht, run_underlying hd, sizeOf, typeInfo, hi, hs.len, hroom, hs.cells w rfl, hst]
end
/-- what an append of these cells does. -/
structure SrcR (P : Program) (w : World) (t tx ty e : TypeId) (i : TypeInfo) (z x : Value) (n : Nat) (news : List Value) : Prop where
  nil : 0 < n → (n : Int) ≤ 9223372036854775807 → n * i.bytes ≤ 281474976710656 → (Builtin.append_ #[t, tx] ty #[.slice none 0 0, x]).run P w = .ok (.slice (some ⟨w.heap.size, 0, none⟩) n (grownCap w n 0 e)) (w.drew.alloc (.cells (news.toArray ++ Builtin.zeroCells z.cells (grownCap w n 0 e - n)) e))
  grow : ∀ (b : Addr) (sLen sCap : Nat) (olds : List Value), olds.length = sLen * i.size → (∀ j v, olds[j]? = some v → w.cell? (b.add j) = some v) → sCap < sLen + n → ((sLen + n : Nat) : Int) ≤ 9223372036854775807 → Builtin.nextslicecap (sLen + n) sCap * i.bytes ≤ 281474976710656 →
    (Builtin.append_ #[t, tx] ty #[.slice (some b) sLen sCap, x]).run P w = .ok (.slice (some ⟨w.heap.size, 0, none⟩) (sLen + n) (grownCap w (sLen + n) sCap e))
        (w.drew.alloc (.cells (olds.toArray ++ news.toArray ++ Builtin.zeroCells z.cells (grownCap w (sLen + n) sCap e - (sLen + n))) e))
  fits : ∀ (b : Addr) (sLen sCap : Nat) {w' : World}, sLen + n ≤ sCap → (storeCells (b.add (sLen * i.size)) news).run P w = .ok () w' → (Builtin.append_ #[t, tx] ty #[.slice (some b) sLen sCap, x]).run P w = .ok (.slice (some b) (sLen + n) sCap) w'
theorem SrcA.r {P : Program} {w : World} {t tx ty e : TypeId} {i : TypeInfo} {z x : Value} {n : Nat} {news : List Value} (ht : P.underlying t = some (.slice e)) (hi : P.info? e = some i) (hz : i.zero = some z) (hs : SrcA P w tx x n i.size news) : SrcR P w t tx ty e i z x n news :=
  ⟨fun h0 h1 h2 => app_nil ht hi hz hs h0 h1 h2, fun b sLen sCap olds h1 h2 h3 h4 h5 => app_grow ht hi hz b sLen sCap olds h1 h2 hs h3 h4 h5, fun b sLen sCap w' h1 h2 => app_fits ht hi b sLen sCap hs h1 h2⟩
theorem append_runR {P : Program} {T : Cx} (hT : Fits P T) {E : Env} {H H' : Hp} {w : World} (hr : HRel E H w) {t tx ty : TypeId} {s s' v xx : Value} {more more' : List Value} {n : Nat} (hf : appendA T H t s more n = some (v, H')) (hs : VR E H.next s s')
    (hm : VL E H.next more more') (hsrc : ∀ e i z, T.und t = some (.slice e) → T.ty.get e = some i → i.zero = some z → SrcR P w t tx ty e i z xx n more') (hlen : ∀ e i, T.und t = some (.slice e) → T.ty.get e = some i → more.length = n * i.size) :
    ∃ E' v' w', (Builtin.append_ #[t, tx] ty #[s', xx]).run P w = .ok v' w' ∧ Gd E E' H H' w w' ∧ VR E' H'.next v v' ∧ HRel E' H' w' := by
  unfold appendA at hf
  split at hf
  · rename_i e hu
    split at hf
    · rename_i i hi
      split at hf
      · rename_i z hz
        obtain ⟨h1, f1⟩ := ite'_some hf
        clear hf
        obtain ⟨h2, f2⟩ := ite'_none f1
        clear f1
        obtain ⟨h3, f3⟩ := ite'_some f2
        clear f2
        obtain ⟨h4, f4⟩ := ite'_some f3
        clear f3
        obtain ⟨h5, f5⟩ := ite'_some f4
        clear f4
        obtain ⟨h6, hf⟩ := ite'_none f5
        clear f5
        have hml := hlen e i hu hi
        have hml' : more'.length = n * i.size := by rw [← hm.length]; exact hml
        have hzs : z.cells.size = i.size := by have := Nat.eq_of_beq_eq_true h1; simpa using this
        have hsz0 : 0 < i.size := Nat.pos_of_ne_zero fun e0 => by rw [e0] at h2; cases h2
        have hn0 : 0 < n := Nat.pos_of_ne_zero fun e0 => by rw [e0] at h6; cases h6
        have hb3 := Nat.le_of_ble_eq_true h3
        have hb4 := Nat.le_of_ble_eq_true h4
        have hone : ∀ u ∈ more', u.oneCell' = true := by
          have : ∀ {l l' : List Value}, VL E H.next l l' → allOne l = true → ∀ u ∈ l', u.oneCell' = true := by
            intro l
            induction l with
            | nil => intro l' h _ u hu; cases h; cases hu
            | cons x l ih =>
              intro l' h ha u hu
              cases h with
              | cons hx ht =>
                change ite' (oneB x) (allOne l) false = true at ha
                cases hb : oneB x with
                | false => rw [hb] at ha; cases ha
                | true =>
                  rw [hb] at ha
                  rcases List.mem_cons.1 hu with e | e
                  · exact e ▸ hx.one hb
                  · exact ih ht ha u e
          exact this hm h5
        have hP := hT.und hu
        have hI := hT.ty e i hi
        have hR := hsrc e i z hu hi hz
        unfold appendS at hf
        split at hf
        · -- nothing yet
          rename_i l0 c0
          obtain ⟨e1, e2, e3⟩ := hs.snil
          subst e1 e2 e3
          have hb3' : n * i.bytes ≤ 281474976710656 := by
            have : Nat.mul (Nat.mul 2 (Nat.add (lenS (.slice none 0 0)) n)) i.bytes = 2 * n * i.bytes := by show 2 * (0 + n) * i.bytes = _; rw [Nat.zero_add]
            rw [this] at hb3
            have : n * i.bytes ≤ 2 * n * i.bytes := Nat.mul_le_mul_right _ (by omega)
            omega
          have hb4' : n ≤ 1000000000 := by
            have : Nat.add (lenS (.slice none 0 0)) n = 0 + n := rfl
            omega
          cases hf
          have hrun := hR.nil hn0 (by omega) hb3'
          obtain ⟨g1, g2, g3⟩ := grown_new hr hm (e := e) hml hzs (cap_ge w n 0 e)
          exact ⟨_, _, _, hrun, g2, g3 hsz0, g1⟩
        · rename_i p len c0
          obtain ⟨hsp, hpb, c', e1, hc⟩ := hs.sl
          subst e1
          have hlen0 : Nat.add (lenS (.slice (some p) len c0)) n = len + n := rfl
          rw [hlen0] at hb3 hb4
          have hbytes : 2 * (len + n) * i.bytes ≤ 281474976710656 := hb3
          have hfit : ∀ q, q < len + n → Builtin.nextslicecap (len + n) q * i.bytes ≤ 281474976710656 := fun q hq => by
            have := Nat.mul_le_mul_right i.bytes (nextslicecap_le hq)
            omega
          cases hb : Nat.ble c0 OPN with
          | true =>
            rw [hb, ite'_true] at hf
            have hle := Nat.le_of_ble_eq_true hb
            obtain ⟨hc1, hc2⟩ : c0 < OPN ∧ c' = c0 := by
              rcases hc with h | h
              · exact h
              · omega
            subst hc2
            cases hr1 : Nat.ble (Nat.add len n) c' with
            | true =>
              rw [hr1, ite'_true] at hf
              have hroom : len + n ≤ c' := Nat.le_of_ble_eq_true hr1
              split at hf
              · rename_i H1 hst; cases hf
                obtain ⟨w', e3, r3, g3, n3⟩ := storeAll_ok (P := P) (off := p.off + len * i.size) 0 (by simpa using hst) hm h5 hr
                refine ⟨E, .slice (some ⟨E.s p.block, p.off, none⟩) (len + n) c', w', ?_, g3, ?_, r3⟩
                · exact hR.fits _ _ _ hroom (by rw [add_plain']; exact e3)
                · rw [n3]
                  obtain ⟨pb, po, ps⟩ := p
                  cases hsp
                  exact .slice hpb hc1
              · cases hf
            | false =>
              rw [hr1, ite'_false] at hf
              have hgt := ble_false hr1
              split at hf
              · rename_i olds ho; cases hf
                obtain ⟨hn1, olds', ro, hoc⟩ := hr.cells ho
                have hol : olds'.length = len * i.size := by rw [← ro.length]; exact hn1
                have hrun := hR.grow ⟨E.s p.block, p.off, none⟩ len c' olds' hol (fun j u hu => by
                  rw [add_plain', hoc j (by have := (List.getElem?_eq_some_iff.1 hu).1; rw [hol] at this; exact this)]; exact hu) hgt (by omega) (hfit c' hgt)
                have hll : (List.append olds more).length = (len + n) * i.size := by
                  show (olds ++ more).length = _
                  rw [List.length_append, hn1, hml, Nat.add_mul]; rfl
                obtain ⟨g1, g2, g3⟩ := grown_new hr (ro.append hm) (e := e) hll hzs (cap_ge w (len + n) c' e)
                refine ⟨_, _, _, hrun, ?_, g3 hsz0, ?_⟩
                · have z1 := g2; rw [show (olds' ++ more').toArray = olds'.toArray ++ more'.toArray from by simp] at z1; exact z1
                · have z1 := g1; rw [show (olds' ++ more').toArray = olds'.toArray ++ more'.toArray from by simp] at z1; exact z1
              · cases hf
          | false =>
            rw [hb, ite'_false] at hf
            obtain ⟨k1, f1⟩ := ite'_some hf
            clear hf
            obtain ⟨k2, hf⟩ := ite'_some f1
            clear f1
            have hoff := Nat.eq_of_beq_eq_true k1
            have hcc : c0 = OPN + i.size := Nat.eq_of_beq_eq_true k2
            have hgt := ble_false hb
            obtain ⟨hc1, hc2, hc3⟩ : OPN < c0 ∧ len ≤ c' ∧ p.off + c' * (c0 - OPN) = E.k p.block := by
              rcases hc with h | h
              · omega
              · exact h
            rw [hcc, Nat.add_sub_cancel_left, hoff, Nat.zero_add] at hc3
            unfold growOpen at hf
            split at hf
            · rename_i cc k e' hbk
              obtain ⟨k3, f1⟩ := ite'_some hf
              clear hf
              obtain ⟨k4, hf⟩ := ite'_some f1
              clear f1
              have he' := Nat.eq_of_beq_eq_true k3
              subst he'
              have hk4 : len * i.size ≤ k := Nat.le_of_ble_eq_true k4
              cases hf
              obtain ⟨cs, fz, q1, q2, q3, q4, q5⟩ := hr.rel _ _ hbk
              have hfz := q2.2 rfl
              subst hfz
              have q4' : cs.size = E.k p.block := by simpa using q4
              have hoffp : (⟨E.s p.block, p.off, none⟩ : Addr) = ⟨E.s p.block, 0, none⟩ := by rw [hoff]
              rw [hoffp]
              by_cases hroom : len + n ≤ c'
              · -- in its place
                have hfits : len * i.size + more'.length ≤ cs.size := by
                  rw [hml', q4', ← hc3, ← Nat.add_mul]; exact Nat.mul_le_mul_right _ hroom
                have hst := run_storeCells_at P (E.s p.block) (len * i.size) e' more' 0 cs w q1 (by simpa using hfits) hone
                simp only [Nat.add_zero] at hst
                have hrun := hR.fits ⟨E.s p.block, 0, none⟩ len c' hroom (by rw [add_plain', Nat.zero_add]; exact hst)
                obtain ⟨g1, g2⟩ := hr.renum hbk
                have hgetn : ((H.b.put p.block none).put H.next (some (Blk.row cc k e' true))).get H.next = some (.row cc k e' true) := by rw [Tr.get_put, if_pos rfl]
                have hsn : (E.add H.next (E.s p.block) (E.k p.block)).s H.next = E.s p.block := by simp [Env.add]
                have hkn : (E.add H.next (E.s p.block) (E.k p.block)).k H.next = E.k p.block := by simp [Env.add]
                have hm2 : VL (E.add H.next (E.s p.block) (E.k p.block)) (H.next + 1) more more' := hm.mono (Env.add_agree _ _ _ _) (Nat.le_succ _)
                have hnsz : (cs.toList.take (len * i.size) ++ more' ++ cs.toList.drop (len * i.size + more'.length)).toArray.size = cs.size := by
                  simp only [List.size_toArray, List.length_append, List.length_take, List.length_drop, Array.length_toList]; omega
                obtain ⟨u1, u2⟩ := g1.upd (w' := w.setRow (E.s p.block) (cs.toList.take (len * i.size) ++ more' ++ cs.toList.drop (len * i.size + more'.length)).toArray) (x1 := .row (Tr.lay more (len * i.size) cc) ((len + n) * i.size) e' true) hgetn
                  (by
                    rw [hsn, setRow_heap w _ cs _ e' (0, 0) q1]
                    refine ⟨_, (0, 0), rfl, ⟨fun j _ hh => by omega, fun _ => rfl⟩, ?_, ?_, fun j u hj hu => ?_⟩
                    · rw [hnsz, q4', ← hc3]; exact Nat.mul_le_mul_right _ hroom
                    · rw [hnsz, q4']; simp [hkn]
                    · rw [splice_get hfits]
                      rw [Tr.get_lay] at hu
                      by_cases j1 : j < len * i.size
                      · rw [if_pos j1]
                        rw [if_neg (by omega)] at hu
                        obtain ⟨u', e5, r5⟩ := q5 j u (by omega) hu
                        exact ⟨u', e5, r5.mono (Env.add_agree _ _ _ _) (Nat.le_succ _)⟩
                      · have hj2 : j < len * i.size + more.length := by rw [hml, ← Nat.add_mul]; exact hj
                        rw [if_neg j1, if_pos (by rw [hml', ← hml]; exact hj2)]
                        rw [if_pos ⟨by omega, hj2⟩] at hu
                        exact hm2.get hu)
                  (fun j hj => setRow_other w _ j _ (by rw [hsn] at hj; exact hj)) rfl rfl rfl (by simp [World.setRow]) rfl
                have hcg : ∀ b, ((H.b.put p.block none).put H.next (some (Blk.row (Tr.lay more (Nat.mul len i.size) cc) (Nat.mul (Nat.add len n) i.size) e' true))).get b = (((H.b.put p.block none).put H.next (some (Blk.row cc k e' true))).put H.next (some (.row (Tr.lay more (len * i.size) cc) ((len + n) * i.size) e' true))).get b := fun b => by
                  simp only [Tr.get_put]
                  split
                  · rfl
                  · rfl
                refine ⟨_, _, _, hrun, (g2.trans u2).congr hcg rfl, ?_, u1.congr hcg rfl⟩
                have z1 := VR.open_ (E := E.add H.next (E.s p.block) (E.k p.block)) (N := H.next + 1) (b := H.next) (o := 0) (l := len + n) (c := c0) (c' := c') (Nat.lt_succ_self _) hc1 hroom (by rw [hkn, hcc, Nat.add_sub_cancel_left, Nat.zero_add]; exact hc3)
                rw [hsn] at z1; exact z1
              · -- in new memory
                have hgt2 : c' < len + n := by omega
                have hle2 : len * i.size ≤ cs.size := by omega
                have hol : (cs.toList.take (len * i.size)).length = len * i.size := by simp; omega
                have hrun := hR.grow ⟨E.s p.block, 0, none⟩ len c' (cs.toList.take (len * i.size)) hol (fun j u hu => by
                  have hj : j < len * i.size := by have := (List.getElem?_eq_some_iff.1 hu).1; rw [hol] at this; exact this
                  rw [List.getElem?_take_of_lt hj, Array.getElem?_toList] at hu
                  rw [add_plain', Nat.zero_add]
                  simp [World.cell?, q1, hu]) hgt2 (by omega) (hfit c' hgt2)
                obtain ⟨C, hC⟩ : ∃ C, C = grownCap w (len + n) c' e' := ⟨_, rfl⟩
                have hCge : len + n ≤ C := hC ▸ cap_ge w (len + n) c' e'
                rw [← hC] at hrun
                have hm2 : VL (E.add H.next w.heap.size (C * i.size)) (H.next + 1) more more' := hm.mono (Env.add_agree _ _ _ _) (Nat.le_succ _)
                have hs : (E.add H.next w.heap.size (C * i.size)).s H.next = w.heap.size := by simp [Env.add]
                have hkk : (E.add H.next w.heap.size (C * i.size)).k H.next = C * i.size := by simp [Env.add]
                have hzs2 : (Builtin.zeroCells z.cells (C - (len + n))).size = (C - (len + n)) * i.size := by simp [Builtin.zeroCells, hzs]
                have hszn : ((cs.toList.take (len * i.size)).toArray ++ more'.toArray ++ Builtin.zeroCells z.cells (C - (len + n))).size = C * i.size := by
                  rw [Array.size_append, Array.size_append, hzs2, List.size_toArray, List.size_toArray, hol, hml', ← Nat.add_mul, ← Nat.add_mul]
                  congr 1; omega
                have hrd : HRel E H w.drew := hr.heap rfl
                obtain ⟨g1, g2⟩ := hrd.new (x := .row (Tr.lay more (len * i.size) cc) ((len + n) * i.size) e' true) (o := .cells ((cs.toList.take (len * i.size)).toArray ++ more'.toArray ++ Builtin.zeroCells z.cells (C - (len + n))) e') (k := C * i.size)
                  ⟨_, (0, 0), rfl, ⟨fun _ _ hh => by omega, fun _ => rfl⟩, by rw [hszn]; exact Nat.mul_le_mul_right _ hCge, by rw [hszn]; simp [Env.add], fun j u hj hu => by
                    have hj3 : j < ((cs.toList.take (len * i.size)).toArray ++ more'.toArray).size := by
                      rw [Array.size_append, List.size_toArray, List.size_toArray, hol, hml', ← Nat.add_mul]; exact hj
                    rw [Array.getElem?_append_left hj3]
                    rw [Tr.get_lay] at hu
                    by_cases j1 : j < len * i.size
                    · rw [if_neg (by omega)] at hu
                      obtain ⟨u', e5, r5⟩ := q5 j u (by omega) hu
                      refine ⟨u', ?_, r5.mono (Env.add_agree _ _ _ _) (Nat.le_succ _)⟩
                      rw [Array.getElem?_append_left (by rw [List.size_toArray, hol]; exact j1), List.getElem?_toArray, List.getElem?_take_of_lt j1, Array.getElem?_toList]
                      exact e5
                    · have hj2 : j < len * i.size + more.length := by rw [hml, ← Nat.add_mul]; exact hj
                      rw [if_pos ⟨by omega, hj2⟩] at hu
                      obtain ⟨u', e5, r5⟩ := hm2.get hu
                      refine ⟨u', ?_, r5⟩
                      rw [Array.getElem?_append_right (by rw [List.size_toArray, hol]; omega), List.size_toArray, hol, List.getElem?_toArray]
                      exact e5⟩
                obtain ⟨d1, d2⟩ := g1.drop p.block
                have hltp := hr.lt _ _ hbk
                have hcg : ∀ b, ((H.b.put p.block none).put H.next (some (Blk.row (Tr.lay more (Nat.mul len i.size) cc) (Nat.mul (Nat.add len n) i.size) e' true))).get b = ((H.new (.row (Tr.lay more (len * i.size) cc) ((len + n) * i.size) e' true)).b.put p.block none).get b := fun b => by
                  simp only [Hp.new, Tr.get_put]
                  by_cases b1 : b = H.next
                  · rw [if_pos b1, if_neg (by omega), if_pos b1]; rfl
                  · rw [if_neg b1, if_neg b1]
                have g2' : Gd E _ H _ w _ := ⟨g2.le, g2.ag, g2.dom, g2.os, g2.tape, g2.output, g2.size, g2.frame⟩
                refine ⟨_, _, _, hrun, (g2'.trans d2).congr hcg rfl, ?_, d1.congr hcg rfl⟩
                have z1 := VR.open_ (E := E.add H.next w.heap.size (C * i.size)) (N := H.next + 1) (b := H.next) (o := 0) (l := len + n) (c := c0) (c' := C) (Nat.lt_succ_self _) hc1 hCge (by rw [hkk, hcc, Nat.add_sub_cancel_left, Nat.zero_add])
                rw [hs] at z1; exact z1
            · cases hf
        · cases hf
      · cases hf
    · cases hf
  · cases hf
theorem append_run {P : Program} {T : Cx} (hT : Fits P T) {E : Env} {H H' : Hp} {w : World} (hr : HRel E H w) {t tx ty : TypeId} {s s' v xx : Value} {more more' : List Value} {n : Nat} (hf : appendA T H t s more n = some (v, H')) (hs : VR E H.next s s')
    (hm : VL E H.next more more') (hsrc : ∀ e i, T.und t = some (.slice e) → T.ty.get e = some i → SrcA P w tx xx n i.size more') (hlen : ∀ e i, T.und t = some (.slice e) → T.ty.get e = some i → more.length = n * i.size) :
    ∃ E' v' w', (Builtin.append_ #[t, tx] ty #[s', xx]).run P w = .ok v' w' ∧ Gd E E' H H' w w' ∧ VR E' H'.next v v' ∧ HRel E' H' w' :=
  append_runR hT hr hf hs hm (fun e i z hu hi hz => (hsrc e i hu hi).r (hT.und hu) (hT.ty e i hi) hz) hlen
end
end Go.Proofs.YtcpghlilbohohaaGreatDoor
namespace Go.Proofs.YtcpghlilbohohaaGreatDoor
open Go
set_option linter.unusedVariables false
set_option linter.unusedSimpArgs false
noncomputable section
variable {ds : List Deferred}
/-- nothing is appended. -/
def sameS (s : Value) (H : Hp) : Option (Value × Hp) := match s with
  | .slice none _ _ => some (s, H)
  | .slice (some _) l c => ite' (Nat.ble l c) (some (s, H)) none
  | _ => none
def o_append (t : TypeId) (x y : Operand) : OpF := fun T A H => match ev A x with
  | some s => (match ev A y with
    | some (.slice (some p) n _) => (match T.und t with
      | some (.slice e) => (match T.ty.get e with
        | some i => ite' (Nat.beq n 0) (sameS s H) (match H.cells p.block p.off (Nat.mul n i.size) with
          | some more => appendA T H t s more n
          | none => none)
        | none => none)
      | _ => none)
    | some (.slice none _ _) => (match T.und t with
      | some (.slice e) => (match T.ty.get e with
        | some i => sameS s H
        | none => none)
      | _ => none)
    | some (.chan none) => (match T.und t with
      | some (.slice e) => (match T.ty.get e with
        | some i => sameS s H
        | none => none)
      | _ => none)
    | _ => none)
  | none => none
theorem sameS_ok {P : Program} {E : Env} {H H' : Hp} {w : World} {t ty e : TypeId} {i : TypeInfo} {s s' v : Value} {b2 : Option Addr} {c2 : Nat} (hP : P.underlying t = some (.slice e)) (hI : P.info? e = some i) (h : sameS s H = some (v, H')) (hs : VR E H.next s s') :
    H' = H ∧ v = s ∧ (Builtin.append_ #[t, t] ty #[s', .slice b2 0 c2]).run P w = .ok s' w := by
  have hfc : (Builtin.firstCells i.size 0 (.slice b2 0 c2)).run P w = .ok #[] w := by
    cases b2 <;> simp [Builtin.firstCells, loadCells, loadCellsFrom]
  unfold sameS at h
  split at h
  · cases h
    obtain ⟨e1, e2, e3⟩ := hs.snil
    subst e3
    refine ⟨rfl, rfl, ?_⟩
    simp [Builtin.append_, run_underlying hP, sizeOf, typeInfo, hI, Builtin.lenOf, hfc]
  · rename_i p l c
    obtain ⟨h1, h2⟩ := ite'_some h
    cases h2
    have hle := Nat.le_of_ble_eq_true h1
    obtain ⟨_, _, c', e3, hc⟩ := hs.sl
    have hl : l ≤ c' := by
      rcases hc with z | z
      · omega
      · omega
    subst e3
    refine ⟨rfl, rfl, ?_⟩
    simp [Builtin.append_, run_underlying hP, sizeOf, typeInfo, hI, Builtin.lenOf, hfc, hl, storeCells]
  · cases h
theorem append_ok {P : Program} {T : Cx} (hT : Fits P T) {o : Oper} {t : TypeId} {x y : Operand} (h : o.op = .call ⟨.builtin .append, #[x, y], #[t, t]⟩) : Sound ds P T o (o_append t x y) := fun A H v H' hf E a w ha hr => by
  unfold o_append at hf
  split at hf
  · rename_i s hs
    split at hf
    · rename_i p n c hy
      split at hf
      · rename_i e hu
        split at hf
        · rename_i i hi
          obtain ⟨_, _, c', e1, _⟩ := (ev_ok ha hy).sl
          cases hn0 : Nat.beq n 0 with
          | true =>
            rw [hn0, ite'_true] at hf
            have hn := Nat.eq_of_beq_eq_true hn0
            subst hn
            obtain ⟨g1, g2, g3⟩ := sameS_ok (P := P) (w := w) (ty := o.type) (b2 := some ⟨E.s p.block, p.off, none⟩) (c2 := c') (hT.und hu) (hT.ty e i hi) hf (ev_ok ha hs)
            subst g1 g2
            refine sound_pure (v' := a.eval x) hr ?_ (ev_ok ha hs)
            simp [execOp, h, resolve, invoke, builtin, e1, g3]
          | false =>
            rw [hn0, ite'_false] at hf
            split at hf
            · rename_i more hm
              obtain ⟨hn1, more', r1, hc⟩ := hr.cells hm
              obtain ⟨E', v', w', h1, h2, h3, h4⟩ := append_run (P := P) (tx := t) (ty := o.type) (xx := .slice (some ⟨E.s p.block, p.off, none⟩) n c') (n := n) hT hr hf (ev_ok ha hs) r1 (fun e2 i2 hu2 hi2 => by
                rw [hu] at hu2; cases hu2
                rw [hi] at hi2; cases hi2
                exact SrcA.slice (hT.und hu) (by rw [← r1.length]; exact hn1) (fun j u hu => by
                  have hj : j < n * i.size := by have := (List.getElem?_eq_some_iff.1 hu).1; rw [← r1.length, hn1] at this; exact this
                  rw [add_plain', hc j hj]; exact hu)) (fun e2 i2 hu2 hi2 => by
                  rw [hu] at hu2; cases hu2
                  rw [hi] at hi2; cases hi2
                  exact hn1)
              refine ⟨E', v', w', _, ?_, .inl rfl, h2, h3, h4⟩
              simp [execOp, h, resolve, invoke, builtin, e1, h1]
            · cases hf
        · cases hf
      · cases hf
    · rename_i n c hy
      split at hf
      · rename_i e hu
        split at hf
        · rename_i i hi
          obtain ⟨e1, e2, e3⟩ := (ev_ok ha hy).snil
          obtain ⟨g1, g2, g3⟩ := sameS_ok (P := P) (w := w) (ty := o.type) (b2 := none) (c2 := 0) (hT.und hu) (hT.ty e i hi) hf (ev_ok ha hs)
          subst g1 g2
          refine sound_pure (v' := a.eval x) hr ?_ (ev_ok ha hs)
          simp [execOp, h, resolve, invoke, builtin, e3, g3]
        · cases hf
      · cases hf
    · rename_i hy
      split at hf
      · rename_i e hu
        split at hf
        · rename_i i hi
          obtain ⟨a2, c2, e3⟩ := (ev_ok ha hy).tl
          obtain ⟨g1, g2, g3⟩ := sameS_ok (P := P) (w := w) (ty := o.type) (b2 := some a2) (c2 := c2) (hT.und hu) (hT.ty e i hi) hf (ev_ok ha hs)
          subst g1 g2
          refine sound_pure (v' := a.eval x) hr ?_ (ev_ok ha hs)
          simp [execOp, h, resolve, invoke, builtin, e3, g3]
        · cases hf
      · cases hf
    · cases hf
  · cases hf
/-- the bytes of a text, as cells. -/
def byteCells (l : List UInt8) : List Value := List.rec (motive := fun _ => List Value) [] (fun b _ ih => .int .u8 (Int.ofNat b.toNat) :: ih) l
theorem byteCells_eq : ∀ (l : List UInt8), byteCells l = l.map fun b => .int .u8 (b.toNat : Int)
  | [] => rfl
  | b :: l => by
    show _ :: byteCells l = _
    rw [byteCells_eq l]; rfl
theorem byteCells_vl {E : Env} {N : Nat} : ∀ (l : List UInt8), VL E N (byteCells l) (byteCells l)
  | [] => .nil
  | b :: l => .cons (.same rfl) (byteCells_vl l)
theorem sameStr_ok {P : Program} {E : Env} {H H' : Hp} {w : World} {t t2 ty e : TypeId} {i : TypeInfo} {s s' v : Value} {b : ByteArray} (hP : P.underlying t = some (.slice e)) (hI : P.info? e = some i) (h2 : P.underlying t2 = some .string) (hb : b.size = 0) (h : sameS s H = some (v, H')) (hs : VR E H.next s s') :
    H' = H ∧ v = s ∧ (Builtin.append_ #[t, t2] ty #[s', .string b]).run P w = .ok s' w := by
  have hfc : (Builtin.firstCells i.size 0 (.string b)).run P w = .ok #[] w := by
    show (pure ((b.extract 0 0).data.map fun b => Value.int .u8 (b.toNat : Int)) : Sem (Array Value)).run P w = _
    have : (b.extract 0 0).data = #[] := by rw [ByteArray.data_extract]; simp
    simp [this]
  unfold sameS at h
  split at h
  · cases h
    obtain ⟨e1, e2, e3⟩ := hs.snil
    subst e3
    refine ⟨rfl, rfl, ?_⟩
    simp [Builtin.append_, run_underlying hP, run_underlying h2, sizeOf, typeInfo, hI, Builtin.lenOf, hfc, hb]
  · rename_i p l c
    obtain ⟨h1, h2'⟩ := ite'_some h
    cases h2'
    have hle := Nat.le_of_ble_eq_true h1
    obtain ⟨_, _, c', e3, hc⟩ := hs.sl
    have hl : l ≤ c' := by
      rcases hc with z | z
      · omega
      · omega
    subst e3
    refine ⟨rfl, rfl, ?_⟩
    simp [Builtin.append_, run_underlying hP, run_underlying h2, sizeOf, typeInfo, hI, Builtin.lenOf, hfc, hl, storeCells, hb]
  · cases h
def o_appendStr (t t2 : TypeId) (x y : Operand) : OpF := fun T A H => match ev A x with
  | some s => (match ev A y with
    | some (.string b) => (match T.und t2 with
      | some .string => (match T.und t with
        | some (.slice e) => (match T.ty.get e with
          | some i => ite' (Nat.beq i.size 1) (ite' (Nat.beq b.data.toList.length 0) (sameS s H) (appendA T H t s (byteCells b.data.toList) b.data.toList.length)) none
          | none => none)
        | _ => none)
      | _ => none)
    | _ => none)
  | none => none
theorem appendStr_ok {P : Program} {T : Cx} (hT : Fits P T) {o : Oper} {t t2 : TypeId} {x y : Operand} (h : o.op = .call ⟨.builtin .append, #[x, y], #[t, t2]⟩) : Sound ds P T o (o_appendStr t t2 x y) := fun A H v H' hf E a w ha hr => by
  unfold o_appendStr at hf
  split at hf
  · rename_i s hs
    split at hf
    · rename_i b hy
      split at hf
      · rename_i ht2
        split at hf
        · rename_i e hu
          split at hf
          · rename_i i hi
            obtain ⟨h1, hf1⟩ := ite'_some hf
            clear hf
            have hsz := Nat.eq_of_beq_eq_true h1
            have e1 := (ev_ok ha hy).string
            cases hz0 : Nat.beq b.data.toList.length 0 with
            | true =>
              rw [hz0, ite'_true] at hf1
              have hb0 : b.size = 0 := Nat.eq_of_beq_eq_true hz0
              obtain ⟨q1, q2, q3⟩ := sameStr_ok (P := P) (w := w) (ty := o.type) (hT.und hu) (hT.ty e i hi) (hT.und ht2) hb0 hf1 (ev_ok ha hs)
              subst q1 q2
              refine sound_pure hr ?_ (ev_ok ha hs)
              simp [execOp, h, resolve, invoke, builtin, e1, q3]
            | false =>
            rw [hz0, ite'_false] at hf1
            have hlen : (byteCells b.data.toList).length = b.data.toList.length := by rw [byteCells_eq]; simp
            obtain ⟨E', v', w', h1, h2, h3, h4⟩ := append_run (P := P) (tx := t2) (ty := o.type) (xx := .string b) (n := b.data.toList.length) hT hr hf1 (ev_ok ha hs) (byteCells_vl b.data.toList) (fun e2 i2 hu2 hi2 => by
                rw [hu] at hu2; cases hu2
                rw [hi] at hi2; cases hi2
                refine ⟨.inr (hT.und ht2), fun W => by simp [Builtin.lenOf], fun W hW => ?_⟩
                have e5 : b.extract 0 b.data.toList.length = b := by
                  apply ByteArray.ext
                  rw [ByteArray.data_extract]
                  simp
                show (pure ((b.extract 0 b.data.toList.length).data.map fun b => Value.int .u8 (b.toNat : Int)) : Sem (Array Value)).run P W = _
                rw [e5, byteCells_eq]
                have e6 : b.data.map (fun b => Value.int .u8 (b.toNat : Int)) = (b.data.toList.map fun b => Value.int .u8 (b.toNat : Int)).toArray := by
                  apply Array.ext'; simp
                simp [e6]) (fun e2 i2 hu2 hi2 => by
                  rw [hu] at hu2; cases hu2
                  rw [hi] at hi2; cases hi2
                  rw [hlen, hsz, Nat.mul_one])
            refine ⟨E', v', w', _, ?_, .inl rfl, h2, h3, h4⟩
            simp [execOp, h, resolve, invoke, builtin, e1, h1]
          · cases hf
        · cases hf
      · cases hf
    · cases hf
  · cases hf
/-! ### a piece of a text -/
def strSl (s : ByteArray) (lo hi : Option Value) : Option Value := match optB hi s.data.toList.length with
  | some h => (match optB lo 0 with
    | some l => ite' (Nat.ble l h) (ite' (Nat.ble h s.data.toList.length) (some (.string ⟨(List.take (Nat.sub h l) (List.drop l s.data.toList)).toArray⟩)) none) none
    | none => none)
  | none => none
def o_strSlice (t : TypeId) (x : Operand) (lo hi : Option Operand) : OpF := fun T A H => match ev A x with
  | some (.string s) => (match evO A lo with
    | some lo => (match evO A hi with
      | some hi => (match T.und t with
        | some .string => withH (strSl s lo hi) H
        | _ => none)
      | none => none)
    | none => none)
  | _ => none
theorem bounds_runS {P : Program} {w : World} {len l h : Nat} {lo hi : Option Value} (hh : (hi = none ∧ h = len) ∨ ∃ k, hi = some (.int k h)) (hl : (lo = none ∧ l = 0) ∨ ∃ k, lo = some (.int k l)) (h1 : l ≤ h) (h2 : h ≤ len) :
    (Instr.sliceBounds false len len lo hi none).run P w = .ok (l, h, len) w := by
  unfold Instr.sliceBounds
  rcases hh with ⟨rfl, rfl⟩ | ⟨k2, rfl⟩ <;> rcases hl with ⟨rfl, rfl⟩ | ⟨k3, rfl⟩ <;> simp [bound_run, h1, h2]
theorem strSlice_ok {P : Program} {T : Cx} (hT : Fits P T) {o : Oper} {t : TypeId} {x : Operand} {lo hi : Option Operand} (h : o.op = .slice t x lo hi none) : SoundP ds P T o (o_strSlice t x lo hi) := fun A H v H' hf E a ha => by
  unfold o_strSlice at hf
  split at hf
  · rename_i s hs
    split at hf
    · rename_i lo' hlo
      split at hf
      · rename_i hi' hhi
        split at hf
        · rename_i ht
          obtain ⟨hf2, e0⟩ := withH_some hf
          subst e0
          unfold strSl at hf2
          split at hf2
          · rename_i h0 hh
            split at hf2
            · rename_i l hl
              obtain ⟨z1, f1⟩ := ite'_some hf2
              obtain ⟨z2, f2⟩ := ite'_some f1
              cases f2
              have k1 := Nat.le_of_ble_eq_true z1
              have k2 : h0 ≤ s.size := Nat.le_of_ble_eq_true z2
              have hb := fun w => bounds_runS (P := P) (w := w) (len := s.size) (l := l) (h := h0) (lo := lo.map a.eval) (hi := hi.map a.eval)
                ((optB_ok ha hhi hh).imp (fun z => ⟨z.1, z.2.2⟩) id) ((optB_ok ha hlo hl).imp (fun z => ⟨z.1, z.2.2⟩) id) k1 k2
              have e : s.extract l h0 = ⟨(List.take (Nat.sub h0 l) (List.drop l s.data.toList)).toArray⟩ := by
                apply ByteArray.ext
                rw [ByteArray.data_extract]
                apply Array.ext'
                simp [List.extract_eq_take_drop]
              refine pure_ok (v' := .string (s.extract l h0)) (fun w => ?_) (by rw [e]; exact .same rfl)
              simp [execOp, h, Instr.sliceAt, Instr.slice, run_underlying (hT.und ht), (ev_ok ha hs).string, hb w]
            · cases hf2
          · cases hf2
        · cases hf
      · cases hf
    · cases hf
  · cases hf
def sliceD (t : TypeId) (x : Operand) (lo hi mx : Option Operand) : OpF := fun T A H => match mx with
  | none => (match o_strSlice t x lo hi T A H with
    | some r => some r
    | none => o_slice t x lo hi none T A H)
  | some m => o_slice t x lo hi (some m) T A H
theorem sliceD_ok {P : Program} {T : Cx} (hT : Fits P T) {o : Oper} {t : TypeId} {x : Operand} {lo hi mx : Option Operand} (h : o.op = .slice t x lo hi mx) : SoundP ds P T o (sliceD t x lo hi mx) := fun A H v H' hf E a ha => by
  unfold sliceD at hf
  split at hf
  · split at hf
    · rename_i r hr
      cases hf
      exact strSlice_ok hT h A H v H' hr E a ha
    · exact slice_ok hT h A H v H' hf E a ha
  · exact slice_ok hT h A H v H' hf E a ha
/-! ### which operation is done how -/
def noF : OpF := fun _ _ _ => none
def lenD (args : List Operand) (tys : List TypeId) : OpF := match args with
  | [x] => (match tys with
    | [t] => o_len t x
    | _ => noF)
  | _ => noF
def appD (args : List Operand) (tys : List TypeId) : OpF := match args with
  | [x, y] => (match tys with
    | [t, t2] => ite' (Nat.beq t2 t) (o_append t x y) (o_appendStr t t2 x y)
    | _ => noF)
  | _ => noF
def callD (c : Call) : OpF := match c.callee with
  | .builtin b => (match b with
    | .len => lenD c.args.toList c.argTypes.toList
    | .append => appD c.args.toList c.argTypes.toList
    | _ => noF)
  | _ => noF
def o_neg (x : Operand) : OpF := fun _ A H => match ev A x with
  | some (.int k n) => withH (intBin .sub k 0 n) H
  | _ => none
theorem neg_ok {P : Program} {T : Cx} {o : Oper} {t : TypeId} {x : Operand} (h : o.op = .unOp .neg t x) : SoundP ds P T o (o_neg x) := fun A H v H' hf E a ha => by
  unfold o_neg at hf
  split at hf
  · rename_i k n hx
    obtain ⟨hv, e0⟩ := withH_some hf
    subst e0
    have key := fun w => intBin_ok (P := P) (w := w) (op := .sub) (t := t) (k := k) (k' := k) hv (.inr rfl)
    refine pure_ok (v' := v) (fun w => ?_) (.same (key default).2)
    have h1 := (key w).1
    have e1 := (ev_ok ha hx).int
    have h2 : (Op.unary .neg (.int k n)).run P w = .ok v w := by
      simp [binOp] at h1
      exact h1
    simp [execOp, h, e1, h2]
  · cases hf
def o_compl (x : Operand) : OpF := fun _ A H => match ev A x with
  | some (.int k n) => withH (intBin .xor k (ite' k.signed (-1) k.max) n) H
  | _ => none
theorem compl_ok {P : Program} {T : Cx} {o : Oper} {t : TypeId} {x : Operand} (h : o.op = .unOp .xor t x) : SoundP ds P T o (o_compl x) := fun A H v H' hf E a ha => by
  unfold o_compl at hf
  split at hf
  · rename_i k n hx
    obtain ⟨hv, e0⟩ := withH_some hf
    subst e0
    have key := fun w => intBin_ok (P := P) (w := w) (op := .xor) (t := t) (k := k) (k' := k) hv (.inr rfl)
    refine pure_ok (v' := v) (fun w => ?_) (.same (key default).2)
    have h1 := (key w).1
    have e1 := (ev_ok ha hx).int
    have e2 : ite' k.signed (-1 : Int) k.max = if k.signed then -1 else k.max := by cases k.signed <;> rfl
    rw [e2] at h1
    have h2 : (Op.unary .xor (.int k n)).run P w = .ok v w := by
      simp [binOp] at h1
      exact h1
    simp [execOp, h, e1, h2]
  · cases hf
def unD (op : UnOp) (x : Operand) : OpF := match op with
  | .not => o_not x
  | .neg => o_neg x
  | .xor => o_compl x
  | _ => noF
def opD (o : Op) : OpF := match o with
  | .move x => o_move x
  | .assign x => o_move x
  | .pick c a b => o_pick c a b
  | .extract t i => o_extract t i
  | .binOp op t x y _ => o_bin op t x y
  | .unOp op _ x => unD op x
  | .nilCheck x => o_nilCheck x
  | .load t x => o_load t x
  | .store t x y => o_store t x y
  | .fieldAddr s x f => o_fieldAddr s x f
  | .indexAddr t x i => o_indexAddr t x i
  | .index t x i => o_index t x i
  | .box t x => o_box t x
  | .alloc t => o_alloc t
  | .build t ps => o_build t ps.toList
  | .buildSlice t n ps => o_buildSlice t n ps.toList
  | .convert s d x => o_conv s d x
  | .slice t x lo hi mx => sliceD t x lo hi mx
  | .makeInterface t x => o_mkIface t x
  | .call c => callD c
  | _ => noF
/-- an operation that looks at no memory. -/
def isPure (o : Op) : Bool := match o with
  | .move _ | .assign _ | .pick _ _ _ | .extract _ _ | .binOp _ _ _ _ _ | .nilCheck _ | .fieldAddr _ _ _ | .indexAddr _ _ _ | .index _ _ _ | .build _ _ | .convert _ _ _ | .slice _ _ _ _ _ | .makeInterface _ _ => true
  | .unOp .not _ _ => true
  | .unOp .neg _ _ => true
  | .unOp .xor _ _ => true
  | .call c => (match c.callee with
    | .builtin .len => true
    | _ => false)
  | _ => false
theorem noF_ok {P : Program} {T : Cx} {o : Oper} : SoundP ds P T o noF := fun A H v H' hf => by cases hf
theorem lenD_ok {P : Program} {T : Cx} (hT : Fits P T) {o : Oper} {c : Call} (h : o.op = .call c) (hc : c.callee = .builtin .len) : SoundP ds P T o (lenD c.args.toList c.argTypes.toList) := by
  obtain ⟨callee, ⟨args⟩, ⟨tys⟩⟩ := c
  simp only at hc; subst hc
  show SoundP ds P T o (lenD args tys)
  unfold lenD
  split
  · split
    · exact len_ok hT h
    · exact noF_ok
  · exact noF_ok
theorem appD_ok {P : Program} {T : Cx} (hT : Fits P T) {o : Oper} {c : Call} (h : o.op = .call c) (hc : c.callee = .builtin .append) : Sound ds P T o (appD c.args.toList c.argTypes.toList) := by
  obtain ⟨callee, ⟨args⟩, ⟨tys⟩⟩ := c
  simp only at hc; subst hc
  show Sound ds P T o (appD args tys)
  unfold appD
  split
  · split
    · rename_i t t2
      cases hb : Nat.beq t2 t with
      | true =>
        have := Nat.eq_of_beq_eq_true hb
        subst this
        exact append_ok hT h
      | false => exact appendStr_ok hT h
    · exact (SoundP.sound noF_ok)
  · exact (SoundP.sound noF_ok)
theorem opD_pure {P : Program} {T : Cx} (hT : Fits P T) {o : Oper} (h : isPure o.op = true) : SoundP ds P T o (opD o.op) := by
  unfold isPure at h
  cases ho : o.op with
  | move x => exact move_ok (.inl ho)
  | assign x => exact move_ok (.inr ho)
  | pick c a b => exact pick_ok ho
  | extract t i => exact extract_ok ho
  | binOp op t x y t' => exact bin_ok hT ho
  | nilCheck x => exact nilCheck_ok ho
  | fieldAddr s x f => exact fieldAddr_ok hT ho
  | indexAddr t x i => exact indexAddr_ok hT ho
  | index t x i => exact index_ok hT ho
  | build t ps => exact build_ok hT ho
  | convert s d x => exact conv_ok hT ho
  | makeInterface t x => exact mkIface_ok hT ho
  | slice t x lo hi mx => exact sliceD_ok hT ho
  | unOp op t x => cases op with
    | not => exact not_ok ho
    | neg => exact neg_ok ho
    | xor => exact compl_ok ho
    | _ => exact noF_ok
  | call c =>
    show SoundP ds P T o (callD c)
    unfold callD
    split
    · rename_i b hc
      split
      · exact lenD_ok hT ho hc
      · rw [ho] at h; simp [hc] at h
      · exact noF_ok
    · exact noF_ok
  | _ => rw [ho] at h; cases h
theorem opD_ok {P : Program} {T : Cx} (hT : Fits P T) {o : Oper} : Sound ds P T o (opD o.op) := by
  cases hp : isPure o.op with
  | true => exact (SoundP.sound (opD_pure hT hp))
  | false =>
    cases ho : o.op with
    | load t x => exact load_ok hT ho
    | store t x y => exact store_ok hT ho
    | box t x => exact box_ok ho
    | alloc t => exact alloc_ok hT ho
    | buildSlice t n ps => exact buildSlice_ok hT ho
    | unOp op t x => cases op with
      | not => rw [ho] at hp; cases hp
      | neg => rw [ho] at hp; cases hp
      | xor => rw [ho] at hp; cases hp
      | _ => exact (SoundP.sound noF_ok)
    | call c =>
      show Sound ds P T o (callD c)
      unfold callD
      split
      · rename_i b hc
        split
        · exact (SoundP.sound (lenD_ok hT ho hc))
        · exact appD_ok hT ho hc
        · exact (SoundP.sound noF_ok)
      · exact (SoundP.sound noF_ok)
    | move x => rw [ho] at hp; cases hp
    | assign x => rw [ho] at hp; cases hp
    | pick c a b => rw [ho] at hp; cases hp
    | extract t i => rw [ho] at hp; cases hp
    | binOp op t x y t' => rw [ho] at hp; cases hp
    | nilCheck x => rw [ho] at hp; cases hp
    | fieldAddr s x f => rw [ho] at hp; cases hp
    | indexAddr t x i => rw [ho] at hp; cases hp
    | index t x i => rw [ho] at hp; cases hp
    | build t ps => rw [ho] at hp; cases hp
    | convert s d x => rw [ho] at hp; cases hp
    | makeInterface t x => rw [ho] at hp; cases hp
    | slice t x lo hi mx => rw [ho] at hp; cases hp
    | _ => exact (SoundP.sound noF_ok)
end
end Go.Proofs.YtcpghlilbohohaaGreatDoor
