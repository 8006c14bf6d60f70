import Derived.Test.YtanhkchpffkloaaGreatDoorEd
namespace Go.Proofs.YtanhkchpffkloaaGreatDoor
open Go
set_option linter.unusedVariables false
set_option linter.unusedSimpArgs false
noncomputable section
variable {ds : List Deferred}
theorem ble_lt {a b : Nat} (h : Nat.ble (Nat.succ a) b = true) : a < b := Nat.le_of_ble_eq_true h
def o_fieldAddr (s : TypeId) (x : Operand) (f : Nat) : OpF := fun T A H => match ev A x with
  | some (.pointer (some p)) => (match T.und s with
    | some (.struct fs) => (match fs.toList[f]? with
      | some fd => (match T.ty.get fd.type with
        | some i => ite' (Nat.beq i.size 0) none (some (.pointer (some ⟨p.block, Nat.add p.off fd.offset, none⟩), H))
        | none => none)
      | none => none)
    | _ => none)
  | _ => none
theorem fieldAddr_ok {P : Program} {T : Cx} (hT : Fits P T) {o : Oper} {s : TypeId} {x : Operand} {f : Nat} (h : o.op = .fieldAddr s x f) : SoundP ds P T o (o_fieldAddr s x f) := fun A H v H' hf E a ha => by
  unfold o_fieldAddr at hf
  split at hf
  · rename_i p hb
    split at hf
    · rename_i fs hfs
      split at hf
      · rename_i fd hfd
        split at hf
        · rename_i i hi
          obtain ⟨h1, h2⟩ := ite'_none hf
          cases h2
          obtain ⟨_, hlt, e⟩ := (ev_ok ha hb).pptr
          have h0 : i.size ≠ 0 := fun h0 => by rw [h0] at h1; cases h1
          refine pure_ok (v' := .pointer (some ⟨E.s p.block, p.off + fd.offset, none⟩)) (fun w => ?_) (.ptr hlt)
          have hfd2 : fs[f]? = some fd := by simpa using hfd
          simp [execOp, h, e, Instr.fieldAt, run_underlying (hT.und hfs), hfd2, Instr.sureAddr, fieldPlace, sizeOf, typeInfo, hT.ty _ i hi, h0, add_plain']
        · cases hf
      · cases hf
    · cases hf
  · cases hf
def o_indexAddr (t : TypeId) (x ix : Operand) : OpF := fun T A H => match ev A x with
  | some (.slice (some p) len c) => (match ev A ix with
    | some (.int _ (.ofNat i)) => (match T.und t with
      | some (.slice e) => (match T.ty.get e with
        | some inf => ite' (Nat.ble (Nat.succ i) len) (some (.pointer (some ⟨p.block, Nat.add p.off (Nat.mul i inf.size), none⟩), H)) none
        | none => none)
      | _ => none)
    | _ => none)
  | some (.pointer (some p)) => (match ev A ix with
    | some (.int _ (.ofNat i)) => (match T.und t with
      | some (.array len e) => (match T.ty.get e with
        | some inf => ite' (Nat.ble (Nat.succ i) len) (some (.pointer (some ⟨p.block, Nat.add p.off (Nat.mul i inf.size), none⟩), H)) none
        | none => none)
      | _ => none)
    | _ => none)
  | _ => none
theorem indexAddr_ok {P : Program} {T : Cx} (hT : Fits P T) {o : Oper} {t : TypeId} {x ix : Operand} (h : o.op = .indexAddr t x ix) : SoundP ds P T o (o_indexAddr t x ix) := fun A H v H' hf E a ha => by
  unfold o_indexAddr at hf
  split at hf
  · rename_i p len c hb
    split at hf
    · rename_i k i hix
      split at hf
      · rename_i el ht
        split at hf
        · rename_i inf hi
          obtain ⟨h1, h2⟩ := ite'_some hf
          cases h2
          obtain ⟨_, hlt, c', e, _⟩ := (ev_ok ha hb).sl
          have hi2 := (ev_ok ha hix).int
          have hl := ble_lt h1
          refine pure_ok (v' := .pointer (some ⟨E.s p.block, p.off + i * inf.size, none⟩)) (fun w => ?_) (.ptr hlt)
          simp [execOp, h, e, hi2, Instr.indexAt, asIntOf, run_underlying (hT.und ht), sizeOf, typeInfo, hT.ty _ inf hi, add_plain', hl]
        · cases hf
      · cases hf
    · cases hf
  · rename_i p hb
    split at hf
    · rename_i k i hix
      split at hf
      · rename_i len el ht
        split at hf
        · rename_i inf hi
          obtain ⟨h1, h2⟩ := ite'_some hf
          cases h2
          obtain ⟨_, hlt, e⟩ := (ev_ok ha hb).pptr
          have hi2 := (ev_ok ha hix).int
          have hl := ble_lt h1
          refine pure_ok (v' := .pointer (some ⟨E.s p.block, p.off + i * inf.size, none⟩)) (fun w => ?_) (.ptr hlt)
          simp [execOp, h, e, hi2, Instr.indexAt, asIntOf, run_underlying (hT.und ht), Instr.sureAddr, sizeOf, typeInfo, hT.ty _ inf hi, add_plain', hl]
        · cases hf
      · cases hf
    · cases hf
  · cases hf
def o_index (t : TypeId) (x ix : Operand) : OpF := fun T A H => match ev A x with
  | some (.string s) => (match ev A ix with
    | some (.int _ (.ofNat i)) => (match T.und t with
      | some .string => (match s.data.toList[i]? with
        | some b => some (.int .u8 (Int.ofNat b.toNat), H)
        | none => none)
      | _ => none)
    | _ => none)
  | _ => none
theorem index_ok {P : Program} {T : Cx} (hT : Fits P T) {o : Oper} {t : TypeId} {x ix : Operand} (h : o.op = .index t x ix) : SoundP ds P T o (o_index t x ix) := fun A H v H' hf E a ha => by
  unfold o_index at hf
  split at hf
  · rename_i s hb
    split at hf
    · rename_i k i hix
      split at hf
      · rename_i ht
        split at hf
        · rename_i b hi
          injection hf with hf
          injection hf with e1 e2
          subst e1 e2
          refine pure_ok (v' := .int .u8 (Int.ofNat b.toNat)) (fun w => ?_) (.same rfl)
          have hb2 : s[i]? = some b := by
            rw [Array.getElem?_toList] at hi
            obtain ⟨h1, h2⟩ := Array.getElem?_eq_some_iff.1 hi
            have h3 : i < s.size := h1
            rw [getElem?_pos s i h3]
            exact congrArg some h2
          simp [execOp, h, (ev_ok ha hb).string, (ev_ok ha hix).int, Instr.index, asIntOf, run_underlying (hT.und ht), hb2]
        · cases hf
      · cases hf
    · cases hf
  · cases hf
theorem map_rows {l : List Value} {E : Env} {N : Nat} {l' : List Value} (h : VL E N l l') (i : Nat) (v : Value) (hv : (Tr.lay l 0 .nil).get i = some v) : ∃ v', l'.toArray[i]? = some v' ∧ VR E N v v' := by
  rw [Tr.get_lay] at hv
  split at hv
  · obtain ⟨v', e, r⟩ := h.get (by simpa using hv)
    exact ⟨v', by simpa using e, r⟩
  · cases hv
/-- a new row of these cells. -/
def newRowB (H : Hp) (e : TypeId) (l : List Value) : Hp := H.new (.row (Tr.lay l 0 .nil) l.length e false)
theorem newRow_ok {E : Env} {H : Hp} {w : World} (hr : HRel E H w) {l l' : List Value} (hl : VL E H.next l l') (e : TypeId) :
    HRel (E.add H.next w.heap.size 0) (newRowB H e l) (w.alloc (.cells l'.toArray e)) ∧ Gd E (E.add H.next w.heap.size 0) H (newRowB H e l) w (w.alloc (.cells l'.toArray e)) ∧ (E.add H.next w.heap.size 0).s H.next = w.heap.size := by
  have h2 : VL (E.add H.next w.heap.size 0) (H.next + 1) l l' := hl.mono (Env.add_agree _ _ _ _) (Nat.le_succ _)
  have hn := hl.length
  obtain ⟨h3, h4⟩ := hr.new (x := .row (Tr.lay l 0 .nil) l.length e false) (o := .cells l'.toArray e) (k := 0) ⟨l'.toArray, (0, 0), rfl, ⟨fun i _ hh => by omega, fun _ => rfl⟩, by simp [hn], by simp [hn], fun i v hi hv => map_rows h2 i v hv⟩
  exact ⟨h3, h4, by simp [Env.add]⟩
def o_box (t : TypeId) (x : Operand) : OpF := fun T A H => match ev A x with
  | some v => some (.pointer (some ⟨H.next, 0, none⟩), newRowB H t v.cells.toList)
  | none => none
theorem box_ok {P : Program} {T : Cx} {o : Oper} {t : TypeId} {x : Operand} (h : o.op = .box t x) : Sound ds P T o (o_box t x) := fun A H v H' hf E a w ha hr => by
  unfold o_box at hf
  split at hf
  · rename_i u hu; cases hf
    obtain ⟨h1, h2, h3⟩ := newRow_ok hr (ev_ok ha hu).cells t
    refine ⟨_, .pointer (some ⟨w.heap.size, 0, none⟩), _, _, ?_, .inl rfl, h2, ?_, h1⟩
    · simp [execOp, h, Instr.box, newVar, newRow]
    · have z := VR.ptr (E := E.add H.next w.heap.size 0) (N := H.next + 1) (o := 0) (Nat.lt_succ_self H.next)
      rw [h3] at z; exact z
  · cases hf
def o_alloc (t : TypeId) : OpF := fun T A H => match T.ty.get t with
  | some i => (match i.zero with
    | some z => ite' (plainL z.cells.toList) (some (.pointer (some ⟨H.next, 0, none⟩), newRowB H t z.cells.toList)) none
    | none => none)
  | none => none
theorem alloc_ok {P : Program} {T : Cx} (hT : Fits P T) {o : Oper} {t : TypeId} (h : o.op = .alloc t) : Sound ds P T o (o_alloc t) := fun A H v H' hf E a w ha hr => by
  unfold o_alloc at hf
  split at hf
  · rename_i i hi
    split at hf
    · rename_i z hz
      obtain ⟨hp, hf⟩ := ite'_some hf
      cases hf
      obtain ⟨h1, h2, h3⟩ := newRow_ok hr (plainL_ok (E := E) (N := H.next) hp) t
      refine ⟨_, .pointer (some ⟨w.heap.size, 0, none⟩), _, _, ?_, .inl rfl, h2, ?_, h1⟩
      · simp [execOp, h, Instr.alloc, zeroValue, typeInfo, hT.ty t i hi, hz, newVar, newRow]
      · have z := VR.ptr (E := E.add H.next w.heap.size 0) (N := H.next + 1) (o := 0) (Nat.lt_succ_self H.next)
        rw [h3] at z; exact z
    · cases hf
  · cases hf
end
end Go.Proofs.YtanhkchpffkloaaGreatDoor
