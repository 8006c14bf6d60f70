import Derived.Test.YtanhkchpffkloaaGreatDoorEc
namespace Go.Proofs.YtanhkchpffkloaaGreatDoor
open Go
set_option linter.unusedVariables false
set_option linter.unusedSimpArgs false
noncomputable section
variable {ds : List Deferred}
def o_extract (x : Operand) (i : Nat) : OpF := fun _ A H => match ev A x with
  | some (.tuple vs) => (match vs.toList[i]? with
    | some v => some (v, H)
    | none => none)
  | _ => none
theorem extract_ok {P : Program} {T : Cx} {o : Oper} {x : Operand} {i : Nat} (h : o.op = .extract x i) : SoundP ds P T o (o_extract x i) := fun A H v H' hf E a ha => by
  unfold o_extract at hf
  split at hf
  · rename_i vs hb
    split at hf
    · rename_i u hu; cases hf
      obtain ⟨l', e, hl⟩ := (ev_ok ha hb).tup
      obtain ⟨u', e2, r⟩ := hl.get hu
      refine pure_ok (v' := u') (fun w => ?_) r
      simp [execOp, h, e, Instr.extract, e2, Sem.run, pure, bind, Sem.bind]
    · cases hf
  · cases hf
def o_not (x : Operand) : OpF := fun _ A H => match ev A x with
  | some (.bool b) => some (.bool (Bool.not b), H)
  | _ => none
theorem not_ok {P : Program} {T : Cx} {o : Oper} {t : TypeId} {x : Operand} (h : o.op = .unOp .not t x) : SoundP ds P T o (o_not x) := fun A H v H' hf E a ha => by
  unfold o_not at hf
  split at hf
  · rename_i b hb; cases hf
    refine pure_ok (fun w => ?_) (.same rfl)
    simp [execOp, h, (ev_ok ha hb).bool, Op.unary, Sem.run, pure, bind, Sem.bind]
  · cases hf
def o_nilCheck (x : Operand) : OpF := fun _ A H => match ev A x with
  | some (.pointer (some p)) => some (.pointer (some p), H)
  | _ => none
theorem nilCheck_ok {P : Program} {T : Cx} {o : Oper} {x : Operand} (h : o.op = .nilCheck x) : SoundP ds P T o (o_nilCheck x) := fun A H v H' hf E a ha => by
  unfold o_nilCheck at hf
  split at hf
  · rename_i p hb; cases hf
    have hp := ev_ok ha hb
    obtain ⟨_, _, e⟩ := hp.pptr
    rw [e] at hp
    refine pure_ok (fun w => ?_) hp
    simp [execOp, h, e, Sem.run, pure, bind, Sem.bind]
  · cases hf
/-- the cells of a variable. -/
def isAggD : TypeDesc → Bool
  | .struct _ | .array _ _ => true
  | _ => false
def loadV (T : Cx) (H : Hp) (t : TypeId) (b off : Nat) : Option Value := match T.ty.get t with
  | some i => (match T.und t with
    | some d => ite' (isAggD d) (match H.cells b off i.size with
      | some l => some (.agg l.toArray)
      | none => none) (H.cell b off)
    | none => none)
  | none => none
theorem add_plain' (b o i : Nat) : (⟨b, o, none⟩ : Addr).add i = ⟨b, o + i, none⟩ := by
  unfold Addr.add
  split
  · rename_i e; subst e; rfl
  · rfl
theorem loadV_ok {P : Program} {T : Cx} (hT : Fits P T) {E : Env} {H : Hp} {w : World} (hr : HRel E H w) {t : TypeId} {b off : Nat} {v : Value} (h : loadV T H t b off = some v) :
    ∃ v', (loadVar t ⟨E.s b, off, none⟩).run P w = .ok v' w ∧ VR E H.next v v' := by
  unfold loadV at h
  split at h
  · rename_i i hi
    split at h
    · rename_i d hd
      have e1 := hT.ty t i hi
      have e2 := hT.und hd
      cases hag : isAggD d with
      | true =>
        rw [hag, ite'_true] at h
        split at h
        · rename_i l hl; cases h
          obtain ⟨hn, l', r, hc⟩ := hr.cells hl
          refine ⟨.agg l'.toArray, ?_, .agg r⟩
          have hld := run_loadCells_list (P := P) w ⟨E.s b, off, none⟩ l' (fun j u hu => by
            have hj : j < i.size := by
              have := (List.getElem?_eq_some_iff.1 hu).1
              rw [← r.length, hn] at this; exact this
            rw [add_plain', hc j hj]; exact hu)
          rw [← r.length, hn] at hld
          have hu := run_underlying (P := P) e2 w
          cases d <;> simp [isAggD] at hag <;> simp [loadVar, isAgg, hu, sizeOf, typeInfo, e1, hld]
        · cases h
      | false =>
        rw [hag, ite'_false] at h
        obtain ⟨_, v', e, r⟩ := hr.cell h
        refine ⟨v', ?_, r⟩
        have hu := run_underlying (P := P) e2 w
        cases d <;> simp [isAggD] at hag <;> simp [loadVar, isAgg, hu, e]
    · cases h
  · cases h
def o_load (t : TypeId) (x : Operand) : OpF := fun T A H => match ev A x with
  | some (.pointer (some p)) => (match loadV T H t p.block p.off with
    | some v => some (v, H)
    | none => none)
  | _ => none
theorem load_ok {P : Program} {T : Cx} (hT : Fits P T) {o : Oper} {t : TypeId} {x : Operand} (h : o.op = .load t x) : Sound ds P T o (o_load t x) := fun A H v H' hf E a w ha hr => by
  unfold o_load at hf
  split at hf
  · rename_i p hb
    split at hf
    · rename_i u hu; cases hf
      obtain ⟨_, _, e⟩ := (ev_ok ha hb).pptr
      obtain ⟨v', e2, r⟩ := loadV_ok hT hr hu
      refine sound_pure (v' := v') hr ?_ r
      simp [execOp, h, e, Instr.loadAt, Instr.sureAddr, e2]
    · cases hf
  · cases hf
def oneB : Value → Bool
  | .agg _ | .tuple _ => false
  | _ => true
theorem VR.one {E : Env} {N : Nat} {v v' : Value} (h : VR E N v v') (h1 : oneB v = true) : v'.oneCell' = true := by
  cases h with
  | same h => cases v <;> first | rfl | cases h1
  | agg h => cases h1
  | tuple h => cases h1
  | _ => rfl
def allOne (l : List Value) : Bool := List.rec (motive := fun _ => Bool) true (fun v _ ih => ite' (oneB v) ih false) l
theorem storeAll_cons (v : Value) (l : List Value) (H : Hp) (b off : Nat) : Hp.storeAll (v :: l) H b off = (match H.store b off v with
    | some H' => Hp.storeAll l H' b (off + 1)
    | none => none) := rfl
theorem storeAll_ok {P : Program} {E : Env} {b off : Nat} : ∀ {l l' : List Value} {H H' : Hp} {w : World} (i : Nat), Hp.storeAll l H b (off + i) = some H' → VL E H.next l l' → allOne l = true → HRel E H w →
    ∃ w', (storeCells ⟨E.s b, off, none⟩ l' i).run P w = .ok () w' ∧ HRel E H' w' ∧ Gd E E H H' w w' ∧ H'.next = H.next
  | [], l', H, H', w, i, h, hl, h1, hr => by
    cases h; cases hl
    exact ⟨w, by simp [storeCells], hr, Gd.refl _ _ _, rfl⟩
  | v :: l, l', H, H', w, i, h, hl, h1, hr => by
    rw [storeAll_cons] at h
    cases hs : H.store b (off + i) v with
    | none => rw [hs] at h; cases h
    | some H1 =>
      rw [hs] at h
      cases hl with
      | @cons _ v' _ l2 hv ht =>
        obtain ⟨h2, h3⟩ : oneB v = true ∧ allOne l = true := by
          change ite' (oneB v) (allOne l) false = true at h1
          cases hb : oneB v with
          | true => rw [hb] at h1; exact ⟨rfl, h1⟩
          | false => rw [hb] at h1; cases h1
        obtain ⟨⟨u, e1⟩, e2, r2, g2⟩ := hr.store hs hv
        have hn := Hp.store_next hs
        obtain ⟨w', e3, r3, g3, n3⟩ := storeAll_ok (P := P) (i + 1) (by rw [← Nat.add_assoc]; exact h) (by rw [hn]; exact ht) h3 r2
        refine ⟨w', ?_, r3, g2.trans g3, n3.trans hn⟩
        simp [storeCells, add_plain', run_store P w _ _ _ (hv.one h2), stored, e1, e2, e3]
def o_store (t : TypeId) (x y : Operand) : OpF := fun T A H => match ev A x with
  | some (.pointer (some p)) => (match ev A y with
    | some v => (match T.ty.get t with
      | some i => ite' (Nat.beq v.cells.toList.length i.size) (ite' (allOne v.cells.toList) (match Hp.storeAll v.cells.toList H p.block p.off with
        | some H' => some (undef, H')
        | none => none) none) none
      | none => none)
    | none => none)
  | _ => none
theorem VR.cells {E : Env} {N : Nat} {v v' : Value} (h : VR E N v v') : VL E N v.cells.toList v'.cells.toList := by
  cases h with
  | same h => cases v <;> first | exact .cons (.same h) .nil | cases h
  | agg h => exact h
  | ptr h => exact .cons (.ptr h) .nil
  | slice h hc => exact .cons (.slice h hc) .nil
  | open_ h hc hl hk => exact .cons (.open_ h hc hl hk) .nil
  | map h => exact .cons (.map h) .nil
  | tuple h => exact .cons (.tuple h) .nil
  | iface h => exact .cons (.iface h) .nil
  | tail => exact .cons .tail .nil
  | clo h k => exact .cons (.clo h k) .nil
theorem store_ok {P : Program} {T : Cx} (hT : Fits P T) {o : Oper} {t : TypeId} {x y : Operand} (h : o.op = .store t x y) : Sound ds P T o (o_store t x y) := fun A H v H' hf E a w ha hr => by
  unfold o_store at hf
  split at hf
  · rename_i p hb
    split at hf
    · rename_i u hu
      split at hf
      · rename_i i hi
        obtain ⟨h1, hf⟩ := ite'_some hf
        obtain ⟨h2, hf⟩ := ite'_some hf
        split at hf
        · rename_i H1 hs; cases hf
          obtain ⟨_, _, e⟩ := (ev_ok ha hb).pptr
          have hv := ev_ok ha hu
          have hc := hv.cells
          obtain ⟨w', e3, r3, g3, n3⟩ := storeAll_ok (P := P) 0 (by simpa using hs) hc h2 hr
          refine ⟨E, undef, w', .skip, ?_, .inr ⟨rfl, rfl⟩, g3, VR.undef, r3⟩
          have hsz : (a.eval y).cells.size = i.size := by
            have := hc.length
            have h4 := Nat.eq_of_beq_eq_true h1
            simp at this h4; omega
          simp [execOp, h, e, Instr.storeAt, Instr.sureAddr, storeVar, sizeOf, typeInfo, hT.ty t i hi, hsz, e3]
        · cases hf
      · cases hf
    · cases hf
  · cases hf
end
end Go.Proofs.YtanhkchpffkloaaGreatDoor
