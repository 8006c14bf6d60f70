import Derived.Test.YtgjnnedpdoaigaaGreatDoorEj
import Derived.MapKept
import Derived.Carry
namespace Go.Proofs.YtgjnnedpdoaigaaGreatDoor
open Go
set_option linter.unusedVariables false
set_option linter.unusedSimpArgs false
noncomputable section
variable {ds : List Deferred}
/-! ### maps -/
def keyEq (d : TypeDesc) (k k2 : Value) : Option Bool := match d with
  | .int _ => (match k with
    | .int a x => (match k2 with
      | .int b y => ite' (kindEq a b) (some (eqF x y)) none
      | _ => none)
    | _ => none)
  | .string => (match k with
    | .string a => (match k2 with
      | .string b => some (bytesEq a.data.toList b.data.toList)
      | _ => none)
    | _ => none)
  | _ => none
theorem keyEq_ok {d : TypeDesc} {k k2 : Value} {b : Bool} (h : keyEq d k k2 = some b) : Instr.sameNow d k k2 = some b ∧ (b = true → k = k2) := by
  unfold keyEq at h
  split at h
  · split at h
    · split at h
      · obtain ⟨h1, h2⟩ := ite'_some h
        cases h2
        rw [kindEq_eq h1]
        refine ⟨by simp [Instr.sameNow, eqF_eq], fun h3 => ?_⟩
        rw [eqF_eq] at h3
        rw [eq_of_beq h3]
      · cases h
    · cases h
  · split at h
    · split at h
      · rename_i x _ y
        cases h
        refine ⟨?_, fun h3 => ?_⟩
        · simp only [Instr.sameNow, bytesEq_eq, beq_toListBytes, ByteArray.toList_eq]
        · rw [bytesEq_eq] at h3
          have := eq_of_beq h3
          congr 1
          apply ByteArray.ext
          exact Array.toList_inj.1 this
      · cases h
    · cases h
  · cases h
def keyOk (d : TypeDesc) (k : Value) : Bool := match d with
  | .int j => (match k with
    | .int j' _ => kindEq j' j
    | _ => false)
  | .string => (match k with
    | .string _ => true
    | _ => false)
  | _ => false
theorem keyOk_ok {d : TypeDesc} {k : Value} (h : keyOk d k = true) : MapKept.IsKey d k ∧ plainV k = true ∧ ∀ {E : Env} {N : Nat} {k' : Value}, VR E N k k' → k' = k := by
  unfold keyOk at h
  split at h
  · split at h
    · have := kindEq_eq h
      subst this
      exact ⟨rfl, rfl, fun h => h.int⟩
    · cases h
  · split at h
    · exact ⟨trivial, rfl, fun h => h.string⟩
    · cases h
  · cases h
def findA (d : TypeDesc) (k : Value) (es : List MapEntry) : Nat → Option (Option (Nat × Value)) := List.rec (motive := fun _ => Nat → Option (Option (Nat × Value))) (fun _ => some none) (fun e _ ih i => match keyEq d k e.key with
  | some true => some (some (i, e.val))
  | some false => ih (Nat.succ i)
  | none => none) es
theorem findA_cons (d : TypeDesc) (k : Value) (e : MapEntry) (es : List MapEntry) (i : Nat) : findA d k (e :: es) i = (match keyEq d k e.key with
  | some true => some (some (i, e.val))
  | some false => findA d k es (Nat.succ i)
  | none => none) := rfl
theorem findA_ok {E : Env} {N : Nat} {d : TypeDesc} {k : Value} : ∀ {es es' : List MapEntry} (i : Nat) {r : Option (Nat × Value)}, findA d k es i = some r → ML E N es es' →
    (r = none ∧ Instr.findNow d k es' i = some none) ∨ ∃ j v v' e', r = some (i + j, v) ∧ Instr.findNow d k es' i = some (some (i + j, v')) ∧ VR E N v v' ∧ es'[j]? = some e' ∧ e'.key = k
  | [], _, i, r, h, m => by cases h; cases m; exact .inl ⟨rfl, rfl⟩
  | e :: es, _, i, r, h, m => by
    cases m with
    | @cons k2 v v' b _ l' hk hv ht =>
      rw [findA_cons] at h
      split at h
      · rename_i hq
        cases h
        obtain ⟨h1, h2⟩ := keyEq_ok hq
        refine .inr ⟨0, v, v', _, rfl, ?_, hv, rfl, (h2 rfl).symm⟩
        simp only [Instr.findNow, h1]; rfl
      · rename_i hq
        obtain ⟨h1, _⟩ := keyEq_ok hq
        rcases findA_ok (i + 1) h ht with ⟨e1, e2⟩ | ⟨j, u, u', e', e1, e2, e3, e4, e5⟩
        · exact .inl ⟨e1, by simp only [Instr.findNow, h1]; exact e2⟩
        · refine .inr ⟨j + 1, u, u', e', ?_, ?_, e3, by simpa using e4, e5⟩
          · rw [e1]; congr 2; omega
          · simp only [Instr.findNow, h1]; rw [e2]; congr 3; omega
      · cases h
def modA (k v : Value) (es : List MapEntry) : Nat → List MapEntry := List.rec (motive := fun _ => Nat → List MapEntry) (fun _ => []) (fun e l ih j => Nat.rec (motive := fun _ => List MapEntry) (⟨k, v, e.born⟩ :: l) (fun j' _ => e :: ih j') j) es
theorem modA_ok {E : Env} {N : Nat} {k v v' : Value} (hk : plainV k = true) (hv : VR E N v v') : ∀ {es es' : List MapEntry} (j : Nat), ML E N es es' → ML E N (modA k v es j) (es'.modify j fun e => { e with key := k, val := v' })
  | _, _, j, .nil => by
    show ML E N [] _
    cases j <;> exact .nil
  | _, _, 0, .cons hk2 h t => .cons hk hv t
  | _, _, j + 1, .cons hk2 h t => by
    rw [List.modify_succ_cons]
    exact .cons hk2 h (modA_ok hk hv j t)
theorem ML.push {E : Env} {N : Nat} {k v v' : Value} {b : Nat} (hk : plainV k = true) (hv : VR E N v v') : ∀ {es es' : List MapEntry}, ML E N es es' → ML E N (es ++ [⟨k, v, b⟩]) (es' ++ [⟨k, v', b⟩])
  | _, _, .nil => .cons hk hv .nil
  | _, _, .cons hk2 h t => .cons hk2 h (ML.push hk hv t)
/-- a type's zero. -/
def zOk (z : Value) : Bool := match z with
  | .agg cs => plainL cs.toList
  | z => plainV z
theorem zOk_ok {E : Env} {N : Nat} {z : Value} (h : zOk z = true) : VR E N z z := by
  unfold zOk at h
  split at h
  · rename_i cs
    have := VR.agg (plainL_ok (E := E) (N := N) h)
    simpa using this
  · exact .same h
def zeroV (T : Cx) (t : TypeId) : Option Value := match T.ty.get t with
  | some i => (match i.zero with
    | some z => ite' (zOk z) (some z) none
    | none => none)
  | none => none
theorem zeroV_ok {P : Program} {T : Cx} (hT : Fits P T) {E : Env} {N : Nat} {t : TypeId} {z : Value} (h : zeroV T t = some z) : VR E N z z ∧ ∀ w : World, (zeroValue t).run P w = .ok z w := by
  unfold zeroV at h
  split at h
  · rename_i i hi
    split at h
    · rename_i z2 hz
      obtain ⟨h1, h2⟩ := ite'_some h
      cases h2
      exact ⟨zOk_ok h1, fun w => by simp [zeroValue, typeInfo, hT.ty t i hi, hz]⟩
    · cases h
  · cases h
def lkV (ok : Bool) (v : Value) (b : Bool) : Value := ite' ok (.tuple #[v, .bool b]) v
theorem lkV_ok {E : Env} {N : Nat} {ok b : Bool} {v v' : Value} (h : VR E N v v') : VR E N (lkV ok v b) (lkV ok v' b) := by
  cases ok with
  | true => exact .tuple (l := [v, .bool b]) (l' := [v', .bool b]) (.cons h (.cons (.same rfl) .nil))
  | false => exact h
def lookV (T : Cx) (H : Hp) (et : TypeId) (d : TypeDesc) (ok : Bool) (kv : Value) (m : Option Value) : Option Value := match m with
  | some (.map none) => (match zeroV T et with
    | some z => some (lkV ok z false)
    | none => none)
  | some (.map (some b)) => (match H.b.get b with
    | some (.map es _) => (match findA d kv es 0 with
      | some (some r) => some (lkV ok r.2 true)
      | some none => (match zeroV T et with
        | some z => some (lkV ok z false)
        | none => none)
      | none => none)
    | _ => none)
  | _ => none
def o_lookup (t : TypeId) (m k : Operand) (ok : Bool) : OpF := fun T A H => match T.und t with
  | some (.map kt et) => (match T.und kt with
    | some d => (match ev A k with
      | some kv => ite' (keyOk d kv) (withH (lookV T H et d ok kv (ev A m)) H) none
      | none => none)
    | none => none)
  | _ => none
theorem VR.mp {E : Env} {N : Nat} {b : Nat} {v : Value} (h : VR E N (.map (some b)) v) : b < N ∧ v = .map (some (E.s b)) := by
  cases h with
  | same h => cases h
  | map h => exact ⟨h, rfl⟩
theorem lookup_ok {P : Program} {T : Cx} (hT : Fits P T) {o : Oper} {t : TypeId} {m k : Operand} {ok : Bool} (h : o.op = .lookup t m k ok) : Sound ds P T o (o_lookup t m k ok) := fun A H v H' hf E a w ha hr => by
  unfold o_lookup at hf
  split at hf
  · rename_i kt et hm
    split at hf
    · rename_i d hd
      split at hf
      · rename_i kv hk
        obtain ⟨hko, hf1⟩ := ite'_some hf
        obtain ⟨hf2, e0⟩ := withH_some hf1
        subst e0
        obtain ⟨q1, q2, q3⟩ := keyOk_ok hko
        have ek : a.eval k = kv := q3 (ev_ok ha hk)
        have hM := hT.und hm
        have hD := hT.und hd
        have hc : ∀ e, (Instr.checkKey e (9999 + 1) kt kv).run P w = .ok () w := fun e => MapKept.run_checkKey hD q1 e 9999
        unfold lookV at hf2
        split at hf2
        · rename_i hmv
          split at hf2
          · rename_i z hz
            cases hf2
            obtain ⟨z1, z2⟩ := zeroV_ok (P := P) (E := E) (N := H'.next) hT hz
            refine sound_pure (v' := lkV ok z false) hr ?_ (lkV_ok z1)
            have hfk : (Instr.findKey kt kv []).run P w = .ok none w := MapKept.run_findKey hD rfl
            have hcc := hc true
            cases ok <;> simp [execOp, h, Instr.lookup, run_underlying hM, (ev_ok ha hmv).mnil, ek, hcc, hfk, z2 w, lkV]
          · cases hf2
        · rename_i b hmv
          split at hf2
          · rename_i es clock hb
            obtain ⟨hlt, em⟩ := (ev_ok ha hmv).mp
            obtain ⟨es', b1, b2⟩ := hr.rel _ _ hb
            have hg := MapKept.run_getObj_map (P := P) b1
            split at hf2
            · rename_i r hfa
              cases hf2
              rcases findA_ok 0 hfa b2 with ⟨e1, _⟩ | ⟨j, u, u', e', e1, e2, e3, e4, e5⟩
              · cases e1
              · cases e1
                refine sound_pure (v' := lkV ok u' true) hr ?_ (lkV_ok e3)
                have hfk := MapKept.run_findKey (P := P) (w := w) hD e2
                have hcc := hc es'.isEmpty
                cases ok <;> simp [execOp, h, Instr.lookup, run_underlying hM, em, ek, hg, hcc, hfk, lkV]
            · rename_i hfa
              split at hf2
              · rename_i z hz
                cases hf2
                obtain ⟨z1, z2⟩ := zeroV_ok (P := P) (E := E) (N := H'.next) hT hz
                rcases findA_ok 0 hfa b2 with ⟨_, e2⟩ | ⟨j, u, u', e', e1, _⟩
                · refine sound_pure (v' := lkV ok z false) hr ?_ (lkV_ok z1)
                  have hfk := MapKept.run_findKey (P := P) (w := w) hD e2
                  have hcc := hc es'.isEmpty
                  cases ok <;> simp [execOp, h, Instr.lookup, run_underlying hM, em, ek, hg, hcc, hfk, z2 w, lkV]
                · cases e1
              · cases hf2
            · cases hf2
          · cases hf2
        · cases hf2
      · cases hf
    · cases hf
  · cases hf
/-! #### a new map, a new entry -/
def o_makeMap : OpF := fun _ _ H => some (.map (some H.next), H.new (.map [] 0))
theorem makeMap_ok {P : Program} {T : Cx} {o : Oper} {t : TypeId} (h : o.op = .makeMap t none) : Sound ds P T o o_makeMap := fun A H v H' hf E a w ha hr => by
  cases hf
  obtain ⟨h1, h2⟩ := hr.new (x := .map [] 0) (o := .map #[] 0) (k := 0) ⟨#[], rfl, .nil⟩
  refine ⟨_, .map (some w.heap.size), _, _, ?_, .inl rfl, h2, ?_, h1⟩
  · simp [execOp, h, Go.RowKit.run_makeMap]
  · have z := VR.map (E := E.add H.next w.heap.size 0) (N := H.next + 1) (Nat.lt_succ_self H.next)
    rw [show (E.add H.next w.heap.size 0).s H.next = w.heap.size by simp [Env.add]] at z
    exact z
def updH (H : Hp) (d : TypeDesc) (kv v : Value) (b : Nat) : Option Hp := match H.b.get b with
  | some (.map es clock) => (match findA d kv es 0 with
    | some (some r) => some ⟨H.b.put b (some (.map (modA kv v es r.1) clock)), H.next⟩
    | some none => some ⟨H.b.put b (some (.map (List.append es [⟨kv, v, clock⟩]) (Nat.succ clock))), H.next⟩
    | none => none)
  | _ => none
def o_mapUpdate (t : TypeId) (m k x : Operand) : OpF := fun T A H => match T.und t with
  | some (.map kt et) => (match T.und kt with
    | some d => (match ev A k with
      | some kv => (match ev A x with
        | some v => (match ev A m with
          | some (.map (some b)) => ite' (keyOk d kv) (match updH H d kv v b with
            | some H' => some (undef, H')
            | none => none) none
          | _ => none)
        | none => none)
      | none => none)
    | none => none)
  | _ => none
theorem mapUpdate_ok {P : Program} {T : Cx} (hT : Fits P T) {o : Oper} {t : TypeId} {m k x : Operand} (h : o.op = .mapUpdate t m k x ∨ o.op = .insert t m k x) : Sound ds P T o (o_mapUpdate t m k x) := fun A H v H' hf E a w ha hr => by
  unfold o_mapUpdate at hf
  split at hf
  · rename_i kt et hm
    split at hf
    · rename_i d hd
      split at hf
      · rename_i kv hk
        split at hf
        · rename_i u hx
          split at hf
          · rename_i b hmv
            obtain ⟨hko, hf1⟩ := ite'_some hf
            clear hf
            split at hf1
            · rename_i H1 hu
              cases hf1
              obtain ⟨q1, q2, q3⟩ := keyOk_ok hko
              have ek : a.eval k = kv := q3 (ev_ok ha hk)
              have hM := hT.und hm
              have hD := hT.und hd
              have hc : (Instr.checkKey false (9999 + 1) kt kv).run P w = .ok () w := MapKept.run_checkKey hD q1 false 9999
              have hv := ev_ok ha hx
              obtain ⟨hlt, em⟩ := (ev_ok ha hmv).mp
              unfold updH at hu
              split at hu
              · rename_i es clock hb
                obtain ⟨es', b1, b2⟩ := hr.rel _ _ hb
                have hg := MapKept.run_getObj_map (P := P) b1
                have hset : ∀ o2, ({ w with heap := w.heap.setIfInBounds (E.s b) o2 } : World).heap[E.s b]? = some o2 ∧ ∀ r', r' ≠ E.s b → ({ w with heap := w.heap.setIfInBounds (E.s b) o2 } : World).heap[r']? = w.heap[r']? := fun o2 => MapKept.heap_set b1
                split at hu
                · rename_i r hfa
                  cases hu
                  rcases findA_ok 0 hfa b2 with ⟨e1, _⟩ | ⟨j, u1, u', e', e1, e2, e3, e4, e5⟩
                  · cases e1
                  · cases e1
                    have e4' : es'[0 + j]? = some e' := by rw [Nat.zero_add]; simpa using e4
                    obtain ⟨J, hJ⟩ : ∃ J, J = 0 + j := ⟨_, rfl⟩
                    rw [← hJ] at e2 e4' ⊢
                    have hfk := MapKept.run_findKey (P := P) (w := w) hD e2
                    have hks := MapKept.run_keyThatStays (P := P) (w := w) q1
                    have hso := MapKept.run_setObj_map (P := P) (.map (es'.modify J fun e => { e with key := kv, val := a.eval x }) clock) b1
                    obtain ⟨s1, s2⟩ := hset (.map (es'.modify J fun e => { e with key := kv, val := a.eval x }) clock)
                    obtain ⟨g1, g2⟩ := hr.upd (w' := { w with heap := w.heap.setIfInBounds (E.s b) (.map (es'.modify J fun e => { e with key := kv, val := a.eval x }) clock) }) (x1 := .map (modA kv u es J) clock) hb
                      ⟨_, s1, by rw [Array.toList_modify]; exact modA_ok q2 hv J b2⟩ s2 rfl rfl rfl (by simp) rfl
                    refine ⟨E, undef, _, _, ?_, .inr ⟨rfl, rfl⟩, g2, VR.undef, g1⟩
                    rcases h with h | h <;> simp [execOp, h, Instr.mapUpdate, run_underlying hM, em, ek, hg, hc, hfk, e4', e5, hks, hso]
                · rename_i hfa
                  cases hu
                  rcases findA_ok 0 hfa b2 with ⟨_, e2⟩ | ⟨j, u1, u', e', e1, _⟩
                  · have hfk := MapKept.run_findKey (P := P) (w := w) hD e2
                    have hso := MapKept.run_setObj_map (P := P) (.map (es'.push { key := kv, val := a.eval x, born := clock }) (clock + 1)) b1
                    obtain ⟨s1, s2⟩ := hset (.map (es'.push { key := kv, val := a.eval x, born := clock }) (clock + 1))
                    obtain ⟨g1, g2⟩ := hr.upd (w' := { w with heap := w.heap.setIfInBounds (E.s b) (.map (es'.push { key := kv, val := a.eval x, born := clock }) (clock + 1)) }) (x1 := .map (List.append es [⟨kv, u, clock⟩]) (Nat.succ clock)) hb
                      ⟨_, s1, by rw [Array.toList_push]; exact ML.push q2 hv b2⟩ s2 rfl rfl rfl (by simp) rfl
                    refine ⟨E, undef, _, _, ?_, .inr ⟨rfl, rfl⟩, g2, VR.undef, g1⟩
                    rcases h with h | h <;> simp [execOp, h, Instr.mapUpdate, run_underlying hM, em, ek, hg, hc, hfk, hso]
                  · cases e1
                · cases hu
              · cases hu
            · cases hf1
          · cases hf
        · cases hf
      · cases hf
    · cases hf
  · cases hf
end
end Go.Proofs.YtgjnnedpdoaigaaGreatDoor
