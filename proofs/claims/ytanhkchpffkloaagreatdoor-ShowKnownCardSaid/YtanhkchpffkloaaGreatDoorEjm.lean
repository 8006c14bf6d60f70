import Derived.Test.YtanhkchpffkloaaGreatDoorEj
import Derived.WideKeyRuns
import Derived.MapKept
import Derived.Carry
namespace Go.Proofs.YtanhkchpffkloaaGreatDoor
open Go
set_option linter.unusedVariables false
set_option linter.unusedSimpArgs false
noncomputable section
variable {ds : List Deferred}
/-! ### maps -/
def keyEq (d : TypeDesc) (k k2 : Value) : Option Bool := match d with
  | .int _ => (match k with
    | .int a x => (match k2 with
      | .int b y => ite' (kindEq a b) (some (eqF x y)) none
      | _ => none)
    | _ => none)
  | .string => (match k with
    | .string a => (match k2 with
      | .string b => some (bytesEq a.data.toList b.data.toList)
      | _ => none)
    | _ => none)
  | _ => none
theorem keyEq_ok {d : TypeDesc} {k k2 : Value} {b : Bool} (h : keyEq d k k2 = some b) : Instr.sameNow d k k2 = some b ∧ (b = true → k = k2) := by
  unfold keyEq at h
  split at h
  · split at h
    · split at h
      · obtain ⟨h1, h2⟩ := ite'_some h
        cases h2
        rw [kindEq_eq h1]
        refine ⟨by simp [Instr.sameNow, eqF_eq], fun h3 => ?_⟩
        rw [eqF_eq] at h3
        rw [eq_of_beq h3]
      · cases h
    · cases h
  · split at h
    · split at h
      · rename_i x _ y
        cases h
        refine ⟨?_, fun h3 => ?_⟩
        · simp only [Instr.sameNow, bytesEq_eq, beq_toListBytes, ByteArray.toList_eq]
        · rw [bytesEq_eq] at h3
          have := eq_of_beq h3
          congr 1
          apply ByteArray.ext
          exact Array.toList_inj.1 this
      · cases h
    · cases h
  · cases h
def keyOk (d : TypeDesc) (k : Value) : Bool := match d with
  | .int j => (match k with
    | .int j' _ => kindEq j' j
    | _ => false)
  | .string => (match k with
    | .string _ => true
    | _ => false)
  | _ => false
theorem keyOk_ok {d : TypeDesc} {k : Value} (h : keyOk d k = true) : MapKept.IsKey d k ∧ plainV k = true ∧ ∀ {E : Env} {N : Nat} {k' : Value}, VR E N k k' → k' = k := by
  unfold keyOk at h
  split at h
  · split at h
    · have := kindEq_eq h
      subst this
      exact ⟨rfl, rfl, fun h => h.int⟩
    · cases h
  · split at h
    · exact ⟨trivial, rfl, fun h => h.string⟩
    · cases h
  · cases h
def findA (d : TypeDesc) (k : Value) (es : List MapEntry) : Nat → Option (Option (Nat × Value)) := List.rec (motive := fun _ => Nat → Option (Option (Nat × Value))) (fun _ => some none) (fun e _ ih i => match keyEq d k e.key with
  | some true => some (some (i, e.val))
  | some false => ih (Nat.succ i)
  | none => none) es
theorem findA_cons (d : TypeDesc) (k : Value) (e : MapEntry) (es : List MapEntry) (i : Nat) : findA d k (e :: es) i = (match keyEq d k e.key with
  | some true => some (some (i, e.val))
  | some false => findA d k es (Nat.succ i)
  | none => none) := rfl
theorem findA_ok {E : Env} {N : Nat} {d : TypeDesc} {k : Value} : ∀ {es es' : List MapEntry} (i : Nat) {r : Option (Nat × Value)}, findA d k es i = some r → ML E N es es' →
    (r = none ∧ Instr.findNow d k es' i = some none) ∨ ∃ j v v' e', r = some (i + j, v) ∧ Instr.findNow d k es' i = some (some (i + j, v')) ∧ VR E N v v' ∧ es'[j]? = some e' ∧ e'.key = k
  | [], _, i, r, h, m => by cases h; cases m; exact .inl ⟨rfl, rfl⟩
  | e :: es, _, i, r, h, m => by
    cases m with
    | @cons k2 v v' b _ l' hk hv ht =>
      rw [findA_cons] at h
      split at h
      · rename_i hq
        cases h
        obtain ⟨h1, h2⟩ := keyEq_ok hq
        refine .inr ⟨0, v, v', _, rfl, ?_, hv, rfl, (h2 rfl).symm⟩
        simp only [Instr.findNow, h1]; rfl
      · rename_i hq
        obtain ⟨h1, _⟩ := keyEq_ok hq
        rcases findA_ok (i + 1) h ht with ⟨e1, e2⟩ | ⟨j, u, u', e', e1, e2, e3, e4, e5⟩
        · exact .inl ⟨e1, by simp only [Instr.findNow, h1]; exact e2⟩
        · refine .inr ⟨j + 1, u, u', e', ?_, ?_, e3, by simpa using e4, e5⟩
          · rw [e1]; congr 2; omega
          · simp only [Instr.findNow, h1]; rw [e2]; congr 3; omega
      · cases h
def modA (k v : Value) (es : List MapEntry) : Nat → List MapEntry := List.rec (motive := fun _ => Nat → List MapEntry) (fun _ => []) (fun e l ih j => Nat.rec (motive := fun _ => List MapEntry) (⟨k, v, e.born⟩ :: l) (fun j' _ => e :: ih j') j) es
theorem modA_ok {E : Env} {N : Nat} {k v v' : Value} (hk : constOk k = true) (hv : VR E N v v') : ∀ {es es' : List MapEntry} (j : Nat), ML E N es es' → ML E N (modA k v es j) (es'.modify j fun e => { e with key := k, val := v' })
  | _, _, j, .nil => by
    show ML E N [] _
    cases j <;> exact .nil
  | _, _, 0, .cons hk2 h t => .cons hk hv t
  | _, _, j + 1, .cons hk2 h t => by
    rw [List.modify_succ_cons]
    exact .cons hk2 h (modA_ok hk hv j t)
theorem ML.push {E : Env} {N : Nat} {k v v' : Value} {b : Nat} (hk : constOk k = true) (hv : VR E N v v') : ∀ {es es' : List MapEntry}, ML E N es es' → ML E N (es ++ [⟨k, v, b⟩]) (es' ++ [⟨k, v', b⟩])
  | _, _, .nil => .cons hk hv .nil
  | _, _, .cons hk2 h t => .cons hk2 h (ML.push hk hv t)
/-- a type's zero. -/
def zOk (z : Value) : Bool := match z with
  | .agg cs => plainL cs.toList
  | z => plainV z
theorem zOk_ok {E : Env} {N : Nat} {z : Value} (h : zOk z = true) : VR E N z z := by
  unfold zOk at h
  split at h
  · rename_i cs
    have := VR.agg (plainL_ok (E := E) (N := N) h)
    simpa using this
  · exact .same h
def zeroV (T : Cx) (t : TypeId) : Option Value := match T.ty.get t with
  | some i => (match i.zero with
    | some z => ite' (zOk z) (some z) none
    | none => none)
  | none => none
theorem zeroV_ok {P : Program} {T : Cx} (hT : Fits P T) {E : Env} {N : Nat} {t : TypeId} {z : Value} (h : zeroV T t = some z) : VR E N z z ∧ ∀ w : World, (zeroValue t).run P w = .ok z w := by
  unfold zeroV at h
  split at h
  · rename_i i hi
    split at h
    · rename_i z2 hz
      obtain ⟨h1, h2⟩ := ite'_some h
      cases h2
      exact ⟨zOk_ok h1, fun w => by simp [zeroValue, typeInfo, hT.ty t i hi, hz]⟩
    · cases h
  · cases h
def lkV (ok : Bool) (v : Value) (b : Bool) : Value := ite' ok (.tuple #[v, .bool b]) v
theorem lkV_ok {E : Env} {N : Nat} {ok b : Bool} {v v' : Value} (h : VR E N v v') : VR E N (lkV ok v b) (lkV ok v' b) := by
  cases ok with
  | true => exact .tuple (l := [v, .bool b]) (l' := [v', .bool b]) (.cons h (.cons (.same rfl) .nil))
  | false => exact h
def lookV (T : Cx) (H : Hp) (et : TypeId) (d : TypeDesc) (ok : Bool) (kv : Value) (m : Option Value) : Option Value := match m with
  | some (.map none) => (match zeroV T et with
    | some z => some (lkV ok z false)
    | none => none)
  | some (.map (some b)) => (match H.b.get b with
    | some (.map es _) => (match findA d kv es 0 with
      | some (some r) => some (lkV ok r.2 true)
      | some none => (match zeroV T et with
        | some z => some (lkV ok z false)
        | none => none)
      | none => none)
    | _ => none)
  | _ => none
def o_lookup (t : TypeId) (m k : Operand) (ok : Bool) : OpF := fun T A H => match T.und t with
  | some (.map kt et) => (match T.und kt with
    | some d => (match ev A k with
      | some kv => ite' (keyOk d kv) (withH (lookV T H et d ok kv (ev A m)) H) none
      | none => none)
    | none => none)
  | _ => none
theorem VR.mp {E : Env} {N : Nat} {b : Nat} {v : Value} (h : VR E N (.map (some b)) v) : b < N ∧ v = .map (some (E.s b)) := by
  cases h with
  | same h => cases h
  | map h => exact ⟨h, rfl⟩
theorem lookup_ok {P : Program} {T : Cx} (hT : Fits P T) {o : Oper} {t : TypeId} {m k : Operand} {ok : Bool} (h : o.op = .lookup t m k ok) : Sound ds P T o (o_lookup t m k ok) := fun A H v H' hf E a w ha hr => by
  unfold o_lookup at hf
  split at hf
  · rename_i kt et hm
    split at hf
    · rename_i d hd
      split at hf
      · rename_i kv hk
        obtain ⟨hko, hf1⟩ := ite'_some hf
        obtain ⟨hf2, e0⟩ := withH_some hf1
        subst e0
        obtain ⟨q1, q2, q3⟩ := keyOk_ok hko
        have ek : a.eval k = kv := q3 (ev_ok ha hk)
        have hM := hT.und hm
        have hD := hT.und hd
        have hc : ∀ e, (Instr.checkKey e (9999 + 1) kt kv).run P w = .ok () w := fun e => MapKept.run_checkKey hD q1 e 9999
        unfold lookV at hf2
        split at hf2
        · rename_i hmv
          split at hf2
          · rename_i z hz
            cases hf2
            obtain ⟨z1, z2⟩ := zeroV_ok (P := P) (E := E) (N := H'.next) hT hz
            refine sound_pure (v' := lkV ok z false) hr ?_ (lkV_ok z1)
            have hfk : (Instr.findKey kt kv []).run P w = .ok none w := MapKept.run_findKey hD rfl
            have hcc := hc true
            cases ok <;> simp [execOp, h, Instr.lookup, run_underlying hM, (ev_ok ha hmv).mnil, ek, hcc, hfk, z2 w, lkV]
          · cases hf2
        · rename_i b hmv
          split at hf2
          · rename_i es clock hb
            obtain ⟨hlt, em⟩ := (ev_ok ha hmv).mp
            obtain ⟨es', b1, b2⟩ := hr.rel _ _ hb
            have hg := MapKept.run_getObj_map (P := P) b1
            split at hf2
            · rename_i r hfa
              cases hf2
              rcases findA_ok 0 hfa b2 with ⟨e1, _⟩ | ⟨j, u, u', e', e1, e2, e3, e4, e5⟩
              · cases e1
              · cases e1
                refine sound_pure (v' := lkV ok u' true) hr ?_ (lkV_ok e3)
                have hfk := MapKept.run_findKey (P := P) (w := w) hD e2
                have hcc := hc es'.isEmpty
                cases ok <;> simp [execOp, h, Instr.lookup, run_underlying hM, em, ek, hg, hcc, hfk, lkV]
            · rename_i hfa
              split at hf2
              · rename_i z hz
                cases hf2
                obtain ⟨z1, z2⟩ := zeroV_ok (P := P) (E := E) (N := H'.next) hT hz
                rcases findA_ok 0 hfa b2 with ⟨_, e2⟩ | ⟨j, u, u', e', e1, _⟩
                · refine sound_pure (v' := lkV ok z false) hr ?_ (lkV_ok z1)
                  have hfk := MapKept.run_findKey (P := P) (w := w) hD e2
                  have hcc := hc es'.isEmpty
                  cases ok <;> simp [execOp, h, Instr.lookup, run_underlying hM, em, ek, hg, hcc, hfk, z2 w, lkV]
                · cases e1
              · cases hf2
            · cases hf2
          · cases hf2
        · cases hf2
      · cases hf
    · cases hf
  · cases hf
/-! #### a new map, a new entry -/
def o_makeMap : OpF := fun _ _ H => some (.map (some H.next), H.new (.map [] 0))
theorem makeMap_ok {P : Program} {T : Cx} {o : Oper} {t : TypeId} (h : o.op = .makeMap t none) : Sound ds P T o o_makeMap := fun A H v H' hf E a w ha hr => by
  cases hf
  obtain ⟨h1, h2⟩ := hr.new (x := .map [] 0) (o := .map #[] 0) (k := 0) ⟨#[], rfl, .nil⟩
  refine ⟨_, .map (some w.heap.size), _, _, ?_, .inl rfl, h2, ?_, h1⟩
  · simp [execOp, h, Go.RowKit.run_makeMap]
  · have z := VR.map (E := E.add H.next w.heap.size 0) (N := H.next + 1) (Nat.lt_succ_self H.next)
    rw [show (E.add H.next w.heap.size 0).s H.next = w.heap.size by simp [Env.add]] at z
    exact z
def updH (H : Hp) (d : TypeDesc) (kv v : Value) (b : Nat) : Option Hp := match H.b.get b with
  | some (.map es clock) => (match findA d kv es 0 with
    | some (some r) => some ⟨H.b.put b (some (.map (modA kv v es r.1) clock)), H.next⟩
    | some none => some ⟨H.b.put b (some (.map (List.append es [⟨kv, v, clock⟩]) (Nat.succ clock))), H.next⟩
    | none => none)
  | _ => none
def o_mapUpdate (t : TypeId) (m k x : Operand) : OpF := fun T A H => match T.und t with
  | some (.map kt et) => (match T.und kt with
    | some d => (match ev A k with
      | some kv => (match ev A x with
        | some v => (match ev A m with
          | some (.map (some b)) => ite' (keyOk d kv) (match updH H d kv v b with
            | some H' => some (undef, H')
            | none => none) none
          | _ => none)
        | none => none)
      | none => none)
    | none => none)
  | _ => none
theorem mapUpdate_ok {P : Program} {T : Cx} (hT : Fits P T) {o : Oper} {t : TypeId} {m k x : Operand} (h : o.op = .mapUpdate t m k x ∨ o.op = .insert t m k x) : Sound ds P T o (o_mapUpdate t m k x) := fun A H v H' hf E a w ha hr => by
  unfold o_mapUpdate at hf
  split at hf
  · rename_i kt et hm
    split at hf
    · rename_i d hd
      split at hf
      · rename_i kv hk
        split at hf
        · rename_i u hx
          split at hf
          · rename_i b hmv
            obtain ⟨hko, hf1⟩ := ite'_some hf
            clear hf
            split at hf1
            · rename_i H1 hu
              cases hf1
              obtain ⟨q1, q2, q3⟩ := keyOk_ok hko
              have ek : a.eval k = kv := q3 (ev_ok ha hk)
              have hM := hT.und hm
              have hD := hT.und hd
              have hc : (Instr.checkKey false (9999 + 1) kt kv).run P w = .ok () w := MapKept.run_checkKey hD q1 false 9999
              have hv := ev_ok ha hx
              obtain ⟨hlt, em⟩ := (ev_ok ha hmv).mp
              unfold updH at hu
              split at hu
              · rename_i es clock hb
                obtain ⟨es', b1, b2⟩ := hr.rel _ _ hb
                have hg := MapKept.run_getObj_map (P := P) b1
                have hset : ∀ o2, ({ w with heap := w.heap.setIfInBounds (E.s b) o2 } : World).heap[E.s b]? = some o2 ∧ ∀ r', r' ≠ E.s b → ({ w with heap := w.heap.setIfInBounds (E.s b) o2 } : World).heap[r']? = w.heap[r']? := fun o2 => MapKept.heap_set b1
                split at hu
                · rename_i r hfa
                  cases hu
                  rcases findA_ok 0 hfa b2 with ⟨e1, _⟩ | ⟨j, u1, u', e', e1, e2, e3, e4, e5⟩
                  · cases e1
                  · cases e1
                    have e4' : es'[0 + j]? = some e' := by rw [Nat.zero_add]; simpa using e4
                    obtain ⟨J, hJ⟩ : ∃ J, J = 0 + j := ⟨_, rfl⟩
                    rw [← hJ] at e2 e4' ⊢
                    have hfk := MapKept.run_findKey (P := P) (w := w) hD e2
                    have hks := MapKept.run_keyThatStays (P := P) (w := w) q1
                    have hso := MapKept.run_setObj_map (P := P) (.map (es'.modify J fun e => { e with key := kv, val := a.eval x }) clock) b1
                    obtain ⟨s1, s2⟩ := hset (.map (es'.modify J fun e => { e with key := kv, val := a.eval x }) clock)
                    obtain ⟨g1, g2⟩ := hr.upd (w' := { w with heap := w.heap.setIfInBounds (E.s b) (.map (es'.modify J fun e => { e with key := kv, val := a.eval x }) clock) }) (x1 := .map (modA kv u es J) clock) hb
                      ⟨_, s1, by rw [Array.toList_modify]; exact modA_ok (constOk_plain q2) hv J b2⟩ s2 rfl rfl rfl (by simp) rfl
                    refine ⟨E, undef, _, _, ?_, .inr ⟨rfl, rfl⟩, g2, VR.undef, g1⟩
                    rcases h with h | h <;> simp [execOp, h, Instr.mapUpdate, run_underlying hM, em, ek, hg, hc, hfk, e4', e5, hks, hso]
                · rename_i hfa
                  cases hu
                  rcases findA_ok 0 hfa b2 with ⟨_, e2⟩ | ⟨j, u1, u', e', e1, _⟩
                  · have hfk := MapKept.run_findKey (P := P) (w := w) hD e2
                    have hso := MapKept.run_setObj_map (P := P) (.map (es'.push { key := kv, val := a.eval x, born := clock }) (clock + 1)) b1
                    obtain ⟨s1, s2⟩ := hset (.map (es'.push { key := kv, val := a.eval x, born := clock }) (clock + 1))
                    obtain ⟨g1, g2⟩ := hr.upd (w' := { w with heap := w.heap.setIfInBounds (E.s b) (.map (es'.push { key := kv, val := a.eval x, born := clock }) (clock + 1)) }) (x1 := .map (List.append es [⟨kv, u, clock⟩]) (Nat.succ clock)) hb
                      ⟨_, s1, by rw [Array.toList_push]; exact ML.push (constOk_plain q2) hv b2⟩ s2 rfl rfl rfl (by simp) rfl
                    refine ⟨E, undef, _, _, ?_, .inr ⟨rfl, rfl⟩, g2, VR.undef, g1⟩
                    rcases h with h | h <;> simp [execOp, h, Instr.mapUpdate, run_underlying hM, em, ek, hg, hc, hfk, hso]
                  · cases e1
                · cases hu
              · cases hu
            · cases hf1
          · cases hf
        · cases hf
      · cases hf
    · cases hf
  · cases hf
/-! #### keys that are structs of plain parts -/
theorem iteB {b x : Bool} (h : ite' b x false = true) : b = true ∧ x = true := by cases b with | false => cases h | true => exact ⟨rfl, h⟩
def flatD (d : TypeDesc) : Bool := match d with
  | .int _ | .string | .bool => true
  | _ => false
def chkF1 (T : Cx) (l : List Value) (f : Field) : Bool := match T.und f.type with
  | some d => ite' (flatD d) (match partA T f.type l f.offset with
    | some v => plainV v
    | none => false) false
  | none => false
def chkFs (T : Cx) (l : List Value) (fs : List Field) : Bool := List.rec (motive := fun _ => Bool) true (fun f _ ih => ite' (chkF1 T l f) ih false) fs
def keyS (T : Cx) (kt : TypeId) (k : Value) : Bool := match T.und kt with
  | some (.struct fs) => (match k with
    | .agg cs => ite' (plainL cs.toList) (chkFs T cs.toList fs.toList) false
    | _ => false)
  | _ => false
theorem checkKey_flat {P : Program} {t : TypeId} {d : TypeDesc} {v : Value} (hd : P.underlying t = some d) (hf : flatD d = true) (e : Bool) (n : Nat) (w : World) : (Instr.checkKey e (n + 1) t v).run P w = .ok () w := by
  unfold Instr.checkKey
  simp only [Sem.run_bind, run_underlying hd, Result.andThen]
  cases d <;> first | (cases hf; done) | (cases v <;> simp)
theorem keyS_ok {P : Program} {T : Cx} (hT : Fits P T) {kt : TypeId} {k : Value} (h : keyS T kt k = true) : ∃ fs cs, T.und kt = some (.struct fs) ∧ k = .agg cs ∧ plainL cs.toList = true ∧ ∀ (e : Bool) (n : Nat) (w : World), (Instr.checkKey e (n + 1 + 1) kt k).run P w = .ok () w := by
  unfold keyS at h
  split at h
  · rename_i fs hu
    split at h
    · rename_i cs
      obtain ⟨h1, h2⟩ := iteB h
      refine ⟨fs, cs, hu, rfl, h1, fun e n w => ?_⟩
      unfold Instr.checkKey
      simp only [Sem.run_bind, run_underlying (hT.und hu), Result.andThen]
      rw [← Array.forIn_toList]
      have key : ∀ (l : List Field), chkFs T cs.toList l = true → Sem.run P (forIn l PUnit.unit fun f __s => (do
          if f.name ≠ "_" then do
            let __do_lift ← part f.type cs f.offset
            Instr.checkKey e (n + 1) f.type __do_lift
            pure (ForInStep.yield PUnit.unit)
          else pure (ForInStep.yield PUnit.unit) : Sem (ForInStep PUnit))) w = .ok PUnit.unit w := fun l => by
        induction l with
        | nil => intro _; simp
        | cons f l ih =>
          intro hl
          obtain ⟨h3, h4⟩ := iteB (show ite' (chkF1 T cs.toList f) (chkFs T cs.toList l) false = true from hl)
          unfold chkF1 at h3
          split at h3
          · rename_i d hd
            obtain ⟨h5, h6⟩ := iteB h3
            split at h6
            · rename_i v hv
              obtain ⟨v', rv, er⟩ := partA_ok (P := P) hT hv (plainL_ok (E := ⟨fun _ => 0, fun _ => 0⟩) (N := 0) h1)
              have e1 : (cs.toList).toArray = cs := by simp
              rw [e1] at er
              have hc := checkKey_flat (v := v') (hT.und hd) h5 e n w
              rw [List.forIn_cons]
              by_cases hn : f.name ≠ "_"
              · simp only [if_pos hn, Sem.run_bind, er w, Result.andThen, hc, Sem.run_pure]
                exact ih h4
              · simp only [if_neg hn, Sem.run_bind, Result.andThen, Sem.run_pure]
                exact ih h4
            · cases h6
          · cases h3
      rw [key fs.toList h2]
      simp
    · cases h
  · cases h
def findS1 (T : Cx) (kt : TypeId) (k : Value) (e : MapEntry) (i : Nat) (ih : Nat → Option (Option (Nat × MapEntry))) (r : Option Bool) : Option (Option (Nat × MapEntry)) := match r with
  | some true => some (some (i, e))
  | some false => ih (Nat.succ i)
  | none => none
def findS (T : Cx) (kt : TypeId) (k : Value) (es : List MapEntry) : Nat → Option (Option (Nat × MapEntry)) := List.rec (motive := fun _ => Nat → Option (Option (Nat × MapEntry))) (fun _ => some none) (fun e _ ih i => findS1 T kt k e i ih (eqN T 6 kt k e.key)) es
theorem findS_ok {P : Program} {T : Cx} (hT : Fits P T) {E : Env} {N : Nat} {kt : TypeId} {k : Value} (hk : constOk k = true) (w : World) : ∀ {es es' : List MapEntry} (i : Nat) {r : Option (Nat × MapEntry)}, findS T kt k es i = some r → ML E N es es' →
    (r = none ∧ (Instr.findAsking kt k es' i).run P w = .ok none w) ∨ ∃ j e v' e', r = some (i + j, e) ∧ (Instr.findAsking kt k es' i).run P w = .ok (some (i + j, v')) w ∧ VR E N e.val v' ∧ es'[j]? = some e' ∧ e'.key = e.key
  | [], _, i, r, h, m => by cases h; cases m; exact .inl ⟨rfl, by simp [Instr.findAsking]⟩
  | e :: es, _, i, r, h, m => by
    cases m with
    | @cons k2 v v' b _ l' hk2 hv ht =>
      change findS1 T kt k ⟨k2, v, b⟩ i (findS T kt k es) (eqN T 6 kt k k2) = some r at h
      unfold findS1 at h
      split at h
      · rename_i hq
        cases h
        have he := eqN_ok (P := P) (w := w) hT 6 hq (constOk_ok (E := E) (N := N) hk) (constOk_ok hk2) 10000 (by omega)
        have he2 : (Op.equal kt k k2).run P w = .ok true w := he
        refine .inr ⟨0, _, v', _, rfl, ?_, hv, rfl, rfl⟩
        simp [Instr.findAsking, he2]
      · rename_i hq
        have he := eqN_ok (P := P) (w := w) hT 6 hq (constOk_ok (E := E) (N := N) hk) (constOk_ok hk2) 10000 (by omega)
        have he2 : (Op.equal kt k k2).run P w = .ok false w := he
        rcases findS_ok hT hk w (i + 1) h ht with ⟨e1, e2⟩ | ⟨j, u, u', e', e1, e2, e3, e4, e5⟩
        · exact .inl ⟨e1, by simp [Instr.findAsking, he2, e2]⟩
        · refine .inr ⟨j + 1, u, u', e', ?_, ?_, e3, by simpa using e4, e5⟩
          · rw [e1]; congr 2; omega
          · simp [Instr.findAsking, he2, e2]; omega
      · cases h
theorem findKey_S {P : Program} {T : Cx} (hT : Fits P T) {kt : TypeId} {fs : Array Field} (hu : T.und kt = some (.struct fs)) (k : Value) (es : List MapEntry) (w : World) : (Instr.findKey kt k es).run P w = (Instr.findAsking kt k es 0).run P w :=
  run_findKey_eq w (by rw [hT.und hu]) k es
def lookVS (T : Cx) (H : Hp) (et kt : TypeId) (ok : Bool) (kv : Value) (m : Option Value) : Option Value := match m with
  | some (.map none) => (match zeroV T et with
    | some z => some (lkV ok z false)
    | none => none)
  | some (.map (some b)) => (match H.b.get b with
    | some (.map es _) => (match findS T kt kv es 0 with
      | some (some r) => some (lkV ok r.2.val true)
      | some none => (match zeroV T et with
        | some z => some (lkV ok z false)
        | none => none)
      | none => none)
    | _ => none)
  | _ => none
def o_lookupS (t : TypeId) (m k : Operand) (ok : Bool) : OpF := fun T A H => match T.und t with
  | some (.map kt et) => (match ev A k with
    | some kv => ite' (keyS T kt kv) (withH (lookVS T H et kt ok kv (ev A m)) H) none
    | none => none)
  | _ => none
theorem agg_eq {E : Env} {N : Nat} {k k' : Value} (hk : constOk k = true) (h : VR E N k k') : k' = k := by
  unfold constOk at hk
  split at hk
  · rename_i cs
    obtain ⟨l', e, r⟩ := h.ag
    rw [e]
    have : ∀ {l l' : List Value}, plainL l = true → VL E N l l' → l' = l := by
      intro l
      induction l with
      | nil => intro l' _ r; cases r; rfl
      | cons v l ih =>
        intro l' hp r
        cases r with
        | cons hv ht =>
          obtain ⟨h1, h2⟩ := iteB (show ite' (plainV v) (plainL l) false = true from hp)
          rw [ih h2 ht]
          have e1 : ∀ {v v' : Value}, plainV v = true → VR E N v v' → v' = v := by
            intro v v' hp h
            cases h with
            | same _ => rfl
            | ptr _ => cases hp
            | slice _ _ => cases hp
            | open_ _ _ _ _ => cases hp
            | map _ => cases hp
            | agg _ => cases hp
            | tuple _ => cases hp
            | iface _ => cases hp
            | tail => cases hp
            | @clo f l l' m m' h k =>
              simp [plainV] at hp
              obtain ⟨rfl, rfl⟩ := hp
              cases h; cases k; rfl
          rw [e1 h1 hv]
    rw [this hk r]
  · cases h with
    | same _ => rfl
    | ptr _ => cases hk
    | slice _ _ => cases hk
    | open_ _ _ _ _ => cases hk
    | map _ => cases hk
    | agg _ => rename_i hne; exact absurd rfl (hne _)
    | tuple _ => cases hk
    | iface _ => cases hk
    | tail => cases hk
    | @clo f l l' m m' h k =>
      simp [plainV] at hk
      obtain ⟨rfl, rfl⟩ := hk
      cases h; cases k; rfl
theorem lookupS_ok {P : Program} {T : Cx} (hT : Fits P T) {o : Oper} {t : TypeId} {m k : Operand} {ok : Bool} (h : o.op = .lookup t m k ok) : Sound ds P T o (o_lookupS t m k ok) := fun A H v H' hf E a w ha hr => by
  unfold o_lookupS at hf
  split at hf
  · rename_i kt et hm
    split at hf
    · rename_i kv hk
      obtain ⟨hko, hf1⟩ := ite'_some hf
      obtain ⟨hf2, e0⟩ := withH_some hf1
      subst e0
      obtain ⟨fs, cs, hu, hkv, hpl, hc⟩ := keyS_ok (P := P) hT hko
      have hko2 : constOk kv = true := by rw [hkv]; exact hpl
      have ek : a.eval k = kv := agg_eq hko2 (ev_ok ha hk)
      have hM := hT.und hm
      unfold lookVS at hf2
      split at hf2
      · rename_i hmv
        split at hf2
        · rename_i z hz
          cases hf2
          obtain ⟨z1, z2⟩ := zeroV_ok (P := P) (E := E) (N := H'.next) hT hz
          refine sound_pure (v' := lkV ok z false) hr ?_ (lkV_ok z1)
          have hfk : (Instr.findKey kt kv []).run P w = .ok none w := by rw [findKey_S hT hu]; simp [Instr.findAsking]
          have hcc := hc true 9998 w
          cases ok <;> simp [execOp, h, Instr.lookup, run_underlying hM, (ev_ok ha hmv).mnil, ek, hcc, hfk, z2 w, lkV]
        · cases hf2
      · rename_i b hmv
        split at hf2
        · rename_i es clock hb
          obtain ⟨hlt, em⟩ := (ev_ok ha hmv).mp
          obtain ⟨es', b1, b2⟩ := hr.rel _ _ hb
          have hg := MapKept.run_getObj_map (P := P) b1
          split at hf2
          · rename_i r hfa
            cases hf2
            rcases findS_ok (P := P) hT hko2 w 0 hfa b2 with ⟨e1, _⟩ | ⟨j, u, u', e', e1, e2, e3, e4, e5⟩
            · cases e1
            · cases e1
              refine sound_pure (v' := lkV ok u' true) hr ?_ (lkV_ok e3)
              have hfk : (Instr.findKey kt kv es'.toList).run P w = .ok (some (0 + j, u')) w := by rw [findKey_S hT hu]; exact e2
              have hcc := hc es'.isEmpty 9998 w
              cases ok <;> simp [execOp, h, Instr.lookup, run_underlying hM, em, ek, hg, hcc, hfk, lkV]
          · rename_i hfa
            split at hf2
            · rename_i z hz
              cases hf2
              obtain ⟨z1, z2⟩ := zeroV_ok (P := P) (E := E) (N := H'.next) hT hz
              rcases findS_ok (P := P) hT hko2 w 0 hfa b2 with ⟨_, e2⟩ | ⟨j, u, u', e', e1, _⟩
              · refine sound_pure (v' := lkV ok z false) hr ?_ (lkV_ok z1)
                have hfk : (Instr.findKey kt kv es'.toList).run P w = .ok none w := by rw [findKey_S hT hu]; exact e2
                have hcc := hc es'.isEmpty 9998 w
                cases ok <;> simp [execOp, h, Instr.lookup, run_underlying hM, em, ek, hg, hcc, hfk, z2 w, lkV]
              · cases e1
            · cases hf2
          · cases hf2
        · cases hf2
      · cases hf2
    · cases hf
  · cases hf
def updS (T : Cx) (H : Hp) (kt : TypeId) (kv v : Value) (b : Nat) : Option Hp := match H.b.get b with
  | some (.map es clock) => (match findS T kt kv es 0 with
    | some (some r) => ite' (Instr.sameBits 10000 r.2.key kv) (some ⟨H.b.put b (some (.map (modA kv v es r.1) clock)), H.next⟩) none
    | some none => some ⟨H.b.put b (some (.map (List.append es [⟨kv, v, clock⟩]) (Nat.succ clock))), H.next⟩
    | none => none)
  | _ => none
def o_mapUpdateS (t : TypeId) (m k x : Operand) : OpF := fun T A H => match T.und t with
  | some (.map kt et) => (match ev A k with
    | some kv => (match ev A x with
      | some v => (match ev A m with
        | some (.map (some b)) => ite' (keyS T kt kv) (match updS T H kt kv v b with
          | some H' => some (undef, H')
          | none => none) none
        | _ => none)
      | none => none)
    | none => none)
  | _ => none
theorem mapUpdateS_ok {P : Program} {T : Cx} (hT : Fits P T) {o : Oper} {t : TypeId} {m k x : Operand} (h : o.op = .mapUpdate t m k x ∨ o.op = .insert t m k x) : Sound ds P T o (o_mapUpdateS t m k x) := fun A H v H' hf E a w ha hr => by
  unfold o_mapUpdateS at hf
  split at hf
  · rename_i kt et hm
    split at hf
    · rename_i kv hk
      split at hf
      · rename_i u hx
        split at hf
        · rename_i b hmv
          obtain ⟨hko, hf1⟩ := ite'_some hf
          clear hf
          split at hf1
          · rename_i H1 hu
            cases hf1
            obtain ⟨fs, cs, hfs, hkv, hpl, hc0⟩ := keyS_ok (P := P) hT hko
            have hko2 : constOk kv = true := by rw [hkv]; exact hpl
            have ek : a.eval k = kv := agg_eq hko2 (ev_ok ha hk)
            have hM := hT.und hm
            have hc := hc0 false 9998 w
            have hv := ev_ok ha hx
            obtain ⟨hlt, em⟩ := (ev_ok ha hmv).mp
            unfold updS at hu
            split at hu
            · rename_i es clock hb
              obtain ⟨es', b1, b2⟩ := hr.rel _ _ hb
              have hg := MapKept.run_getObj_map (P := P) b1
              have hset : ∀ o2, ({ w with heap := w.heap.setIfInBounds (E.s b) o2 } : World).heap[E.s b]? = some o2 ∧ ∀ r', r' ≠ E.s b → ({ w with heap := w.heap.setIfInBounds (E.s b) o2 } : World).heap[r']? = w.heap[r']? := fun o2 => MapKept.heap_set b1
              split at hu
              · rename_i r hfa
                obtain ⟨hsb, hu⟩ := ite'_some hu
                cases hu
                rcases findS_ok (P := P) hT hko2 w 0 hfa b2 with ⟨e1, _⟩ | ⟨j, u1, u', e', e1, e2, e3, e4, e5⟩
                · cases e1
                · cases e1
                  have e4' : es'[0 + j]? = some e' := by rw [Nat.zero_add]; simpa using e4
                  have hsb2 : Instr.sameBits 10000 e'.key kv = true := by rw [e5]; exact hsb
                  obtain ⟨J, hJ⟩ : ∃ J, J = 0 + j := ⟨_, rfl⟩
                  rw [← hJ] at e2 e4' ⊢
                  have hfk : (Instr.findKey kt kv es'.toList).run P w = .ok (some (J, u')) w := by rw [findKey_S hT hfs]; exact e2
                  have hks : (Instr.keyThatStays e'.key kv).run P w = .ok kv w := by simp [Instr.keyThatStays, hsb2]
                  have hso := MapKept.run_setObj_map (P := P) (.map (es'.modify J fun e => { e with key := kv, val := a.eval x }) clock) b1
                  obtain ⟨s1, s2⟩ := hset (.map (es'.modify J fun e => { e with key := kv, val := a.eval x }) clock)
                  obtain ⟨g1, g2⟩ := hr.upd (w' := { w with heap := w.heap.setIfInBounds (E.s b) (.map (es'.modify J fun e => { e with key := kv, val := a.eval x }) clock) }) (x1 := .map (modA kv u es J) clock) hb
                    ⟨_, s1, by rw [Array.toList_modify]; exact modA_ok hko2 hv J b2⟩ s2 rfl rfl rfl (by simp) rfl
                  refine ⟨E, undef, _, _, ?_, .inr ⟨rfl, rfl⟩, g2, VR.undef, g1⟩
                  rcases h with h | h <;> simp [execOp, h, Instr.mapUpdate, run_underlying hM, em, ek, hg, hc, hfk, e4', hks, hso]
              · rename_i hfa
                cases hu
                rcases findS_ok (P := P) hT hko2 w 0 hfa b2 with ⟨_, e2⟩ | ⟨j, u1, u', e', e1, _⟩
                · have hfk : (Instr.findKey kt kv es'.toList).run P w = .ok none w := by rw [findKey_S hT hfs]; exact e2
                  have hso := MapKept.run_setObj_map (P := P) (.map (es'.push { key := kv, val := a.eval x, born := clock }) (clock + 1)) b1
                  obtain ⟨s1, s2⟩ := hset (.map (es'.push { key := kv, val := a.eval x, born := clock }) (clock + 1))
                  obtain ⟨g1, g2⟩ := hr.upd (w' := { w with heap := w.heap.setIfInBounds (E.s b) (.map (es'.push { key := kv, val := a.eval x, born := clock }) (clock + 1)) }) (x1 := .map (List.append es [⟨kv, u, clock⟩]) (Nat.succ clock)) hb
                    ⟨_, s1, by rw [Array.toList_push]; exact ML.push hko2 hv b2⟩ s2 rfl rfl rfl (by simp) rfl
                  refine ⟨E, undef, _, _, ?_, .inr ⟨rfl, rfl⟩, g2, VR.undef, g1⟩
                  rcases h with h | h <;> simp [execOp, h, Instr.mapUpdate, run_underlying hM, em, ek, hg, hc, hfk, hso]
                · cases e1
              · cases hu
            · cases hu
          · cases hf1
        · cases hf
      · cases hf
    · cases hf
  · cases hf
theorem orF_sound {P : Program} {T : Cx} {o : Oper} {f g : OpF} (hf : Sound ds P T o f) (hg : Sound ds P T o g) : Sound ds P T o (orF f g) := fun A H v H' h E a w ha hr => by
  unfold orF at h
  cases hh : f T A H with
  | none => rw [hh] at h; exact hg A H v H' h E a w ha hr
  | some r => rw [hh] at h; cases h; exact hf A H _ _ hh E a w ha hr
def o_lookupX (t : TypeId) (m k : Operand) (ok : Bool) : OpF := orF (o_lookup t m k ok) (o_lookupS t m k ok)
def o_mapUpdateX (t : TypeId) (m k x : Operand) : OpF := orF (o_mapUpdate t m k x) (o_mapUpdateS t m k x)
theorem lookupX_ok {P : Program} {T : Cx} (hT : Fits P T) {o : Oper} {t : TypeId} {m k : Operand} {ok : Bool} (h : o.op = .lookup t m k ok) : Sound ds P T o (o_lookupX t m k ok) := orF_sound (lookup_ok hT h) (lookupS_ok hT h)
theorem mapUpdateX_ok {P : Program} {T : Cx} (hT : Fits P T) {o : Oper} {t : TypeId} {m k x : Operand} (h : o.op = .mapUpdate t m k x ∨ o.op = .insert t m k x) : Sound ds P T o (o_mapUpdateX t m k x) := orF_sound (mapUpdate_ok hT h) (mapUpdateS_ok hT h)
end
end Go.Proofs.YtanhkchpffkloaaGreatDoor
