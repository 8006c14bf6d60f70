import Derived.Test.YtcpghlilbohohaaGreatDoorEq2
import Derived.WideKeyRuns
import Derived.MapKept
import Derived.Carry
import Derived.Lib.OthersKept
import Derived.Laws.RangeString
import Derived.Laws.BytesArg
import Derived.Laws.MakeOwn
import Derived.LaidEql
namespace Go.Proofs.YtcpghlilbohohaaGreatDoor
open Go
set_option linter.unusedVariables false
set_option linter.unusedSimpArgs false
noncomputable section
variable {ds : List Deferred}
/-! ### maps -/
def keyEq (d : TypeDesc) (k k2 : Value) : Option Bool := match d with
  | .int _ => (match k with
    | .int a x => (match k2 with
      | .int b y => ite' (kindEq a b) (some (eqF x y)) none
      | _ => none)
    | _ => none)
  | .string => (match k with
    | .string a => (match k2 with
      | .string b => some (bytesEq a.data.toList b.data.toList)
      | _ => none)
    | _ => none)
  | _ => none
theorem keyEq_ok {d : TypeDesc} {k k2 : Value} {b : Bool} (h : keyEq d k k2 = some b) : Instr.sameNow d k k2 = some b ∧ (b = true → k = k2) := by
  unfold keyEq at h
  split at h
  · split at h
    · split at h
      · obtain ⟨h1, h2⟩ := ite'_some h
        cases h2
        rw [kindEq_eq h1]
        refine ⟨by simp [Instr.sameNow, eqF_eq], fun h3 => ?_⟩
        rw [eqF_eq] at h3
        rw [eq_of_beq h3]
      · cases h
    · cases h
  · split at h
    · split at h
      · rename_i x _ y
        cases h
        refine ⟨?_, fun h3 => ?_⟩
        · simp only [Instr.sameNow, bytesEq_eq, beq_toListBytes, ByteArray.toList_eq]
        · rw [bytesEq_eq] at h3
          have := eq_of_beq h3
          congr 1
          apply ByteArray.ext
          exact Array.toList_inj.1 this
      · cases h
    · cases h
  · cases h
def keyOk (d : TypeDesc) (k : Value) : Bool := match d with
  | .int j => (match k with
    | .int j' _ => kindEq j' j
    | _ => false)
  | .string => (match k with
    | .string _ => true
    | _ => false)
  | _ => false
theorem keyOk_ok {d : TypeDesc} {k : Value} (h : keyOk d k = true) : MapKept.IsKey d k ∧ plainV k = true ∧ ∀ {E : Env} {N : Nat} {k' : Value}, VR E N k k' → k' = k := by
  unfold keyOk at h
  split at h
  · split at h
    · have := kindEq_eq h
      subst this
      exact ⟨rfl, rfl, fun h => h.int⟩
    · cases h
  · split at h
    · exact ⟨trivial, rfl, fun h => h.string⟩
    · cases h
  · cases h
def findA (d : TypeDesc) (k : Value) (es : List MapEntry) : Nat → Option (Option (Nat × Value)) := List.rec (motive := fun _ => Nat → Option (Option (Nat × Value))) (fun _ => some none) (fun e _ ih i => match keyEq d k e.key with
  | some true => some (some (i, e.val))
  | some false => ih (Nat.succ i)
  | none => none) es
theorem findA_cons (d : TypeDesc) (k : Value) (e : MapEntry) (es : List MapEntry) (i : Nat) : findA d k (e :: es) i = (match keyEq d k e.key with
  | some true => some (some (i, e.val))
  | some false => findA d k es (Nat.succ i)
  | none => none) := rfl
theorem findA_ok {E : Env} {N : Nat} {d : TypeDesc} {k : Value} : ∀ {es es' : List MapEntry} (i : Nat) {r : Option (Nat × Value)}, findA d k es i = some r → ML E N es es' →
    (r = none ∧ Instr.findNow d k es' i = some none) ∨ ∃ j v v' e', r = some (i + j, v) ∧ Instr.findNow d k es' i = some (some (i + j, v')) ∧ VR E N v v' ∧ es'[j]? = some e' ∧ e'.key = k
  | [], _, i, r, h, m => by cases h; cases m; exact .inl ⟨rfl, rfl⟩
  | e :: es, _, i, r, h, m => by
    cases m with
    | @cons k2 v v' b _ l' hk hv ht =>
      rw [findA_cons] at h
      split at h
      · rename_i hq
        cases h
        obtain ⟨h1, h2⟩ := keyEq_ok hq
        refine .inr ⟨0, v, v', _, rfl, ?_, hv, rfl, (h2 rfl).symm⟩
        simp only [Instr.findNow, h1]; rfl
      · rename_i hq
        obtain ⟨h1, _⟩ := keyEq_ok hq
        rcases findA_ok (i + 1) h ht with ⟨e1, e2⟩ | ⟨j, u, u', e', e1, e2, e3, e4, e5⟩
        · exact .inl ⟨e1, by simp only [Instr.findNow, h1]; exact e2⟩
        · refine .inr ⟨j + 1, u, u', e', ?_, ?_, e3, by simpa using e4, e5⟩
          · rw [e1]; congr 2; omega
          · simp only [Instr.findNow, h1]; rw [e2]; congr 3; omega
      · cases h
def modA (k v : Value) (es : List MapEntry) : Nat → List MapEntry := List.rec (motive := fun _ => Nat → List MapEntry) (fun _ => []) (fun e l ih j => Nat.rec (motive := fun _ => List MapEntry) (⟨k, v, e.born⟩ :: l) (fun j' _ => e :: ih j') j) es
theorem modA_ok {E : Env} {N : Nat} {k v v' : Value} (hk : constOk k = true) (hv : VR E N v v') : ∀ {es es' : List MapEntry} (j : Nat), ML E N es es' → ML E N (modA k v es j) (es'.modify j fun e => { e with key := k, val := v' })
  | _, _, j, .nil => by
    show ML E N [] _
    cases j <;> exact .nil
  | _, _, 0, .cons hk2 h t => .cons hk hv t
  | _, _, j + 1, .cons hk2 h t => by
    rw [List.modify_succ_cons]
    exact .cons hk2 h (modA_ok hk hv j t)
theorem ML.push {E : Env} {N : Nat} {k v v' : Value} {b : Nat} (hk : constOk k = true) (hv : VR E N v v') : ∀ {es es' : List MapEntry}, ML E N es es' → ML E N (es ++ [⟨k, v, b⟩]) (es' ++ [⟨k, v', b⟩])
  | _, _, .nil => .cons hk hv .nil
  | _, _, .cons hk2 h t => .cons hk2 h (ML.push hk hv t)
/-- a type's zero. -/
def zOk (z : Value) : Bool := match z with
  | .agg cs => plainL cs.toList
  | z => plainV z
theorem zOk_ok {E : Env} {N : Nat} {z : Value} (h : zOk z = true) : VR E N z z := by
  unfold zOk at h
  split at h
  · rename_i cs
    have := VR.agg (plainL_ok (E := E) (N := N) h)
    simpa using this
  · exact .same h
def zeroV (T : Cx) (t : TypeId) : Option Value := match T.ty.get t with
  | some i => (match i.zero with
    | some z => ite' (zOk z) (some z) none
    | none => none)
  | none => none
theorem zeroV_ok {P : Program} {T : Cx} (hT : Fits P T) {E : Env} {N : Nat} {t : TypeId} {z : Value} (h : zeroV T t = some z) : VR E N z z ∧ ∀ w : World, (zeroValue t).run P w = .ok z w := by
  unfold zeroV at h
  split at h
  · rename_i i hi
    split at h
    · rename_i z2 hz
      obtain ⟨h1, h2⟩ := ite'_some h
      cases h2
      exact ⟨zOk_ok h1, fun w => by simp [zeroValue, typeInfo, hT.ty t i hi, hz]⟩
    · cases h
  · cases h
def lkV (ok : Bool) (v : Value) (b : Bool) : Value := ite' ok (.tuple #[v, .bool b]) v
theorem lkV_ok {E : Env} {N : Nat} {ok b : Bool} {v v' : Value} (h : VR E N v v') : VR E N (lkV ok v b) (lkV ok v' b) := by
  cases ok with
  | true => exact .tuple (l := [v, .bool b]) (l' := [v', .bool b]) (.cons h (.cons (.same rfl) .nil))
  | false => exact h
def lookV (T : Cx) (H : Hp) (et : TypeId) (d : TypeDesc) (ok : Bool) (kv : Value) (m : Option Value) : Option Value := match m with
  | some (.map none) => (match zeroV T et with
    | some z => some (lkV ok z false)
    | none => none)
  | some (.map (some b)) => (match H.b.get b with
    | some (.map es _) => (match findA d kv es 0 with
      | some (some r) => some (lkV ok r.2 true)
      | some none => (match zeroV T et with
        | some z => some (lkV ok z false)
        | none => none)
      | none => none)
    | _ => none)
  | _ => none
def o_lookup (t : TypeId) (m k : Operand) (ok : Bool) : OpF := fun T A H => match T.und t with
  | some (.map kt et) => (match T.und kt with
    | some d => (match ev A k with
      | some kv => ite' (keyOk d kv) (withH (lookV T H et d ok kv (ev A m)) H) none
      | none => none)
    | none => none)
  | _ => none
theorem VR.mp {E : Env} {N : Nat} {b : Nat} {v : Value} (h : VR E N (.map (some b)) v) : b < N ∧ v = .map (some (E.s b)) := by
  cases h with
  | same h => cases h
  | map h => exact ⟨h, rfl⟩
theorem lookup_ok {P : Program} {T : Cx} (hT : Fits P T) {o : Oper} {t : TypeId} {m k : Operand} {ok : Bool} (h : o.op = .lookup t m k ok) : Sound ds P T o (o_lookup t m k ok) := fun A H v H' hf E a w ha hr => by
  unfold o_lookup at hf
  split at hf
  · rename_i kt et hm
    split at hf
    · rename_i d hd
      split at hf
      · rename_i kv hk
        obtain ⟨hko, hf1⟩ := ite'_some hf
        obtain ⟨hf2, e0⟩ := withH_some hf1
        subst e0
        obtain ⟨q1, q2, q3⟩ := keyOk_ok hko
        have ek : a.eval k = kv := q3 (ev_ok ha hk)
        have hM := hT.und hm
        have hD := hT.und hd
        have hc : ∀ e, (Instr.checkKey e (9999 + 1) kt kv).run P w = .ok () w := fun e => MapKept.run_checkKey hD q1 e 9999
        unfold lookV at hf2
        split at hf2
        · rename_i hmv
          split at hf2
          · rename_i z hz
            cases hf2
            obtain ⟨z1, z2⟩ := zeroV_ok (P := P) (E := E) (N := H'.next) hT hz
            refine sound_pure (v' := lkV ok z false) hr ?_ (lkV_ok z1)
            have hfk : (Instr.findKey kt kv []).run P w = .ok none w := MapKept.run_findKey hD rfl
            have hcc := hc true
            cases ok <;> simp [execOp, h, Instr.lookup, run_underlying hM, (ev_ok ha hmv).mnil, ek, hcc, hfk, z2 w, lkV]
          · cases hf2
        · rename_i b hmv
          split at hf2
          · rename_i es clock hb
            obtain ⟨hlt, em⟩ := (ev_ok ha hmv).mp
            obtain ⟨es', b1, b2⟩ := hr.rel _ _ hb
            have hg := MapKept.run_getObj_map (P := P) b1
            split at hf2
            · rename_i r hfa
              cases hf2
              rcases findA_ok 0 hfa b2 with ⟨e1, _⟩ | ⟨j, u, u', e', e1, e2, e3, e4, e5⟩
              · cases e1
              · cases e1
                refine sound_pure (v' := lkV ok u' true) hr ?_ (lkV_ok e3)
                have hfk := MapKept.run_findKey (P := P) (w := w) hD e2
                have hcc := hc es'.isEmpty
                cases ok <;> simp [execOp, h, Instr.lookup, run_underlying hM, em, ek, hg, hcc, hfk, lkV]
            · rename_i hfa
              split at hf2
              · rename_i z hz
                cases hf2
                obtain ⟨z1, z2⟩ := zeroV_ok (P := P) (E := E) (N := H'.next) hT hz
                rcases findA_ok 0 hfa b2 with ⟨_, e2⟩ | ⟨j, u, u', e', e1, _⟩
                · refine sound_pure (v' := lkV ok z false) hr ?_ (lkV_ok z1)
                  have hfk := MapKept.run_findKey (P := P) (w := w) hD e2
                  have hcc := hc es'.isEmpty
                  cases ok <;> simp [execOp, h, Instr.lookup, run_underlying hM, em, ek, hg, hcc, hfk, z2 w, lkV]
                · cases e1
              · cases hf2
            · cases hf2
          · cases hf2
        · cases hf2
      · cases hf
    · cases hf
  · cases hf
/-! #### a new map, a new entry -/
def o_makeMap : OpF := fun _ _ H => some (.map (some H.next), H.new (.map [] 0))
theorem makeMap_ok {P : Program} {T : Cx} {o : Oper} {t : TypeId} (h : o.op = .makeMap t none) : Sound ds P T o o_makeMap := fun A H v H' hf E a w ha hr => by
  cases hf
  obtain ⟨h1, h2⟩ := hr.new (x := .map [] 0) (o := .map #[] 0) (k := 0) ⟨#[], rfl, .nil⟩
  refine ⟨_, .map (some w.heap.size), _, _, ?_, .inl rfl, h2, ?_, h1⟩
  · simp [execOp, h, Go.RowKit.run_makeMap]
  · have z := VR.map (E := E.add H.next w.heap.size 0) (N := H.next + 1) (Nat.lt_succ_self H.next)
    rw [show (E.add H.next w.heap.size 0).s H.next = w.heap.size by simp [Env.add]] at z
    exact z
def updH (H : Hp) (d : TypeDesc) (kv v : Value) (b : Nat) : Option Hp := match H.b.get b with
  | some (.map es clock) => (match findA d kv es 0 with
    | some (some r) => some ⟨H.b.put b (some (.map (modA kv v es r.1) clock)), H.next⟩
    | some none => some ⟨H.b.put b (some (.map (List.append es [⟨kv, v, clock⟩]) (Nat.succ clock))), H.next⟩
    | none => none)
  | _ => none
def o_mapUpdate (t : TypeId) (m k x : Operand) : OpF := fun T A H => match T.und t with
  | some (.map kt et) => (match T.und kt with
    | some d => (match ev A k with
      | some kv => (match ev A x with
        | some v => (match ev A m with
          | some (.map (some b)) => ite' (keyOk d kv) (match updH H d kv v b with
            | some H' => some (undef, H')
            | none => none) none
          | _ => none)
        | none => none)
      | none => none)
    | none => none)
  | _ => none
theorem mapUpdate_ok {P : Program} {T : Cx} (hT : Fits P T) {o : Oper} {t : TypeId} {m k x : Operand} (h : o.op = .mapUpdate t m k x ∨ o.op = .insert t m k x) : Sound ds P T o (o_mapUpdate t m k x) := fun A H v H' hf E a w ha hr => by
  unfold o_mapUpdate at hf
  split at hf
  · rename_i kt et hm
    split at hf
    · rename_i d hd
      split at hf
      · rename_i kv hk
        split at hf
        · rename_i u hx
          split at hf
          · rename_i b hmv
            obtain ⟨hko, hf1⟩ := ite'_some hf
            clear hf
            split at hf1
            · rename_i H1 hu
              cases hf1
              obtain ⟨q1, q2, q3⟩ := keyOk_ok hko
              have ek : a.eval k = kv := q3 (ev_ok ha hk)
              have hM := hT.und hm
              have hD := hT.und hd
              have hc : (Instr.checkKey false (9999 + 1) kt kv).run P w = .ok () w := MapKept.run_checkKey hD q1 false 9999
              have hv := ev_ok ha hx
              obtain ⟨hlt, em⟩ := (ev_ok ha hmv).mp
              unfold updH at hu
              split at hu
              · rename_i es clock hb
                obtain ⟨es', b1, b2⟩ := hr.rel _ _ hb
                have hg := MapKept.run_getObj_map (P := P) b1
                have hset : ∀ o2, ({ w with heap := w.heap.setIfInBounds (E.s b) o2 } : World).heap[E.s b]? = some o2 ∧ ∀ r', r' ≠ E.s b → ({ w with heap := w.heap.setIfInBounds (E.s b) o2 } : World).heap[r']? = w.heap[r']? := fun o2 => MapKept.heap_set b1
                split at hu
                · rename_i r hfa
                  cases hu
                  rcases findA_ok 0 hfa b2 with ⟨e1, _⟩ | ⟨j, u1, u', e', e1, e2, e3, e4, e5⟩
                  · cases e1
                  · cases e1
                    have e4' : es'[0 + j]? = some e' := by rw [Nat.zero_add]; simpa using e4
                    obtain ⟨J, hJ⟩ : ∃ J, J = 0 + j := ⟨_, rfl⟩
                    rw [← hJ] at e2 e4' ⊢
                    have hfk := MapKept.run_findKey (P := P) (w := w) hD e2
                    have hks := MapKept.run_keyThatStays (P := P) (w := w) q1
                    have hso := MapKept.run_setObj_map (P := P) (.map (es'.modify J fun e => { e with key := kv, val := a.eval x }) clock) b1
                    obtain ⟨s1, s2⟩ := hset (.map (es'.modify J fun e => { e with key := kv, val := a.eval x }) clock)
                    obtain ⟨g1, g2⟩ := hr.upd (w' := { w with heap := w.heap.setIfInBounds (E.s b) (.map (es'.modify J fun e => { e with key := kv, val := a.eval x }) clock) }) (x1 := .map (modA kv u es J) clock) hb
                      ⟨_, s1, by rw [Array.toList_modify]; exact modA_ok (constOk_plain q2) hv J b2⟩ s2 rfl rfl rfl (by simp) rfl
                    refine ⟨E, undef, _, _, ?_, .inr ⟨rfl, rfl⟩, g2, VR.undef, g1⟩
                    rcases h with h | h <;> simp [execOp, h, Instr.mapUpdate, run_underlying hM, em, ek, hg, hc, hfk, e4', e5, hks, hso]
                · rename_i hfa
                  cases hu
                  rcases findA_ok 0 hfa b2 with ⟨_, e2⟩ | ⟨j, u1, u', e', e1, _⟩
                  · have hfk := MapKept.run_findKey (P := P) (w := w) hD e2
                    have hso := MapKept.run_setObj_map (P := P) (.map (es'.push { key := kv, val := a.eval x, born := clock }) (clock + 1)) b1
                    obtain ⟨s1, s2⟩ := hset (.map (es'.push { key := kv, val := a.eval x, born := clock }) (clock + 1))
                    obtain ⟨g1, g2⟩ := hr.upd (w' := { w with heap := w.heap.setIfInBounds (E.s b) (.map (es'.push { key := kv, val := a.eval x, born := clock }) (clock + 1)) }) (x1 := .map (List.append es [⟨kv, u, clock⟩]) (Nat.succ clock)) hb
                      ⟨_, s1, by rw [Array.toList_push]; exact ML.push (constOk_plain q2) hv b2⟩ s2 rfl rfl rfl (by simp) rfl
                    refine ⟨E, undef, _, _, ?_, .inr ⟨rfl, rfl⟩, g2, VR.undef, g1⟩
                    rcases h with h | h <;> simp [execOp, h, Instr.mapUpdate, run_underlying hM, em, ek, hg, hc, hfk, hso]
                  · cases e1
                · cases hu
              · cases hu
            · cases hf1
          · cases hf
        · cases hf
      · cases hf
    · cases hf
  · cases hf
/-! #### keys that are structs of plain parts -/
theorem iteB {b x : Bool} (h : ite' b x false = true) : b = true ∧ x = true := by cases b with | false => cases h | true => exact ⟨rfl, h⟩
def flatD (d : TypeDesc) : Bool := match d with
  | .int _ | .string | .bool => true
  | _ => false
def chkF1 (T : Cx) (l : List Value) (f : Field) : Bool := match T.und f.type with
  | some d => ite' (flatD d) (match partA T f.type l f.offset with
    | some v => plainV v
    | none => false) false
  | none => false
def chkFs (T : Cx) (l : List Value) (fs : List Field) : Bool := List.rec (motive := fun _ => Bool) true (fun f _ ih => ite' (chkF1 T l f) ih false) fs
def keyS (T : Cx) (kt : TypeId) (k : Value) : Bool := match T.und kt with
  | some (.struct fs) => (match k with
    | .agg cs => ite' (plainL cs.toList) (chkFs T cs.toList fs.toList) false
    | _ => false)
  | _ => false
theorem checkKey_flat {P : Program} {t : TypeId} {d : TypeDesc} {v : Value} (hd : P.underlying t = some d) (hf : flatD d = true) (e : Bool) (n : Nat) (w : World) : (Instr.checkKey e (n + 1) t v).run P w = .ok () w := by
  unfold Instr.checkKey
  simp only [Sem.run_bind, run_underlying hd, Result.andThen]
  cases d <;> first | (cases hf; done) | (cases v <;> simp)
theorem keyS_ok {P : Program} {T : Cx} (hT : Fits P T) {kt : TypeId} {k : Value} (h : keyS T kt k = true) : ∃ fs cs, T.und kt = some (.struct fs) ∧ k = .agg cs ∧ plainL cs.toList = true ∧ ∀ (e : Bool) (n : Nat) (w : World), (Instr.checkKey e (n + 1 + 1) kt k).run P w = .ok () w := by
  unfold keyS at h
  split at h
  · rename_i fs hu
    split at h
    · rename_i cs
      obtain ⟨h1, h2⟩ := iteB h
      refine ⟨fs, cs, hu, rfl, h1, fun e n w => ?_⟩
      unfold Instr.checkKey
      simp only [Sem.run_bind, run_underlying (hT.und hu), Result.andThen]
      rw [← Array.forIn_toList]
      have key : ∀ (l : List Field), chkFs T cs.toList l = true → Sem.run P (forIn l PUnit.unit fun f __s => (do
          if f.name ≠ "_" then do
            let __do_lift ← part f.type cs f.offset
            Instr.checkKey e (n + 1) f.type __do_lift
            pure (ForInStep.yield PUnit.unit)
          else pure (ForInStep.yield PUnit.unit) : Sem (ForInStep PUnit))) w = .ok PUnit.unit w := fun l => by
        induction l with
        | nil => intro _; simp
        | cons f l ih =>
          intro hl
          obtain ⟨h3, h4⟩ := iteB (show ite' (chkF1 T cs.toList f) (chkFs T cs.toList l) false = true from hl)
          unfold chkF1 at h3
          split at h3
          · rename_i d hd
            obtain ⟨h5, h6⟩ := iteB h3
            split at h6
            · rename_i v hv
              obtain ⟨v', rv, er⟩ := partA_ok (P := P) hT hv (plainL_ok (E := ⟨fun _ => 0, fun _ => 0⟩) (N := 0) h1)
              have e1 : (cs.toList).toArray = cs := by simp
              rw [e1] at er
              have hc := checkKey_flat (v := v') (hT.und hd) h5 e n w
              rw [List.forIn_cons]
              by_cases hn : f.name ≠ "_"
              · simp only [if_pos hn, Sem.run_bind, er w, Result.andThen, hc, Sem.run_pure]
                exact ih h4
              · simp only [if_neg hn, Sem.run_bind, Result.andThen, Sem.run_pure]
                exact ih h4
            · cases h6
          · cases h3
      rw [key fs.toList h2]
      simp
    · cases h
  · cases h
def findS1 (T : Cx) (kt : TypeId) (k : Value) (e : MapEntry) (i : Nat) (ih : Nat → Option (Option (Nat × MapEntry))) (r : Option Bool) : Option (Option (Nat × MapEntry)) := match r with
  | some true => some (some (i, e))
  | some false => ih (Nat.succ i)
  | none => none
def findS (T : Cx) (kt : TypeId) (k : Value) (es : List MapEntry) : Nat → Option (Option (Nat × MapEntry)) := List.rec (motive := fun _ => Nat → Option (Option (Nat × MapEntry))) (fun _ => some none) (fun e _ ih i => findS1 T kt k e i ih (eqN T 6 kt k e.key)) es
theorem findS_ok {P : Program} {T : Cx} (hT : Fits P T) {E : Env} {N : Nat} {kt : TypeId} {k : Value} (hk : constOk k = true) (w : World) : ∀ {es es' : List MapEntry} (i : Nat) {r : Option (Nat × MapEntry)}, findS T kt k es i = some r → ML E N es es' →
    (r = none ∧ (Instr.findAsking kt k es' i).run P w = .ok none w) ∨ ∃ j e v' e', r = some (i + j, e) ∧ (Instr.findAsking kt k es' i).run P w = .ok (some (i + j, v')) w ∧ VR E N e.val v' ∧ es'[j]? = some e' ∧ e'.key = e.key
  | [], _, i, r, h, m => by cases h; cases m; exact .inl ⟨rfl, by simp [Instr.findAsking]⟩
  | e :: es, _, i, r, h, m => by
    cases m with
    | @cons k2 v v' b _ l' hk2 hv ht =>
      change findS1 T kt k ⟨k2, v, b⟩ i (findS T kt k es) (eqN T 6 kt k k2) = some r at h
      unfold findS1 at h
      split at h
      · rename_i hq
        cases h
        have he := eqN_ok (P := P) (w := w) hT 6 hq (constOk_ok (E := E) (N := N) hk) (constOk_ok hk2) 10000 (by omega)
        have he2 : (Op.equal kt k k2).run P w = .ok true w := he
        refine .inr ⟨0, _, v', _, rfl, ?_, hv, rfl, rfl⟩
        simp [Instr.findAsking, he2]
      · rename_i hq
        have he := eqN_ok (P := P) (w := w) hT 6 hq (constOk_ok (E := E) (N := N) hk) (constOk_ok hk2) 10000 (by omega)
        have he2 : (Op.equal kt k k2).run P w = .ok false w := he
        rcases findS_ok hT hk w (i + 1) h ht with ⟨e1, e2⟩ | ⟨j, u, u', e', e1, e2, e3, e4, e5⟩
        · exact .inl ⟨e1, by simp [Instr.findAsking, he2, e2]⟩
        · refine .inr ⟨j + 1, u, u', e', ?_, ?_, e3, by simpa using e4, e5⟩
          · rw [e1]; congr 2; omega
          · simp [Instr.findAsking, he2, e2]; omega
      · cases h
theorem findKey_S {P : Program} {T : Cx} (hT : Fits P T) {kt : TypeId} {fs : Array Field} (hu : T.und kt = some (.struct fs)) (k : Value) (es : List MapEntry) (w : World) : (Instr.findKey kt k es).run P w = (Instr.findAsking kt k es 0).run P w :=
  run_findKey_eq w (by rw [hT.und hu]) k es
def lookVS (T : Cx) (H : Hp) (et kt : TypeId) (ok : Bool) (kv : Value) (m : Option Value) : Option Value := match m with
  | some (.map none) => (match zeroV T et with
    | some z => some (lkV ok z false)
    | none => none)
  | some (.map (some b)) => (match H.b.get b with
    | some (.map es _) => (match findS T kt kv es 0 with
      | some (some r) => some (lkV ok r.2.val true)
      | some none => (match zeroV T et with
        | some z => some (lkV ok z false)
        | none => none)
      | none => none)
    | _ => none)
  | _ => none
def o_lookupS (t : TypeId) (m k : Operand) (ok : Bool) : OpF := fun T A H => match T.und t with
  | some (.map kt et) => (match ev A k with
    | some kv => ite' (keyS T kt kv) (withH (lookVS T H et kt ok kv (ev A m)) H) none
    | none => none)
  | _ => none
theorem agg_eq {E : Env} {N : Nat} {k k' : Value} (hk : constOk k = true) (h : VR E N k k') : k' = k := by
  unfold constOk at hk
  split at hk
  · rename_i cs
    obtain ⟨l', e, r⟩ := h.ag
    rw [e]
    have : ∀ {l l' : List Value}, plainL l = true → VL E N l l' → l' = l := by
      intro l
      induction l with
      | nil => intro l' _ r; cases r; rfl
      | cons v l ih =>
        intro l' hp r
        cases r with
        | cons hv ht =>
          obtain ⟨h1, h2⟩ := iteB (show ite' (plainV v) (plainL l) false = true from hp)
          rw [ih h2 ht]
          have e1 : ∀ {v v' : Value}, plainV v = true → VR E N v v' → v' = v := by
            intro v v' hp h
            cases h with
            | same _ => rfl
            | ptr _ => cases hp
            | slice _ _ => cases hp
            | open_ _ _ _ _ => cases hp
            | map _ => cases hp
            | agg _ => cases hp
            | tuple _ => cases hp
            | iface _ => cases hp
            | tail => cases hp
            | @clo f l l' m m' h k =>
              simp [plainV] at hp
              obtain ⟨rfl, rfl⟩ := hp
              cases h; cases k; rfl
          rw [e1 h1 hv]
    rw [this hk r]
  · cases h with
    | same _ => rfl
    | ptr _ => cases hk
    | slice _ _ => cases hk
    | open_ _ _ _ _ => cases hk
    | map _ => cases hk
    | agg _ => rename_i hne; exact absurd rfl (hne _)
    | tuple _ => cases hk
    | iface _ => cases hk
    | tail => cases hk
    | @clo f l l' m m' h k =>
      simp [plainV] at hk
      obtain ⟨rfl, rfl⟩ := hk
      cases h; cases k; rfl
theorem lookupS_ok {P : Program} {T : Cx} (hT : Fits P T) {o : Oper} {t : TypeId} {m k : Operand} {ok : Bool} (h : o.op = .lookup t m k ok) : Sound ds P T o (o_lookupS t m k ok) := fun A H v H' hf E a w ha hr => by
  unfold o_lookupS at hf
  split at hf
  · rename_i kt et hm
    split at hf
    · rename_i kv hk
      obtain ⟨hko, hf1⟩ := ite'_some hf
      obtain ⟨hf2, e0⟩ := withH_some hf1
      subst e0
      obtain ⟨fs, cs, hu, hkv, hpl, hc⟩ := keyS_ok (P := P) hT hko
      have hko2 : constOk kv = true := by rw [hkv]; exact hpl
      have ek : a.eval k = kv := agg_eq hko2 (ev_ok ha hk)
      have hM := hT.und hm
      unfold lookVS at hf2
      split at hf2
      · rename_i hmv
        split at hf2
        · rename_i z hz
          cases hf2
          obtain ⟨z1, z2⟩ := zeroV_ok (P := P) (E := E) (N := H'.next) hT hz
          refine sound_pure (v' := lkV ok z false) hr ?_ (lkV_ok z1)
          have hfk : (Instr.findKey kt kv []).run P w = .ok none w := by rw [findKey_S hT hu]; simp [Instr.findAsking]
          have hcc := hc true 9998 w
          cases ok <;> simp [execOp, h, Instr.lookup, run_underlying hM, (ev_ok ha hmv).mnil, ek, hcc, hfk, z2 w, lkV]
        · cases hf2
      · rename_i b hmv
        split at hf2
        · rename_i es clock hb
          obtain ⟨hlt, em⟩ := (ev_ok ha hmv).mp
          obtain ⟨es', b1, b2⟩ := hr.rel _ _ hb
          have hg := MapKept.run_getObj_map (P := P) b1
          split at hf2
          · rename_i r hfa
            cases hf2
            rcases findS_ok (P := P) hT hko2 w 0 hfa b2 with ⟨e1, _⟩ | ⟨j, u, u', e', e1, e2, e3, e4, e5⟩
            · cases e1
            · cases e1
              refine sound_pure (v' := lkV ok u' true) hr ?_ (lkV_ok e3)
              have hfk : (Instr.findKey kt kv es'.toList).run P w = .ok (some (0 + j, u')) w := by rw [findKey_S hT hu]; exact e2
              have hcc := hc es'.isEmpty 9998 w
              cases ok <;> simp [execOp, h, Instr.lookup, run_underlying hM, em, ek, hg, hcc, hfk, lkV]
          · rename_i hfa
            split at hf2
            · rename_i z hz
              cases hf2
              obtain ⟨z1, z2⟩ := zeroV_ok (P := P) (E := E) (N := H'.next) hT hz
              rcases findS_ok (P := P) hT hko2 w 0 hfa b2 with ⟨_, e2⟩ | ⟨j, u, u', e', e1, _⟩
              · refine sound_pure (v' := lkV ok z false) hr ?_ (lkV_ok z1)
                have hfk : (Instr.findKey kt kv es'.toList).run P w = .ok none w := by rw [findKey_S hT hu]; exact e2
                have hcc := hc es'.isEmpty 9998 w
                cases ok <;> simp [execOp, h, Instr.lookup, run_underlying hM, em, ek, hg, hcc, hfk, z2 w, lkV]
              · cases e1
            · cases hf2
          · cases hf2
        · cases hf2
      · cases hf2
    · cases hf
  · cases hf
def updS (T : Cx) (H : Hp) (kt : TypeId) (kv v : Value) (b : Nat) : Option Hp := match H.b.get b with
  | some (.map es clock) => (match findS T kt kv es 0 with
    | some (some r) => ite' (Instr.sameBits 10000 r.2.key kv) (some ⟨H.b.put b (some (.map (modA kv v es r.1) clock)), H.next⟩) none
    | some none => some ⟨H.b.put b (some (.map (List.append es [⟨kv, v, clock⟩]) (Nat.succ clock))), H.next⟩
    | none => none)
  | _ => none
def o_mapUpdateS (t : TypeId) (m k x : Operand) : OpF := fun T A H => match T.und t with
  | some (.map kt et) => (match ev A k with
    | some kv => (match ev A x with
      | some v => (match ev A m with
        | some (.map (some b)) => ite' (keyS T kt kv) (match updS T H kt kv v b with
          | some H' => some (undef, H')
          | none => none) none
        | _ => none)
      | none => none)
    | none => none)
  | _ => none
theorem mapUpdateS_ok {P : Program} {T : Cx} (hT : Fits P T) {o : Oper} {t : TypeId} {m k x : Operand} (h : o.op = .mapUpdate t m k x ∨ o.op = .insert t m k x) : Sound ds P T o (o_mapUpdateS t m k x) := fun A H v H' hf E a w ha hr => by
  unfold o_mapUpdateS at hf
  split at hf
  · rename_i kt et hm
    split at hf
    · rename_i kv hk
      split at hf
      · rename_i u hx
        split at hf
        · rename_i b hmv
          obtain ⟨hko, hf1⟩ := ite'_some hf
          clear hf
          split at hf1
          · rename_i H1 hu
            cases hf1
            obtain ⟨fs, cs, hfs, hkv, hpl, hc0⟩ := keyS_ok (P := P) hT hko
            have hko2 : constOk kv = true := by rw [hkv]; exact hpl
            have ek : a.eval k = kv := agg_eq hko2 (ev_ok ha hk)
            have hM := hT.und hm
            have hc := hc0 false 9998 w
            have hv := ev_ok ha hx
            obtain ⟨hlt, em⟩ := (ev_ok ha hmv).mp
            unfold updS at hu
            split at hu
            · rename_i es clock hb
              obtain ⟨es', b1, b2⟩ := hr.rel _ _ hb
              have hg := MapKept.run_getObj_map (P := P) b1
              have hset : ∀ o2, ({ w with heap := w.heap.setIfInBounds (E.s b) o2 } : World).heap[E.s b]? = some o2 ∧ ∀ r', r' ≠ E.s b → ({ w with heap := w.heap.setIfInBounds (E.s b) o2 } : World).heap[r']? = w.heap[r']? := fun o2 => MapKept.heap_set b1
              split at hu
              · rename_i r hfa
                obtain ⟨hsb, hu⟩ := ite'_some hu
                cases hu
                rcases findS_ok (P := P) hT hko2 w 0 hfa b2 with ⟨e1, _⟩ | ⟨j, u1, u', e', e1, e2, e3, e4, e5⟩
                · cases e1
                · cases e1
                  have e4' : es'[0 + j]? = some e' := by rw [Nat.zero_add]; simpa using e4
                  have hsb2 : Instr.sameBits 10000 e'.key kv = true := by rw [e5]; exact hsb
                  obtain ⟨J, hJ⟩ : ∃ J, J = 0 + j := ⟨_, rfl⟩
                  rw [← hJ] at e2 e4' ⊢
                  have hfk : (Instr.findKey kt kv es'.toList).run P w = .ok (some (J, u')) w := by rw [findKey_S hT hfs]; exact e2
                  have hks : (Instr.keyThatStays e'.key kv).run P w = .ok kv w := by simp [Instr.keyThatStays, hsb2]
                  have hso := MapKept.run_setObj_map (P := P) (.map (es'.modify J fun e => { e with key := kv, val := a.eval x }) clock) b1
                  obtain ⟨s1, s2⟩ := hset (.map (es'.modify J fun e => { e with key := kv, val := a.eval x }) clock)
                  obtain ⟨g1, g2⟩ := hr.upd (w' := { w with heap := w.heap.setIfInBounds (E.s b) (.map (es'.modify J fun e => { e with key := kv, val := a.eval x }) clock) }) (x1 := .map (modA kv u es J) clock) hb
                    ⟨_, s1, by rw [Array.toList_modify]; exact modA_ok hko2 hv J b2⟩ s2 rfl rfl rfl (by simp) rfl
                  refine ⟨E, undef, _, _, ?_, .inr ⟨rfl, rfl⟩, g2, VR.undef, g1⟩
                  rcases h with h | h <;> simp [execOp, h, Instr.mapUpdate, run_underlying hM, em, ek, hg, hc, hfk, e4', hks, hso]
              · rename_i hfa
                cases hu
                rcases findS_ok (P := P) hT hko2 w 0 hfa b2 with ⟨_, e2⟩ | ⟨j, u1, u', e', e1, _⟩
                · have hfk : (Instr.findKey kt kv es'.toList).run P w = .ok none w := by rw [findKey_S hT hfs]; exact e2
                  have hso := MapKept.run_setObj_map (P := P) (.map (es'.push { key := kv, val := a.eval x, born := clock }) (clock + 1)) b1
                  obtain ⟨s1, s2⟩ := hset (.map (es'.push { key := kv, val := a.eval x, born := clock }) (clock + 1))
                  obtain ⟨g1, g2⟩ := hr.upd (w' := { w with heap := w.heap.setIfInBounds (E.s b) (.map (es'.push { key := kv, val := a.eval x, born := clock }) (clock + 1)) }) (x1 := .map (List.append es [⟨kv, u, clock⟩]) (Nat.succ clock)) hb
                    ⟨_, s1, by rw [Array.toList_push]; exact ML.push hko2 hv b2⟩ s2 rfl rfl rfl (by simp) rfl
                  refine ⟨E, undef, _, _, ?_, .inr ⟨rfl, rfl⟩, g2, VR.undef, g1⟩
                  rcases h with h | h <;> simp [execOp, h, Instr.mapUpdate, run_underlying hM, em, ek, hg, hc, hfk, hso]
                · cases e1
              · cases hu
            · cases hu
          · cases hf1
        · cases hf
      · cases hf
    · cases hf
  · cases hf
theorem orF_sound {P : Program} {T : Cx} {o : Oper} {f g : OpF} (hf : Sound ds P T o f) (hg : Sound ds P T o g) : Sound ds P T o (orF f g) := fun A H v H' h E a w ha hr => by
  unfold orF at h
  cases hh : f T A H with
  | none => rw [hh] at h; exact hg A H v H' h E a w ha hr
  | some r => rw [hh] at h; cases h; exact hf A H _ _ hh E a w ha hr
def o_lookupX (t : TypeId) (m k : Operand) (ok : Bool) : OpF := orF (o_lookup t m k ok) (o_lookupS t m k ok)
def o_mapUpdateX (t : TypeId) (m k x : Operand) : OpF := orF (o_mapUpdate t m k x) (o_mapUpdateS t m k x)
theorem lookupX_ok {P : Program} {T : Cx} (hT : Fits P T) {o : Oper} {t : TypeId} {m k : Operand} {ok : Bool} (h : o.op = .lookup t m k ok) : Sound ds P T o (o_lookupX t m k ok) := orF_sound (lookup_ok hT h) (lookupS_ok hT h)
theorem mapUpdateX_ok {P : Program} {T : Cx} (hT : Fits P T) {o : Oper} {t : TypeId} {m k x : Operand} (h : o.op = .mapUpdate t m k x ∨ o.op = .insert t m k x) : Sound ds P T o (o_mapUpdateX t m k x) := orF_sound (mapUpdate_ok hT h) (mapUpdateS_ok hT h)
end
end Go.Proofs.YtcpghlilbohohaaGreatDoor
namespace Go.Proofs.YtcpghlilbohohaaGreatDoor
open Go Go.Lib
set_option linter.unusedVariables false
set_option linter.unusedSimpArgs false
noncomputable section
variable {ds : List Deferred}
/-! ### ranging over a text -/
def o_range (t : TypeId) (x : Operand) : OpF := fun T A H => match T.und t with
  | some .string => (match ev A x with
    | some (.string s) => some (.pointer (some ⟨H.next, 0, none⟩), H.new (.siter s 0))
    | _ => none)
  | _ => none
theorem range_ok {P : Program} {T : Cx} (hT : Fits P T) {o : Oper} {t : TypeId} {x : Operand} (h : o.op = .range t x) : Sound ds P T o (o_range t x) := fun A H v H' hf E a w ha hr => by
  unfold o_range at hf
  split at hf
  · rename_i ht
    split at hf
    · rename_i s hx
      cases hf
      obtain ⟨h1, h2⟩ := hr.new (x := .siter s 0) (o := .stringIter s 0) (k := 0) rfl
      refine ⟨_, .pointer (some ⟨w.heap.size, 0, none⟩), _, _, ?_, .inl rfl, h2, ?_, h1⟩
      · have := run_range_string (P := P) w t s (hT.und ht)
        simp [execOp, h, (ev_ok ha hx).string, this, World.iter]
      · have z := VR.ptr (E := E.add H.next w.heap.size 0) (N := H.next + 1) (o := 0) (Nat.lt_succ_self H.next)
        rw [show (E.add H.next w.heap.size 0).s H.next = w.heap.size by simp [Env.add]] at z
        exact z
    · cases hf
  · cases hf
def decF (s : ByteArray) (pos : Nat) : Nat × Nat := match s.data.toList[pos]? with
  | some b => ite' (Nat.ble (Nat.succ b.toNat) 128) (b.toNat, 1) (Utf8.decode s pos)
  | none => Utf8.decode s pos
theorem decF_eq (s : ByteArray) (pos : Nat) : decF s pos = Utf8.decode s pos := by
  unfold decF
  split
  · rename_i b hb
    cases hq : Nat.ble (Nat.succ b.toNat) 128 with
    | false => rfl
    | true =>
      have hlt := Nat.le_of_ble_eq_true hq
      have hb2 : s.data[pos]? = some b := by rw [← Array.getElem?_toList]; exact hb
      obtain ⟨hp, e⟩ := Array.getElem?_eq_some_iff.1 hb2
      have hp2 : pos < s.size := hp
      have e2 : s[pos]'hp2 = b := e
      rw [decode_ascii s pos hp2 (by rw [e2]; omega), e2]
  · rfl
def o_next (x : Operand) : OpF := fun _ A H => match ev A x with
  | some (.pointer (some p)) => ite' (Nat.beq p.off 0) (match H.b.get p.block with
    | some (.siter s pos) => ite' (Nat.ble (Nat.succ pos) s.data.toList.length)
        (some (.tuple #[.bool true, .int .i64 (Int.ofNat pos), .int .i32 (Int.ofNat (decF s pos).1)], ⟨H.b.put p.block (some (.siter s (Nat.add pos (decF s pos).2))), H.next⟩))
        (some (.tuple #[.bool false], H))
    | _ => none) none
  | _ => none
theorem next_ok {P : Program} {T : Cx} {o : Oper} {x : Operand} (h : o.op = .next x true) : Sound ds P T o (o_next x) := fun A H v H' hf E a w ha hr => by
  unfold o_next at hf
  split at hf
  · rename_i p hx
    obtain ⟨h0, hf1⟩ := ite'_some hf
    clear hf
    obtain ⟨hsp, hpb, ex⟩ := (ev_ok ha hx).pptr
    have hoff := Nat.eq_of_beq_eq_true h0
    rw [hoff] at ex
    split at hf1
    · rename_i s pos hb
      have hi : w.heap[E.s p.block]? = some (.stringIter s pos) := hr.rel _ _ hb
      cases hq : Nat.ble (Nat.succ pos) s.data.toList.length with
      | true =>
        rw [hq, ite'_true] at hf1
        cases hf1
        have hlt : pos < s.size := Nat.le_of_ble_eq_true hq
        have hrun := run_next_any_at (P := P) w (E.s p.block) s pos o.type hi hlt
        obtain ⟨g1, g2⟩ := hr.upd (w' := w.iterAt (E.s p.block) s (pos + (Utf8.decode s pos).2)) (x1 := .siter s (Nat.add pos (decF s pos).2)) hb
          (by rw [decF_eq]; exact iterAt_heap w _ s pos _ hi) (fun i hne => iterAt_other w _ i s _ hne) rfl rfl rfl (by rw [iterAt_size]; exact Nat.le_refl _) rfl
        refine ⟨E, .tuple #[.bool true, .int .i64 pos, .int .i32 (Utf8.decode s pos).1], _, _, ?_, .inl rfl, g2, ?_, g1⟩
        · simp [execOp, h, ex, hrun]
        · rw [decF_eq]
          exact .tuple (l := [.bool true, .int .i64 pos, .int .i32 (Utf8.decode s pos).1]) (l' := [.bool true, .int .i64 pos, .int .i32 (Utf8.decode s pos).1]) (.cons (.same rfl) (.cons (.same rfl) (.cons (.same rfl) .nil)))
      | false =>
        rw [hq, ite'_false] at hf1
        cases hf1
        have hge : ¬ pos < s.size := by
          have := ble_false hq
          show ¬ pos < s.data.toList.length
          omega
        have hrun := run_next_end_at (P := P) w (E.s p.block) s pos o.type hi hge
        refine sound_pure (v' := .tuple #[.bool false]) hr ?_ (.tuple (l := [.bool false]) (l' := [.bool false]) (.cons (.same rfl) .nil))
        simp [execOp, h, ex, hrun]
    · cases hf1
  · cases hf
def nextD (s : Bool) (x : Operand) : OpF := match s with
  | true => o_next x
  | false => noF
end
end Go.Proofs.YtcpghlilbohohaaGreatDoor
namespace Go.Proofs.YtcpghlilbohohaaGreatDoor
open Go
set_option linter.unusedVariables false
set_option linter.unusedSimpArgs false
noncomputable section
variable {ds : List Deferred}
/-! ### a text of a row of bytes -/
def u8s (l : List Value) : Option (List Int) := List.rec (motive := fun _ => Option (List Int)) (some []) (fun v _ ih => match v with
  | .int .u8 n => (match ih with
    | some l => some (n :: l)
    | none => none)
  | _ => none) l
theorem u8s_cons (v : Value) (l : List Value) : u8s (v :: l) = (match v with
  | .int .u8 n => (match u8s l with
    | some l => some (n :: l)
    | none => none)
  | _ => none) := rfl
theorem u8s_ok {E : Env} {N : Nat} : ∀ {l l' : List Value} {xs : List Int}, u8s l = some xs → VL E N l l' → l' = xs.map (.int .u8) ∧ xs.length = l.length
  | [], _, xs, h, k => by cases h; cases k; exact ⟨rfl, rfl⟩
  | v :: l, l', xs, h, k => by
    rw [u8s_cons] at h
    split at h
    · rename_i n
      split at h
      · rename_i l2 h2
        cases h
        cases k with
        | cons hv ht =>
          obtain ⟨e1, e2⟩ := u8s_ok h2 ht
          rw [hv.int, e1]
          exact ⟨rfl, by simp [e2]⟩
      · cases h
    · cases h
def pushAll (xs : List Int) : List UInt8 := List.rec (motive := fun _ => List UInt8) [] (fun n _ ih => UInt8.ofNat n.toNat :: ih) xs
theorem pushAll_eq : ∀ xs : List Int, pushAll xs = xs.map fun n => UInt8.ofNat n.toNat
  | [] => rfl
  | n :: xs => by
    show _ :: pushAll xs = _
    rw [pushAll_eq xs]; rfl
/-- is this a conversion of bytes to a text? -/
def b2s (T : Cx) (s d : TypeId) : Bool := match T.und s with
  | some (.slice e) => (match T.und e with
    | some (.int .u8) => (match T.und d with
      | some .string => true
      | _ => false)
    | _ => false)
  | _ => false
theorem b2s_ok {P : Program} {T : Cx} (hT : Fits P T) {s d : TypeId} (h : b2s T s d = true) : ∃ e, P.underlying s = some (.slice e) ∧ P.underlying e = some (.int .u8) ∧ P.underlying d = some .string := by
  unfold b2s at h
  split at h
  · rename_i e h1
    split at h
    · rename_i h2
      split at h
      · rename_i h3; exact ⟨e, hT.und h1, hT.und h2, hT.und h3⟩
      · cases h
    · cases h
  · cases h
def textOf (l : List Value) : Option Value := match u8s l with
  | some xs => some (.string ⟨(pushAll xs).toArray⟩)
  | none => none
theorem textOf_run {P : Program} {E : Env} {N : Nat} {s d e : TypeId} (hs : P.underlying s = some (.slice e)) (he : P.underlying e = some (.int .u8)) (hd : P.underlying d = some .string) {l l' : List Value} {v : Value} (ht : textOf l = some v) (hl : VL E N l l') {b off n c : Nat} (hn : l.length = n) {w : World}
    (hc : ∀ i u, l'[i]? = some u → w.cell? ⟨b, off + i, none⟩ = some u) : (convert s d (.slice (some ⟨b, off, none⟩) n c)).run P w = .ok v w ∧ plainV v = true := by
  unfold textOf at ht
  split at ht
  · rename_i xs hx
    cases ht
    obtain ⟨e1, e2⟩ := u8s_ok hx hl
    refine ⟨?_, rfl⟩
    rw [run_convert_bytes_arg w s e hs he b off n c xs (by omega) (fun i hi => hc i _ (by
      have hix : i < xs.length := by omega
      rw [e1]; simp [List.getD, hix])) d hd]
    simp [strOfNums, pushAll_eq]
  · cases ht
def memConv (T : Cx) (H : Hp) (s d : TypeId) (x : Option Value) : Option Value := match x with
  | some (.slice none _ _) => ite' (b2s T s d) (some (.string ByteArray.empty)) none
  | some (.slice (some p) n c) => (match H.cells p.block p.off n with
    | some l => ite' (b2s T s d) (textOf l) none
    | none => none)
  | some (.chan none) => ite' (b2s T s d) (some (.string ByteArray.empty)) none
  | _ => none
/-- a text's bytes: a row that is only read (how many cells there are is not known). -/
def s2b (T : Cx) (s d : TypeId) : Bool := match T.und s with
  | some .string => (match T.und d with
    | some (.slice e) => (match T.und e with
      | some (.int .u8) => true
      | _ => false)
    | _ => false)
  | _ => false
def o_bytesOf (s d : TypeId) (x : Operand) : OpF := fun T A H => match ev A x with
  | some (.string b) => ite' (s2b T s d) (some (.slice (some ⟨H.next, 0, none⟩) b.data.toList.length (Nat.succ OPN), H.new (.rom (Tr.lay (byteCells b.data.toList) 0 .nil)))) none
  | _ => none
def convOr (s d : TypeId) (x : Operand) (T : Cx) (A : AA) (H : Hp) (r : Option (Value × Hp)) : Option (Value × Hp) := match r with
  | some r => some r
  | none => o_bytesOf s d x T A H
def o_convM (s d : TypeId) (x : Operand) : OpF := fun T A H => match memConv T H s d (ev A x) with
  | some v => some (v, H)
  | none => convOr s d x T A H (o_conv s d x T A H)
theorem bytesOf_ok {P : Program} {T : Cx} (hT : Fits P T) {o : Oper} {s d : TypeId} {x : Operand} (h : o.op = .convert s d x) : Sound ds P T o (o_bytesOf s d x) := fun A H v H' hf E a w ha hr => by
  unfold o_bytesOf at hf
  split at hf
  · rename_i b hx
    obtain ⟨h1, h2⟩ := ite'_some hf
    cases h2
    unfold s2b at h1
    split at h1
    · rename_i hs
      split at h1
      · rename_i e hd
        split at h1
        · rename_i he
          have e1 := (ev_ok ha hx).string
          have hrun := run_bytes_of_string (P := P) w s d e b (hT.und hs) (hT.und hd) (hT.und he)
          have hsz : b.size = b.data.toList.length := by rw [Array.length_toList]; rfl
          obtain ⟨C, hC⟩ : ∃ C, bytesRow b (grownCap w b.size 0 e) = C := ⟨_, rfl⟩
          rw [hC] at hrun
          have hat : ∀ i v, (byteCells b.data.toList)[i]? = some v → ∃ v', C[i]? = some v' ∧ VR (E.add H.next w.heap.size (grownCap w b.size 0 e)) (H.next + 1) v v' := fun i v hv => by
            rw [byteCells_eq] at hv
            rw [List.getElem?_map] at hv
            obtain ⟨u, hu, rfl⟩ := Option.map_eq_some_iff.1 hv
            obtain ⟨hi, hu2⟩ := List.getElem?_eq_some_iff.1 hu
            have hi2 : i < b.data.size := by simpa using hi
            refine ⟨_, by rw [← hC]; exact bytesRow_at b _ i hi2, ?_⟩
            have : b.data[i] = u := by rw [← hu2]; simp
            rw [this]; exact .same rfl
          have hn := HRel.new (hr.heap (w' := w.drew) rfl) (x := .rom (Tr.lay (byteCells b.data.toList) 0 .nil)) (o := .cells C e (C.size, C.size + 1)) (k := grownCap w b.size 0 e) ⟨C, e, _, rfl, fun i v hv => by
            rw [Tr.get_lay] at hv
            split at hv
            · exact hat i v (by simpa using hv)
            · cases hv⟩
          obtain ⟨n1, n2⟩ := hn
          refine ⟨_, .slice (some ⟨w.heap.size, 0, none⟩) b.size (grownCap w b.size 0 e), _, _, ?_, .inl rfl, ⟨n2.le, n2.ag, n2.dom, n2.os, n2.tape, n2.output, n2.size, n2.frame⟩, ?_, n1⟩
          · simp [execOp, h, e1, hrun]
          · rw [hsz]
            have hh : (E.add H.next w.heap.size (grownCap w b.data.toList.length 0 e)).s H.next = w.heap.size := by simp [Env.add]
            rw [← hh]
            refine .open_ (Nat.lt_succ_self _) (Nat.lt_succ_self _) ?_ ?_
            · rw [← hsz]; exact grownCap_ge _ _ _ _
            · simp [Env.add, OPN]
        · cases h1
      · cases h1
    · cases h1
  · cases hf
theorem memConv_ok {P : Program} {T : Cx} (hT : Fits P T) {E : Env} {A : AA} {a : Act} {H : Hp} {w : World} (ha : AR ds E H.next A a) (hr : HRel E H w) {s d : TypeId} {x : Operand} {v : Value} (h : memConv T H s d (ev A x) = some v) : (convert s d (a.eval x)).run P w = .ok v w ∧ plainV v = true := by
  unfold memConv at h
  split at h
  · rename_i l c hx
    obtain ⟨hb, h⟩ := ite'_some h
    cases h
    obtain ⟨e, h1, h2, h3⟩ := b2s_ok hT hb
    obtain ⟨_, _, e1⟩ := (ev_ok ha hx).snil
    rw [e1]
    exact ⟨run_convert_bytes_nil w s e h1 h2 0 0 d h3, rfl⟩
  · rename_i p n c hx
    split at h
    · rename_i l hl
      obtain ⟨hb, h⟩ := ite'_some h
      obtain ⟨e, h1, h2, h3⟩ := b2s_ok hT hb
      obtain ⟨_, hpb, c', e1, _⟩ := (ev_ok ha hx).sl
      obtain ⟨hn, l', r, hc⟩ := hr.cells hl
      rw [e1]
      exact textOf_run h1 h2 h3 h r hn (fun i u hu => by
        rw [hc i (by have := (List.getElem?_eq_some_iff.1 hu).1; rw [← r.length, hn] at this; exact this)]; exact hu)
    · cases h
  · rename_i hx
    obtain ⟨hb, h⟩ := ite'_some h
    cases h
    obtain ⟨e, h1, h2, h3⟩ := b2s_ok hT hb
    obtain ⟨⟨qb, qo, qs⟩, c, e1⟩ := (ev_ok ha hx).tl
    rw [e1]
    refine ⟨?_, rfl⟩
    have hl : (loadCells ⟨qb, qo, qs⟩ 0).run P w = .ok (([] : List Int).map (Value.int .u8)).toArray w := run_loadCells_list (P := P) w ⟨qb, qo, qs⟩ [] (fun j v hj => by simp at hj)
    rw [run_convert_bytes_string w s d e _ 0 c h1 h2 h3, run_bytesToString w _ 0 c [] hl]
    rfl
  · cases h
theorem convM_ok {P : Program} {T : Cx} (hT : Fits P T) {o : Oper} {s d : TypeId} {x : Operand} (h : o.op = .convert s d x) : Sound ds P T o (o_convM s d x) := fun A H v H' hf E a w ha hr => by
  unfold o_convM at hf
  split at hf
  · rename_i u hu
    cases hf
    obtain ⟨h1, h2⟩ := memConv_ok (P := P) hT ha hr hu
    exact sound_pure hr (by simp [execOp, h, h1]) (.same h2)
  · unfold convOr at hf
    split at hf
    · rename_i r hc
      cases hf
      exact (SoundP.sound (conv_ok hT h)) A H _ _ hc E a w ha hr
    · exact bytesOf_ok hT h A H v H' hf E a w ha hr
/-! ### all operations -/
def o_pick2 (mx : Bool) (x y : Operand) : OpF := fun _ A H => match ev A x with
  | some (.int k a) => (match ev A y with
    | some (.int _ b) => some (.int k (ite' (ite' mx (ltF a b) (ltF b a)) b a), H)
    | _ => none)
  | _ => none
theorem min2_ok {P : Program} {T : Cx} {o : Oper} {x y : Operand} {tys : Array TypeId} (h : o.op = .call ⟨.builtin .min, #[x, y], tys⟩) : SoundP ds P T o (o_pick2 false x y) := fun A H v H' hf E a ha => by
  unfold o_pick2 at hf
  split at hf
  · rename_i k p hx
    split at hf
    · rename_i k2 q hy
      cases hf
      refine pure_ok (v' := .int k (if q < p then q else p)) (fun w => ?_) ?_
      · simp [execOp, h, resolve, invoke, builtin, (ev_ok ha hx).int, (ev_ok ha hy).int, Builtin.min_, Builtin.min2, Builtin.max_, Builtin.max2]
      · have : ite' (ite' false (ltF p q) (ltF q p)) q p = if q < p then q else p := by
          show ite' (ltF q p) q p = _
          rw [ltF_eq]
          by_cases hq : q < p <;> simp [hq]
        rw [this]; exact .same rfl
    · cases hf
  · cases hf
theorem max2_ok {P : Program} {T : Cx} {o : Oper} {x y : Operand} {tys : Array TypeId} (h : o.op = .call ⟨.builtin .max, #[x, y], tys⟩) : SoundP ds P T o (o_pick2 true x y) := fun A H v H' hf E a ha => by
  unfold o_pick2 at hf
  split at hf
  · rename_i k p hx
    split at hf
    · rename_i k2 q hy
      cases hf
      refine pure_ok (v' := .int k (if q > p then q else p)) (fun w => ?_) ?_
      · simp [execOp, h, resolve, invoke, builtin, (ev_ok ha hx).int, (ev_ok ha hy).int, Builtin.min_, Builtin.min2, Builtin.max_, Builtin.max2]
      · have : ite' (ite' true (ltF p q) (ltF q p)) q p = if q > p then q else p := by
          show ite' (ltF p q) q p = _
          rw [ltF_eq]
          by_cases hq : p < q <;> simp [hq]
        rw [this]; exact .same rfl
    · cases hf
  · cases hf
def o_field (s : TypeId) (x : Operand) (f : Nat) : OpF := fun T A H => match ev A x with
  | some (.agg xs) => (match T.und s with
    | some (.struct fs) => (match fs.toList[f]? with
      | some fd => withH (partA T fd.type xs.toList fd.offset) H
      | none => none)
    | _ => none)
  | _ => none
theorem field_ok {P : Program} {T : Cx} (hT : Fits P T) {o : Oper} {s : TypeId} {x : Operand} {f : Nat} (h : o.op = .field s x f) : SoundP ds P T o (o_field s x f) := fun A H v H' hf E a ha => by
  unfold o_field at hf
  split at hf
  · rename_i xs hx
    split at hf
    · rename_i fs hfs
      split at hf
      · rename_i fd hfd
        obtain ⟨h1, e0⟩ := withH_some hf
        subst e0
        obtain ⟨l', e1, r1⟩ := (ev_ok ha hx).ag
        obtain ⟨v', r, hrun⟩ := partA_ok (P := P) hT h1 r1
        have hfd2 : fs[f]? = some fd := by simpa using hfd
        refine pure_ok (v' := v') (fun w => ?_) r
        simp [execOp, h, Instr.field, run_underlying (hT.und hfs), hfd2, asAgg, e1, hrun w]
      · cases hf
    · cases hf
  · cases hf
def mmD (mx : Bool) (args : List Operand) : OpF := match args with
  | [x, y] => o_pick2 mx x y
  | _ => noF
def callE (c : Call) : OpF := match c.callee with
  | .builtin .min => mmD false c.args.toList
  | .builtin .max => mmD true c.args.toList
  | _ => callD c
theorem callE_ok {P : Program} {T : Cx} (hT : Fits P T) {o : Oper} {c : Call} (h : o.op = .call c) : Sound ds P T o (callE c) := by
  unfold callE
  split
  · rename_i hc
    obtain ⟨callee, ⟨args⟩, tys⟩ := c
    simp only at hc; subst hc
    show Sound ds P T o (mmD false args)
    unfold mmD
    split
    · exact (SoundP.sound (min2_ok h))
    · exact (SoundP.sound noF_ok)
  · rename_i hc
    obtain ⟨callee, ⟨args⟩, tys⟩ := c
    simp only at hc; subst hc
    show Sound ds P T o (mmD true args)
    unfold mmD
    split
    · exact (SoundP.sound (max2_ok h))
    · exact (SoundP.sound noF_ok)
  · have := opD_ok (ds := ds) (P := P) hT (o := o); rw [h] at this; exact this
/-! ### a new slice of one-cell elements -/
def repl (u : Value) (n : Nat) : List Value := Nat.rec (motive := fun _ => List Value) [] (fun _ ih => u :: ih) n
theorem repl_eq (u : Value) : ∀ n, repl u n = List.replicate n u
  | 0 => rfl
  | n + 1 => by
    show u :: repl u n = _
    rw [repl_eq u n]; rfl
theorem repl_vl {E : Env} {N : Nat} {u : Value} (h : plainV u = true) : ∀ n, VL E N (repl u n) (repl u n)
  | 0 => .nil
  | n + 1 => .cons (.same h) (repl_vl h n)
def mkSl (T : Cx) (H : Hp) (e : TypeId) (n m : Nat) : Option (Value × Hp) := match T.ty.get e with
  | some i => (match i.zero with
    | some z => (match z.cells.toList with
      | [u] => ite' (plainV u) (ite' (Nat.beq i.size 1) (ite' (Nat.ble n m) (ite' (Nat.ble m 1000000000) (ite' (Nat.ble (Nat.mul i.bytes m) 281474976710656) (some (.slice (some ⟨H.next, 0, none⟩) n m, newRowB H e (repl u m))) none) none) none) none) none
      | _ => none)
    | none => none)
  | none => none
def o_makeSlice (t : TypeId) (l c : Operand) : OpF := fun T A H => match T.und t with
  | some (.slice e) => (match ev A l with
    | some (.int _ (.ofNat n)) => (match ev A c with
      | some (.int _ (.ofNat m)) => mkSl T H e n m
      | _ => none)
    | _ => none)
  | _ => none
theorem makeSlice_ok {P : Program} {T : Cx} (hT : Fits P T) {o : Oper} {t : TypeId} {l c : Operand} (h : o.op = .makeSlice t l c) : Sound ds P T o (o_makeSlice t l c) := fun A H v H' hf E a w ha hr => by
  unfold o_makeSlice at hf
  split at hf
  · rename_i e ht
    split at hf
    · rename_i kl n hl
      split at hf
      · rename_i kc m hc
        unfold mkSl at hf
        split at hf
        · rename_i i hi
          split at hf
          · rename_i z hz
            split at hf
            · rename_i u hu
              obtain ⟨h1, f1⟩ := ite'_some hf
              obtain ⟨h2, f2⟩ := ite'_some f1
              obtain ⟨h3, f3⟩ := ite'_some f2
              obtain ⟨h4, f4⟩ := ite'_some f3
              obtain ⟨h5, f5⟩ := ite'_some f4
              cases f5
              have e2 := Nat.eq_of_beq_eq_true h2
              have e3 := Nat.le_of_ble_eq_true h3
              have e4 := Nat.le_of_ble_eq_true h4
              have e5 : i.bytes * m ≤ 281474976710656 := Nat.le_of_ble_eq_true h5
              have hrun := run_make (P := P) (w := w) t e i z (hT.und ht) (hT.ty e i hi) hz kl kc (Int.ofNat n) (Int.ofNat m) (by simp) (by simpa using e3) (by show (i.bytes : Int) * (m : Int) ≤ _; rw [← Int.natCast_mul]; omega) (by simp; omega)
              have hcell : madeCells z.cells ((Int.ofNat m).toNat * i.size) = (repl u m).toArray := by
                rw [e2, repl_eq]
                have hz2 : z.cells = #[u] := Array.toList_inj.1 (by simpa using hu)
                rw [hz2]
                apply Array.ext
                · simp [madeCells]
                · intro j h1 h2
                  simp [madeCells, Nat.mod_one]
              rw [hcell] at hrun
              obtain ⟨g1, g2, g3⟩ := newRow_ok hr (repl_vl (E := E) (N := H.next) h1 m) e
              have hrun2 : (Instr.makeSlice t (.int kl (n : Int)) (.int kc (m : Int))).run P w = .ok (.slice (some ⟨w.heap.size, 0, none⟩) n m) (w.alloc (.cells (repl u m).toArray e)) := hrun
              have e6 : a.eval l = .int kl (n : Int) := (ev_ok ha hl).int
              have e7 : a.eval c = .int kc (m : Int) := (ev_ok ha hc).int
              refine ⟨_, .slice (some ⟨w.heap.size, 0, none⟩) n m, _, _, ?_, .inl rfl, g2, new_slice g3 n m (by show m < 9223372036854775808; omega), g1⟩
              simp [execOp, h, e6, e7, hrun2]
            · cases hf
          · cases hf
        · cases hf
      · cases hf
    · cases hf
  · cases hf
def mkMapD (r : Option Operand) : OpF := match r with
  | none => o_makeMap
  | some _ => noF
def opE (o : Op) : OpF := match o with
  | .convert s d x => o_convM s d x
  | .call c => callE c
  | .field s x f => o_field s x f
  | .lookup t m k ok => o_lookupX t m k ok
  | .mapUpdate t m k x => o_mapUpdateX t m k x
  | .insert t m k x => o_mapUpdateX t m k x
  | .makeMap t r => mkMapD r
  | .range t x => o_range t x
  | .makeSlice t l c => o_makeSlice t l c
  | .next x s => nextD s x
  | o => opD o
theorem opE_ok {P : Program} {T : Cx} (hT : Fits P T) {o : Oper} : Sound ds P T o (opE o.op) := by
  cases ho : o.op with
  | convert s d x => exact convM_ok hT ho
  | call c => exact callE_ok hT ho
  | field s x f => exact (SoundP.sound (field_ok hT ho))
  | lookup t m k ok => exact lookupX_ok hT ho
  | mapUpdate t m k x => exact mapUpdateX_ok hT (.inl ho)
  | insert t m k x => exact mapUpdateX_ok hT (.inr ho)
  | range t x => exact range_ok hT ho
  | makeSlice t l c => exact makeSlice_ok hT ho
  | next x s =>
    cases s with
    | true => exact next_ok ho
    | false => exact (SoundP.sound noF_ok)
  | makeMap t r =>
    show Sound ds P T o (mkMapD r)
    unfold mkMapD
    split
    · exact makeMap_ok ho
    · exact (SoundP.sound noF_ok)
  | _ => rw [← ho]; have := opD_ok (ds := ds) (P := P) hT (o := o); rw [ho] at this ⊢; exact this
end
end Go.Proofs.YtcpghlilbohohaaGreatDoor
namespace Go.Proofs.YtcpghlilbohohaaGreatDoor
open Go
set_option linter.unusedVariables false
set_option linter.unusedSimpArgs false
noncomputable section
variable {ds : List Deferred}
/-! ### new slices of any elements -/
def cyc (zl : List Value) (m : Nat) : List Value := Nat.rec (motive := fun _ => List Value) [] (fun _ ih => List.append zl ih) m
theorem cyc_vl {E : Env} {N : Nat} {zl : List Value} (h : plainL zl = true) : ∀ m, VL E N (cyc zl m) (cyc zl m)
  | 0 => .nil
  | m + 1 => (plainL_ok h).append (cyc_vl h m)
theorem cyc_len (zl : List Value) : ∀ m, (cyc zl m).length = m * zl.length
  | 0 => by show 0 = _; omega
  | m + 1 => by
    show (zl ++ cyc zl m).length = _
    rw [List.length_append, cyc_len zl m, Nat.succ_mul]; omega
theorem cyc_get (zl : List Value) : ∀ m j, j < m * zl.length → (cyc zl m)[j]? = zl[j % zl.length]?
  | 0, j, h => by omega
  | m + 1, j, h => by
    show (zl ++ cyc zl m)[j]? = _
    by_cases hj : j < zl.length
    · rw [List.getElem?_append_left hj, Nat.mod_eq_of_lt hj]
    · rw [List.getElem?_append_right (by omega), cyc_get zl m _ (by rw [Nat.succ_mul] at h; omega), ← Nat.mod_eq_sub_mod (by omega)]
theorem cyc_made (z : Array Value) (m : Nat) : madeCells z (m * z.size) = (cyc z.toList m).toArray := by
  have hl := cyc_len z.toList m
  apply Array.ext
  · simp [madeCells, hl]
  · intro j h1 h2
    have hj : j < m * z.size := by simpa [madeCells] using h1
    have hz : 0 < z.size := by
      rcases Nat.eq_zero_or_pos z.size with h0 | h0
      · rw [h0] at hj; omega
      · exact h0
    have hg := cyc_get z.toList m j (by simpa using hj)
    have hm : j % z.size < z.size := Nat.mod_lt _ hz
    have e1 : (madeCells z (m * z.size))[j] = z[j % z.size] := by simp [madeCells, hm]
    rw [e1]
    have h3 : (cyc z.toList m)[j]? = some z[j % z.size] := by rw [hg]; simp [hm]
    have h4 : j < (cyc z.toList m).length := by simpa using h2
    rw [List.getElem?_eq_getElem h4] at h3
    simpa using (Option.some.inj h3).symm
theorem app_zeros {P : Program} {w : World} {t tx ty e : TypeId} {i : TypeInfo} {z : Value} {n : Nat} {k kk : IntKind} (ht : P.underlying t = some (.slice e)) (hk : P.underlying tx = some (.int kk)) (hi : P.info? e = some i) (hz : i.zero = some z) (hsz : i.size ≠ 0) (h0 : 0 < n) (h63 : (n : Int) ≤ 1000000000) (h48 : n * i.bytes ≤ 281474976710656) :
    (Builtin.append_ #[t, tx] ty #[.slice none 0 0, .int k n]).run P w = .ok (.slice (some ⟨w.heap.size, 0, none⟩) n (grownCap w n 0 e)) (w.drew.alloc (.cells (Builtin.zeroCells z.cells n ++ Builtin.zeroCells z.cells (grownCap w n 0 e - n)) e)) := by
  have hn : n ≠ 0 := by omega
  have h63' : ¬ (9223372036854775807 < (n : Int)) := by omega
  have h48' : ¬ (281474976710656 < Builtin.nextslicecap n 0 * i.bytes) := by rw [nextslicecap_zero h0]; omega
  have wl : IntKind.i64.wrap (n : Int) = n := by rw [IntKind.wrap_i64]; omega
  have hb : ¬ (281474976710656 < (n : Int) * (i.bytes : Int)) := by rw [← Int.natCast_mul]; omega
  have hns : ¬ (n * i.size = 0) := fun h => by rcases Nat.mul_eq_zero.1 h with h | h <;> contradiction
  have h4 : ¬ ((n : Int) < 0) := by omega
  have h5 : ¬ ((n : Int) ≤ 0) := by omega
  have h6 : max (n : Int) 0 = n := by omega
  simp [Builtin.append_, run_underlying ht, run_underlying hk, sizeOf, typeInfo, zeroValue, hi, hz, hn, h63', h48', Question.forced, run_firstCells_none, newRow, grownCap, wl, hb, hns, asInt, asIntOf, h4, h5, h6]

def mkSlG (T : Cx) (H : Hp) (e : TypeId) (n m : Nat) : Option (Value × Hp) := match T.ty.get e with
  | some i => (match i.zero with
    | some z => ite' (plainL z.cells.toList) (ite' (Nat.beq i.size z.cells.toList.length) (ite' (Nat.ble n m) (ite' (Nat.ble m 1000000000) (ite' (Nat.ble (Nat.mul i.bytes m) 281474976710656) (some (.slice (some ⟨H.next, 0, none⟩) n m, newRowB H e (cyc z.cells.toList m))) none) none) none) none) none
    | none => none)
  | none => none
def o_mkSliceG (t : TypeId) (l c : Operand) : OpF := fun T A H => match T.und t with
  | some (.slice e) => (match ev A l with
    | some (.int _ (.ofNat n)) => (match ev A c with
      | some (.int _ (.ofNat m)) => mkSlG T H e n m
      | _ => none)
    | _ => none)
  | _ => none
theorem mkSliceG_ok {P : Program} {T : Cx} (hT : Fits P T) {o : Oper} {t : TypeId} {l c : Operand} (h : o.op = .makeSlice t l c) : Sound ds P T o (o_mkSliceG t l c) := fun A H v H' hf E a w ha hr => by
  unfold o_mkSliceG at hf
  split at hf
  · rename_i e ht
    split at hf
    · rename_i kl n hl
      split at hf
      · rename_i kc m hc
        unfold mkSlG at hf
        split at hf
        · rename_i i hi
          split at hf
          · rename_i z hz
            obtain ⟨h1, f1⟩ := ite'_some hf
            obtain ⟨h2, f2⟩ := ite'_some f1
            obtain ⟨h3, f3⟩ := ite'_some f2
            obtain ⟨h4, f4⟩ := ite'_some f3
            obtain ⟨h5, f5⟩ := ite'_some f4
            cases f5
            have e2 : i.size = z.cells.size := by have := Nat.eq_of_beq_eq_true h2; simpa using this
            have e3 := Nat.le_of_ble_eq_true h3
            have e4 := Nat.le_of_ble_eq_true h4
            have e5 : i.bytes * m ≤ 281474976710656 := Nat.le_of_ble_eq_true h5
            have hrun := run_make (P := P) (w := w) t e i z (hT.und ht) (hT.ty e i hi) hz kl kc (Int.ofNat n) (Int.ofNat m) (by simp) (by simpa using e3) (by show (i.bytes : Int) * (m : Int) ≤ _; rw [← Int.natCast_mul]; omega) (by simp; omega)
            have hcell : madeCells z.cells ((Int.ofNat m).toNat * i.size) = (cyc z.cells.toList m).toArray := by rw [e2]; exact cyc_made z.cells m
            rw [hcell] at hrun
            obtain ⟨g1, g2, g3⟩ := newRow_ok hr (cyc_vl (E := E) (N := H.next) h1 m) e
            have hrun2 : (Instr.makeSlice t (.int kl (n : Int)) (.int kc (m : Int))).run P w = .ok (.slice (some ⟨w.heap.size, 0, none⟩) n m) (w.alloc (.cells (cyc z.cells.toList m).toArray e)) := hrun
            have e6 : a.eval l = .int kl (n : Int) := (ev_ok ha hl).int
            have e7 : a.eval c = .int kc (m : Int) := (ev_ok ha hc).int
            refine ⟨_, .slice (some ⟨w.heap.size, 0, none⟩) n m, _, _, ?_, .inl rfl, g2, new_slice g3 n m (by show m < 9223372036854775808; omega), g1⟩
            simp [execOp, h, e6, e7, hrun2]
          · cases hf
        · cases hf
      · cases hf
    · cases hf
  · cases hf
/-! ### a slice's room -/
def o_cap (t : TypeId) (x : Operand) : OpF := fun T A H => match T.und t with
  | some (.slice _) => (match ev A x with
    | some (.slice none _ _) => some (.int .i64 0, H)
    | some (.slice (some p) _ c) => ite' (Nat.ble (Nat.succ c) OPN) (some (.int .i64 (Int.ofNat c), H)) none
    | _ => none)
  | _ => none
theorem cap_ok {P : Program} {T : Cx} (hT : Fits P T) {o : Oper} {t : TypeId} {x : Operand} (h : o.op = .call ⟨.builtin .cap, #[x], #[t]⟩) : SoundP ds P T o (o_cap t x) := fun A H v H' hf E a ha => by
  unfold o_cap at hf
  split at hf
  · rename_i e ht
    split at hf
    · rename_i l c hx
      cases hf
      obtain ⟨_, _, e1⟩ := (ev_ok ha hx).snil
      refine pure_ok (v' := .int .i64 0) (fun w => ?_) (.same rfl)
      simp [execOp, h, resolve, invoke, builtin, Builtin.cap_, run_underlying (hT.und ht), e1, goInt]
    · rename_i p l c hx
      obtain ⟨h1, h2⟩ := ite'_some hf
      cases h2
      have hlt : c < OPN := Nat.le_of_ble_eq_true h1
      obtain ⟨_, _, c', e1, hc⟩ := (ev_ok ha hx).sl
      have e2 : c' = c := by
        rcases hc with z | z
        · exact z.2
        · omega
      subst e2
      refine pure_ok (v' := .int .i64 (Int.ofNat c')) (fun w => ?_) (.same rfl)
      simp [execOp, h, resolve, invoke, builtin, Builtin.cap_, run_underlying (hT.und ht), e1, goInt]
    · cases hf
  · cases hf
/-! ### elements go over -/
theorem copy_run {P : Program} {w w' : World} {t t2 ty e : TypeId} {i : TypeInfo} {b : Addr} {s : Option Addr} {dl dc sl sc n : Nat} {news : List Value} (ht : P.underlying t = some (.slice e)) (hi : P.info? e = some i) (hn : n = Nat.min sl dl) (hf : (Builtin.firstCells i.size n (.slice s sl sc)).run P w = .ok news.toArray w) (hst : (storeCells b news).run P w = .ok () w') :
    (Builtin.copy_ #[t, t2] ty #[.slice (some b) dl dc, .slice s sl sc]).run P w = .ok (.int .i64 n) w' := by
  subst hn
  simp [Builtin.copy_, run_underlying ht, Builtin.lenOf, sizeOf, typeInfo, hi, hf, hst, goInt]
def copyA (H : Hp) (size : Nat) (p q : Addr) (n : Nat) : Option (Value × Hp) := match H.cells q.block q.off (Nat.mul n size) with
  | some l => ite' (allOne l) (match Hp.storeAll l H p.block p.off with
    | some H' => some (.int .i64 (Int.ofNat n), H')
    | none => none) none
  | none => none
def o_copy (t : TypeId) (x y : Operand) : OpF := fun T A H => match T.und t with
  | some (.slice e) => (match T.ty.get e with
    | some i => (match ev A x with
      | some (.slice (some p) dl _) => (match ev A y with
        | some (.slice (some q) sl _) => copyA H i.size p q (Nat.min sl dl)
        | _ => none)
      | _ => none)
    | none => none)
  | _ => none
theorem copy_ok {P : Program} {T : Cx} (hT : Fits P T) {o : Oper} {t t2 : TypeId} {x y : Operand} (h : o.op = .call ⟨.builtin .copy, #[x, y], #[t, t2]⟩) : Sound ds P T o (o_copy t x y) := fun A H v H' hf E a w ha hr => by
  unfold o_copy at hf
  split at hf
  · rename_i e ht
    split at hf
    · rename_i i hi
      split at hf
      · rename_i p dl dc hx
        split at hf
        · rename_i q sl sc hy
          unfold copyA at hf
          split at hf
          · rename_i l hl
            obtain ⟨h1, h2⟩ := ite'_some hf
            split at h2
            · rename_i H1 hst
              cases h2
              obtain ⟨_, _, dc', e1, _⟩ := (ev_ok ha hx).sl
              obtain ⟨_, _, sc', e2, _⟩ := (ev_ok ha hy).sl
              obtain ⟨hn, l', r1, hc⟩ := hr.cells hl
              have hl' : l'.length = Nat.min sl dl * i.size := by rw [← r1.length]; exact hn
              obtain ⟨w', e3, r3, g3, n3⟩ := storeAll_ok (P := P) (off := p.off) 0 (by simpa using hst) r1 h1 hr
              have hfc := run_firstCells_some (P := P) w i.size (Nat.min sl dl) ⟨E.s q.block, q.off, none⟩ sl sc' l' hl' (fun j u hu => by
                rw [add_plain', hc j (by have := (List.getElem?_eq_some_iff.1 hu).1; rw [hl'] at this; exact this)]; exact hu)
              have hrun := copy_run (P := P) (t2 := t2) (ty := o.type) (dl := dl) (dc := dc') (hT.und ht) (hT.ty e i hi) rfl hfc e3
              refine ⟨E, .int .i64 (Int.ofNat (Nat.min sl dl)), w', _, ?_, .inl rfl, g3, .same rfl, r3⟩
              simp [execOp, h, resolve, invoke, builtin, e1, e2, hrun]
            · cases h2
          · cases hf
        · cases hf
      · cases hf
    · cases hf
  · cases hf
/-- nothing goes over. -/
def lenX (v : Option Value) : Option Nat := match v with
  | some (.slice _ n _) => some n
  | some (.chan none) => some 0
  | _ => none
theorem lenX_ok {E : Env} {N : Nat} {A : AA} {a : Act} (ha : AR ds E N A a) {x : Operand} {n : Nat} (h : lenX (ev A x) = some n) : ∃ s c, a.eval x = .slice s n c := by
  unfold lenX at h
  split at h
  · rename_i p k c hx
    cases h
    cases p with
    | none => obtain ⟨e1, e2, e3⟩ := (ev_ok ha hx).snil; subst e1; exact ⟨_, _, e3⟩
    | some p => obtain ⟨_, _, c', e3, _⟩ := (ev_ok ha hx).sl; exact ⟨_, _, e3⟩
  · rename_i hx
    cases h
    obtain ⟨p, c, e3⟩ := (ev_ok ha hx).tl
    exact ⟨_, _, e3⟩
  · cases h
def o_copy0 (t : TypeId) (x y : Operand) : OpF := fun T A H => match T.und t with
  | some (.slice e) => (match T.ty.get e with
    | some i => (match lenX (ev A x) with
      | some dl => (match lenX (ev A y) with
        | some sl => ite' (Nat.beq (Nat.min sl dl) 0) (some (.int .i64 0, H)) none
        | none => none)
      | none => none)
    | none => none)
  | _ => none
theorem copy0_ok {P : Program} {T : Cx} (hT : Fits P T) {o : Oper} {t t2 : TypeId} {x y : Operand} (h : o.op = .call ⟨.builtin .copy, #[x, y], #[t, t2]⟩) : Sound ds P T o (o_copy0 t x y) := fun A H v H' hf E a w ha hr => by
  unfold o_copy0 at hf
  split at hf
  · rename_i e ht
    split at hf
    · rename_i i hi
      split at hf
      · rename_i dl hd
        split at hf
        · rename_i sl hs
          obtain ⟨h1, h2⟩ := ite'_some hf
          cases h2
          have hn := Nat.eq_of_beq_eq_true h1
          obtain ⟨b, dc, e1⟩ := lenX_ok ha hd
          obtain ⟨s, sc, e2⟩ := lenX_ok ha hs
          have hn2 : Nat.min sl dl = 0 := hn
          have hfc : (Builtin.firstCells i.size 0 (.slice s sl sc)).run P w = .ok #[] w := by
            cases s with
            | none => simp [Builtin.firstCells]
            | some q =>
              have hl : (loadCells q 0).run P w = .ok (([] : List Value)).toArray w := run_loadCells_list (P := P) w q [] (fun j v hj => by simp at hj)
              simp [Builtin.firstCells, hl]
          refine sound_pure (v' := .int .i64 0) hr ?_ (.same rfl)
          cases b with
          | none => simp [execOp, h, resolve, invoke, builtin, e1, e2, Builtin.copy_, run_underlying (hT.und ht), Builtin.lenOf, sizeOf, typeInfo, hT.ty e i hi, hn2, hfc, goInt]
          | some b =>
            have hst : (storeCells b []).run P w = .ok () w := by simp [storeCells]
            simp [execOp, h, resolve, invoke, builtin, e1, e2, Builtin.copy_, run_underlying (hT.und ht), Builtin.lenOf, sizeOf, typeInfo, hT.ty e i hi, hn2, hfc, hst, goInt]
        · cases hf
      · cases hf
    · cases hf
  · cases hf
/-! ### zeroes are appended to nothing -/
def o_appendMake (t : TypeId) (x y : Operand) : OpF := fun T A H => match ev A x with
  | some (.slice none _ _) => (match ev A y with
    | some (.int _ (.ofNat n)) => (match T.und t with
      | some (.slice e) => (match T.ty.get e with
        | some i => (match i.zero with
          | some z => ite' (plainL z.cells.toList) (ite' (Nat.beq i.size z.cells.toList.length) (ite' (Nat.beq i.size 0) none (ite' (Nat.beq n 0) none (ite' (Nat.ble n 1000000000) (ite' (Nat.ble (Nat.mul n i.bytes) 281474976710656) (growNew H (cyc z.cells.toList n) n e i.size) none) none))) none) none
          | none => none)
        | none => none)
      | _ => none)
    | _ => none)
  | _ => none
/-- .. to something. -/
def appMk1 (T : Cx) (H : Hp) (t : TypeId) (s : Value) (n : Nat) : Option (Value × Hp) := match T.und t with
  | some (.slice e) => (match T.ty.get e with
    | some i => (match i.zero with
      | some z => ite' (plainL z.cells.toList) (ite' (Nat.beq i.size z.cells.toList.length) (ite' (Nat.beq i.size 0) none (ite' (Nat.beq n 0) none (ite' (Nat.ble n 1000000000) (ite' (Nat.ble (Nat.mul n i.bytes) 281474976710656) (appendA T H t s (cyc z.cells.toList n) n) none) none))) none) none
      | none => none)
    | none => none)
  | _ => none
def o_appMk (t : TypeId) (x y : Operand) : OpF := fun T A H => match ev A x with
  | some s => (match ev A y with
    | some (.int _ (.ofNat n)) => appMk1 T H t s n
    | _ => none)
  | _ => none
theorem srcZ {P : Program} {w : World} {t tx ty e : TypeId} {i : TypeInfo} {z : Value} {n : Nat} {k kk : IntKind} (ht : P.underlying t = some (.slice e)) (hk : P.underlying tx = some (.int kk)) (hi : P.info? e = some i) (hz : i.zero = some z) (hsz : i.size ≠ 0) (h0 : 0 < n) (hn9 : n ≤ 1000000000) (h48 : n * i.bytes ≤ 281474976710656) :
    SrcR P w t tx ty e i z (.int k n) n (cyc z.cells.toList n) := by
  have wl : IntKind.i64.wrap (n : Int) = n := by rw [IntKind.wrap_i64]; omega
  have hb : ¬ (281474976710656 < (n : Int) * (i.bytes : Int)) := by rw [← Int.natCast_mul]; omega
  have hns : ¬ (n * i.size = 0) := fun h => by rcases Nat.mul_eq_zero.1 h with h | h <;> omega
  have h4 : ¬ ((n : Int) < 0) := by omega
  have h5 : ¬ ((n : Int) ≤ 0) := by omega
  have h6 : max (n : Int) 0 = n := by omega
  have hzc : Builtin.zeroCells z.cells n = (cyc z.cells.toList n).toArray := cyc_made z.cells n
  have hzl : (Builtin.zeroCells z.cells n).toList = cyc z.cells.toList n := by rw [hzc]
  refine ⟨fun _ h63 _ => ?_, fun b sLen sCap olds hlo holds hg h63 hfit => ?_, fun b sLen sCap w' hroom hst => ?_⟩
  · rw [← hzc]
    exact app_zeros ht hk hi hz hsz h0 (by omega) h48
  · have hn : ¬ (sLen + n ≤ sCap) := by omega
    have h63' : ¬ (9223372036854775807 < ((sLen : Int) + (n : Int))) := by omega
    have h48' : ¬ (281474976710656 < Builtin.nextslicecap (sLen + n) sCap * i.bytes) := by omega
    have hf := run_firstCells_some (P := P) w.drew i.size sLen b sLen sCap olds hlo holds
    rw [← hzc]
    simp [Builtin.append_, run_underlying ht, run_underlying hk, sizeOf, typeInfo, zeroValue, hi, hz, hn, h63', h48', Question.forced, hf, newRow, grownCap, wl, hb, hns, asInt, asIntOf, h4, h5, h6]
  · simp [Builtin.append_, run_underlying ht, run_underlying hk, sizeOf, typeInfo, zeroValue, hi, hz, hroom, wl, hb, hns, asInt, asIntOf, h4, h5, h6, hzl, hst]
theorem appMk_ok {P : Program} {T : Cx} (hT : Fits P T) {o : Oper} {t t2 : TypeId} {kk : IntKind} (hk : T.und t2 = some (.int kk)) {x y : Operand} (h : o.op = .call ⟨.builtin .append, #[x, y], #[t, t2]⟩) : Sound ds P T o (o_appMk t x y) := fun A H v H' hf E a w ha hr => by
  unfold o_appMk at hf
  split at hf
  · rename_i s hx
    split at hf
    · rename_i k n hy
      unfold appMk1 at hf
      split at hf
      · rename_i e ht
        split at hf
        · rename_i i hi
          split at hf
          · rename_i z hz
            obtain ⟨h1, f1⟩ := ite'_some hf
            obtain ⟨h2, f2⟩ := ite'_some f1
            obtain ⟨h3, f3⟩ := ite'_none f2
            obtain ⟨h4, f4⟩ := ite'_none f3
            obtain ⟨h5, f5⟩ := ite'_some f4
            obtain ⟨h6, f6⟩ := ite'_some f5
            have e2 : i.size = z.cells.size := by have := Nat.eq_of_beq_eq_true h2; simpa using this
            have e3 : i.size ≠ 0 := fun e0 => by rw [e0] at h3; cases h3
            have e4 : 0 < n := Nat.pos_of_ne_zero fun e0 => by rw [e0] at h4; cases h4
            have e5 := Nat.le_of_ble_eq_true h5
            have e6 : n * i.bytes ≤ 281474976710656 := Nat.le_of_ble_eq_true h6
            have q2 : a.eval y = .int k (n : Int) := (ev_ok ha hy).int
            obtain ⟨E', v', w', g1, g2, g3, g4⟩ := append_runR (P := P) (tx := t2) (ty := o.type) (xx := .int k (n : Int)) hT hr f6 (ev_ok ha hx) (cyc_vl (E := E) (N := H.next) h1 n) (fun e' i' z' hu' hi' hz' => by
              rw [ht] at hu'; cases hu'
              rw [hi] at hi'; cases hi'
              rw [hz] at hz'; cases hz'
              exact srcZ (hT.und ht) (hT.und hk) (hT.ty e i hi) hz e3 e4 e5 e6) (fun e' i' hu' hi' => by
              rw [ht] at hu'; cases hu'
              rw [hi] at hi'; cases hi'
              rw [cyc_len, e2]; simp)
            refine ⟨E', v', w', _, ?_, .inl rfl, g2, g3, g4⟩
            simp [execOp, h, resolve, invoke, builtin, q2, g1]
          · cases hf
        · cases hf
      · cases hf
    · cases hf
  · cases hf
/-- .. none of them. -/
def fitsS (s : Value) : Bool := match s with
  | .slice none _ _ => true
  | .slice (some _) l c => ite' (Nat.ble OPN c) true (Nat.ble l c)
  | .chan none => true
  | _ => false
def o_appMk0 (t : TypeId) (x y : Operand) : OpF := fun T A H => match T.und t with
  | some (.slice e) => (match T.ty.get e with
    | some i => (match ev A y with
      | some (.int _ (.ofNat 0)) => (match ev A x with
        | some s => ite' (fitsS s) (some (s, H)) none
        | none => none)
      | _ => none)
    | none => none)
  | _ => none
theorem appz0 {P : Program} {w : World} {t tx ty e : TypeId} {i : TypeInfo} {k kk : IntKind} {b : Option Addr} {l c : Nat} (ht : P.underlying t = some (.slice e)) (hk : P.underlying tx = some (.int kk)) (hi : P.info? e = some i) (hlc : l ≤ c) :
    (Builtin.append_ #[t, tx] ty #[.slice b l c, .int k 0]).run P w = .ok (.slice b l c) w := by
  have wl : IntKind.i64.wrap (0 : Int) = 0 := by decide
  cases b with
  | none => simp [Builtin.append_, run_underlying ht, run_underlying hk, sizeOf, typeInfo, hi, wl, asInt, asIntOf, hlc]
  | some b =>
    have hst : ∀ a : Addr, (storeCells a []).run P w = .ok () w := fun a => by simp [storeCells]
    simp [Builtin.append_, run_underlying ht, run_underlying hk, sizeOf, typeInfo, hi, wl, asInt, asIntOf, hlc, hst]
theorem appMk0_ok {P : Program} {T : Cx} (hT : Fits P T) {o : Oper} {t t2 : TypeId} {kk : IntKind} (hk : T.und t2 = some (.int kk)) {x y : Operand} (h : o.op = .call ⟨.builtin .append, #[x, y], #[t, t2]⟩) : Sound ds P T o (o_appMk0 t x y) := fun A H v H' hf E a w ha hr => by
  unfold o_appMk0 at hf
  split at hf
  · rename_i e ht
    split at hf
    · rename_i i hi
      split at hf
      · rename_i k hy
        split at hf
        · rename_i s hx
          obtain ⟨h1, h2⟩ := ite'_some hf
          cases h2
          have q2 : a.eval y = .int k 0 := (ev_ok ha hy).int
          have hs := ev_ok ha hx
          have key : ∃ b l c, a.eval x = .slice b l c ∧ l ≤ c := by
            unfold fitsS at h1
            split at h1
            · rename_i l0 c0
              obtain ⟨e1, e2, e3⟩ := hs.snil
              exact ⟨_, _, _, e3, Nat.le_refl _⟩
            · rename_i p l c
              obtain ⟨_, _, c', e3, hc⟩ := hs.sl
              refine ⟨_, _, _, e3, ?_⟩
              rcases hc with ⟨z1, z2⟩ | ⟨z1, z2, _⟩
              · subst z2
                cases hb : Nat.ble OPN c' with
                | true => have := Nat.le_of_ble_eq_true hb; omega
                | false => rw [hb, ite'_false] at h1; exact Nat.le_of_ble_eq_true h1
              · exact z2
            · obtain ⟨p, c, e3⟩ := hs.tl
              exact ⟨_, _, _, e3, Nat.zero_le _⟩
            · cases h1
          obtain ⟨b, l, c, e3, hlc⟩ := key
          have hrun := appz0 (P := P) (w := w) (ty := o.type) (b := b) (k := k) (hT.und ht) (hT.und hk) (hT.ty e i hi) hlc
          rw [e3] at hs
          refine sound_pure (v' := .slice b l c) hr ?_ hs
          simp [execOp, h, resolve, invoke, builtin, e3, q2, hrun]
        · cases hf
      · cases hf
    · cases hf
  · cases hf
def o_appX (t t2 : TypeId) (x y : Operand) : OpF := fun T A H => match T.und t2 with
  | some (.int _) => orF (o_appendMake t x y) (orF (o_appMk t x y) (o_appMk0 t x y)) T A H
  | _ => appD [x, y] [t, t2] T A H
theorem appX_ok {P : Program} {T : Cx} (hT : Fits P T) {o : Oper} {t t2 : TypeId} {x y : Operand} (h : o.op = .call ⟨.builtin .append, #[x, y], #[t, t2]⟩) : Sound ds P T o (o_appX t t2 x y) := fun A H v H' hf E a w ha hr => by
  unfold o_appX at hf
  split at hf
  · rename_i kk hk
    unfold orF at hf
    cases hcase : o_appendMake t x y T A H with
    | none =>
      rw [hcase] at hf
      exact orF_sound (appMk_ok hT hk h) (appMk0_ok hT hk h) A H v H' hf E a w ha hr
    | some rr =>
    rw [hcase] at hf
    have hf0 : some rr = some (v, H') := hf
    rw [hf0] at hcase
    have hf := hcase
    clear hcase hf0
    unfold o_appendMake at hf
    split at hf
    · rename_i l0 c0 hx
      split at hf
      · rename_i k n hy
        split at hf
        · rename_i e ht
          split at hf
          · rename_i i hi
            split at hf
            · rename_i z hz
              obtain ⟨h1, f1⟩ := ite'_some hf
              obtain ⟨h2, f2⟩ := ite'_some f1
              obtain ⟨h3, f3⟩ := ite'_none f2
              obtain ⟨h4, f4⟩ := ite'_none f3
              obtain ⟨h5, f5⟩ := ite'_some f4
              obtain ⟨h6, f6⟩ := ite'_some f5
              cases f6
              have e2 : i.size = z.cells.size := by have := Nat.eq_of_beq_eq_true h2; simpa using this
              have e3 : i.size ≠ 0 := fun e0 => by rw [e0] at h3; cases h3
              have e4 : 0 < n := Nat.pos_of_ne_zero fun e0 => by rw [e0] at h4; cases h4
              have e5 := Nat.le_of_ble_eq_true h5
              have e6 : n * i.bytes ≤ 281474976710656 := Nat.le_of_ble_eq_true h6
              obtain ⟨_, _, q1⟩ := (ev_ok ha hx).snil
              have q2 : a.eval y = .int k (n : Int) := (ev_ok ha hy).int
              have hrun := app_zeros (P := P) (w := w) (ty := o.type) (k := k) (hT.und ht) (hT.und hk) (hT.ty e i hi) hz e3 e4 (by omega) e6
              have hzc : Builtin.zeroCells z.cells n = (cyc z.cells.toList n).toArray := cyc_made z.cells n
              rw [hzc] at hrun
              obtain ⟨g1, g2, g3⟩ := grown_new hr (cyc_vl (E := E) (N := H.next) h1 n) (e := e) (z := z.cells) (c := grownCap w n 0 e) (n := n) (size := i.size) (by rw [cyc_len, e2]; simp) e2.symm (cap_ge w n 0 e)
              refine ⟨_, _, _, _, ?_, .inl rfl, g2, g3 (Nat.pos_of_ne_zero e3), g1⟩
              simp [execOp, h, resolve, invoke, builtin, q1, q2, hrun]
            · cases hf
          · cases hf
        · cases hf
      · cases hf
    · cases hf
  · exact appD_ok hT h rfl A H v H' hf E a w ha hr
/-! ### functions that hold values -/
def o_makeFunc (f : FuncId) (first cap : List Operand) : OpF := fun _ A H => match evL A first with
  | some l => (match evL A cap with
    | some m => some (.func (.func f) l.toArray m.toArray, H)
    | none => none)
  | none => none
def makeFuncD (f : Fn) (first cap : List Operand) : OpF := match f with
  | .func f => o_makeFunc f first cap
  | _ => noF
theorem makeFunc_ok {P : Program} {T : Cx} {o : Oper} {f : Fn} {first cap : Array Operand} (h : o.op = .makeFunc f first cap) : SoundP ds P T o (makeFuncD f first.toList cap.toList) := by
  unfold makeFuncD
  split
  · rename_i f
    intro A H v H' hf E a ha
    unfold o_makeFunc at hf
    split at hf
    · rename_i l hl
      split at hf
      · rename_i m hm
        cases hf
        have r1 := evL_ok ha hl
        have r2 := evL_ok ha hm
        refine pure_ok (v' := .func (.func f) (first.map a.eval) (cap.map a.eval)) (fun w => by simp [execOp, h, Instr.makeFunc]) ?_
        have := VR.clo (f := f) r1 r2
        rw [show (first.toList.map a.eval).toArray = first.map a.eval from by apply Array.ext'; simp, show (cap.toList.map a.eval).toArray = cap.map a.eval from by apply Array.ext'; simp] at this
        exact this
      · cases hf
    · cases hf
  · exact noF_ok
def capD (args : List Operand) (tys : List TypeId) : OpF := match args with
  | [x] => (match tys with
    | [t] => o_cap t x
    | _ => noF)
  | _ => noF
def copyD (args : List Operand) (tys : List TypeId) : OpF := match args with
  | [x, y] => (match tys with
    | [t, t2] => orF (o_copy t x y) (o_copy0 t x y)
    | _ => noF)
  | _ => noF
def appF (args : List Operand) (tys : List TypeId) : OpF := match args with
  | [x, y] => (match tys with
    | [t, t2] => o_appX t t2 x y
    | _ => noF)
  | _ => noF
def callF (c : Call) : OpF := match c.callee with
  | .builtin .cap => capD c.args.toList c.argTypes.toList
  | .builtin .copy => copyD c.args.toList c.argTypes.toList
  | .builtin .append => appF c.args.toList c.argTypes.toList
  | _ => callE c
/-! ### pointers compared -/
def isRow (H : Hp) (b : Nat) : Bool := match H.b.get b with
  | some (.row _ _ _ _) => true
  | _ => false
def ptrCmp (H : Hp) (p q : Addr) : Option Bool := ite' (Nat.beq p.block q.block) (some (Nat.beq p.off q.off)) (ite' (isRow H p.block) (ite' (isRow H q.block) (some false) none) none)
def ptrBin (op : BinOp) (H : Hp) (x y : Value) : Option Value := match x with
  | .pointer (some p) => (match y with
    | .pointer (some q) => (match ptrCmp H p q with
      | some b => cmpV op b
      | none => none)
    | _ => none)
  | _ => none
def o_ptrEq (op : BinOp) (t : TypeId) (x y : Operand) : OpF := fun T A H => match T.und t with
  | some (.pointer e) => (match T.ty.get e with
    | some i => ite' (Nat.beq i.size 0) none (match ev A x with
      | some u => (match ev A y with
        | some v => withH (ptrBin op H u v) H
        | none => none)
      | none => none)
    | none => none)
  | _ => none
theorem ptrCmp_ok {P : Program} {E : Env} {H : Hp} {w : World} (hr : HRel E H w) {p q : Addr} {b : Bool} (h : ptrCmp H p q = some b) : (sameAddr ⟨E.s p.block, p.off, none⟩ ⟨E.s q.block, q.off, none⟩).run P w = .ok b w := by
  unfold ptrCmp at h
  cases h1 : Nat.beq p.block q.block with
  | true =>
    rw [h1, ite'_true] at h
    cases h
    have e := Nat.eq_of_beq_eq_true h1
    rw [e]
    have e2 : ((⟨E.s q.block, p.off, none⟩ : Addr) == ⟨E.s q.block, q.off, none⟩) = Nat.beq p.off q.off := by
      cases hb : Nat.beq p.off q.off with
      | true => rw [Nat.eq_of_beq_eq_true hb]; simp
      | false =>
        have : p.off ≠ q.off := fun e => by rw [e, Nat.beq_refl] at hb; cases hb
        simp [this]
    simp [sameAddr, e2]
  | false =>
    rw [h1, ite'_false] at h
    obtain ⟨h2, h⟩ := ite'_some h
    obtain ⟨h3, h⟩ := ite'_some h
    cases h
    unfold isRow at h2 h3
    split at h2
    · rename_i hb1
      split at h3
      · rename_i hb2
        obtain ⟨cs, fz, o1, z1, _⟩ := hr.rel _ _ hb1
        obtain ⟨cs2, fz2, o2, z2, _⟩ := hr.rel _ _ hb2
        rw [z1.2 rfl] at o1
        rw [z2.2 rfl] at o2
        refine run_sameAddr_other w (fun e => ?_) o1 o2
        have e1 : E.s p.block = E.s q.block := by injection e
        have := hr.inj _ _ _ _ hb1 hb2 e1
        rw [this, Nat.beq_refl] at h1
        cases h1
      · cases h3
    · cases h2
theorem ptrEq_ok {P : Program} {T : Cx} (hT : Fits P T) {o : Oper} {op : BinOp} {t t' : TypeId} {x y : Operand} (h : o.op = .binOp op t x y t') : Sound ds P T o (o_ptrEq op t x y) := fun A H v H' hf E a w ha hr => by
  unfold o_ptrEq at hf
  split at hf
  · rename_i e ht
    split at hf
    · rename_i i hi
      obtain ⟨h1, hf⟩ := ite'_none hf
      have hsz : i.size ≠ 0 := fun e0 => by rw [e0] at h1; cases h1
      split at hf
      · rename_i u hu
        split at hf
        · rename_i u2 hu2
          obtain ⟨hv, e0⟩ := withH_some hf
          subst e0
          unfold ptrBin at hv
          split at hv
          · rename_i p
            split at hv
            · rename_i q
              split at hv
              · rename_i b hb
                obtain ⟨_, _, e1⟩ := (ev_ok ha hu).pptr
                obtain ⟨_, _, e2⟩ := (ev_ok ha hu2).pptr
                have hs := ptrCmp_ok (P := P) hr hb
                have heq : (Op.equal t (.pointer (some ⟨E.s p.block, p.off, none⟩)) (.pointer (some ⟨E.s q.block, q.off, none⟩))).run P w = .ok b w := by
                  show (Op.equalIn (9999 + 1) t _ _).run P w = _
                  unfold Op.equalIn
                  simp [run_underlying (hT.und ht), sizeOf, typeInfo, hT.ty e i hi, hsz, hs]
                have hg : (eqGuard op t x y (a.eval x) (a.eval y)).run P w = .ok () w := by rw [e1, e2]; exact guard_run (by simp) (by simp)
                obtain ⟨k1, k2⟩ := cmpV_ok (P := P) hv heq (.inl ⟨_, rfl, _, rfl⟩)
                refine sound_pure (v' := v) hr ?_ (.same k2)
                rw [e1, e2] at hg
                simp [execOp, h, e1, e2, hg, k1]
              · cases hv
            · cases hv
          · cases hv
        · cases hf
      · cases hf
    · cases hf
  · cases hf
def opF (o : Op) : OpF := match o with
  | .binOp op t x y _ => orF (o_bin op t x y) (o_ptrEq op t x y)
  | .call c => callF c
  | .makeSlice t l c => o_mkSliceG t l c
  | .makeFunc f first cap => makeFuncD f first.toList cap.toList
  | o => opE o
theorem callF_ok {P : Program} {T : Cx} (hT : Fits P T) {o : Oper} {c : Call} (h : o.op = .call c) : Sound ds P T o (callF c) := by
  unfold callF
  split
  · rename_i hc
    obtain ⟨callee, ⟨args⟩, ⟨tys⟩⟩ := c
    simp only at hc; subst hc
    show Sound ds P T o (capD args tys)
    unfold capD
    split
    · split
      · exact (SoundP.sound (cap_ok hT h))
      · exact (SoundP.sound noF_ok)
    · exact (SoundP.sound noF_ok)
  · rename_i hc
    obtain ⟨callee, ⟨args⟩, ⟨tys⟩⟩ := c
    simp only at hc; subst hc
    show Sound ds P T o (copyD args tys)
    unfold copyD
    split
    · split
      · exact orF_sound (copy_ok hT h) (copy0_ok hT h)
      · exact (SoundP.sound noF_ok)
    · exact (SoundP.sound noF_ok)
  · rename_i hc
    obtain ⟨callee, ⟨args⟩, ⟨tys⟩⟩ := c
    simp only at hc; subst hc
    show Sound ds P T o (appF args tys)
    unfold appF
    split
    · split
      · exact appX_ok hT h
      · exact (SoundP.sound noF_ok)
    · exact (SoundP.sound noF_ok)
  · exact callE_ok hT h
theorem opF_ok {P : Program} {T : Cx} (hT : Fits P T) {o : Oper} : Sound ds P T o (opF o.op) := by
  cases ho : o.op with
  | call c => exact callF_ok hT ho
  | makeSlice t l c => exact mkSliceG_ok hT ho
  | makeFunc f first cap => exact (SoundP.sound (makeFunc_ok ho))
  | binOp op t x y t' => exact orF_sound (SoundP.sound (bin_ok hT ho)) (ptrEq_ok hT ho)
  | _ => have := opE_ok (ds := ds) (P := P) hT (o := o); rw [ho] at this; exact this
end
end Go.Proofs.YtcpghlilbohohaaGreatDoor
