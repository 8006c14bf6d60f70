import Derived.Test.YtdkfimejabanlaaDoorEq2
import Derived.Lib.UnsafeStr
import Derived.WideKeyRuns
import Derived.MapKept
import Derived.Carry
import Derived.Lib.OthersKept
import Derived.Laws.RangeString
import Derived.Laws.BytesArg
import Derived.Laws.MakeOwn
namespace Go.Proofs.YtdkfimejabanlaaDoor
open Go
set_option linter.unusedVariables false
set_option linter.unusedSimpArgs false
noncomputable section
variable {ds : List Deferred}
/-- nothing is appended. -/
def sameS (s : Value) (H : Hp) : Option (Value × Hp) := match s with
  | .slice none _ _ => some (s, H)
  | .slice (some _) l c => ite' (Nat.ble l c) (some (s, H)) none
  | _ => none
def o_append (t : TypeId) (x y : Operand) : OpF := fun T A H => match ev A x with
  | some s => (match ev A y with
    | some (.slice (some p) n _) => (match T.und t with
      | some (.slice e) => (match T.ty.get e with
        | some i => ite' (Nat.beq n 0) (sameS s H) (match H.cells p.block p.off (Nat.mul n i.size) with
          | some more => appendA T H t s more n
          | none => none)
        | none => none)
      | _ => none)
    | some (.slice none _ _) => (match T.und t with
      | some (.slice e) => (match T.ty.get e with
        | some i => sameS s H
        | none => none)
      | _ => none)
    | some (.chan none) => (match T.und t with
      | some (.slice e) => (match T.ty.get e with
        | some i => sameS s H
        | none => none)
      | _ => none)
    | _ => none)
  | none => none
theorem sameS_ok {P : Program} {E : Env} {H H' : Hp} {w : World} {t ty e : TypeId} {i : TypeInfo} {s s' v : Value} {b2 : Option Addr} {c2 : Nat} (hP : P.underlying t = some (.slice e)) (hI : P.info? e = some i) (h : sameS s H = some (v, H')) (hs : VR E H.next s s') :
    H' = H ∧ v = s ∧ (Builtin.append_ #[t, t] ty #[s', .slice b2 0 c2]).run P w = .ok s' w := by
  have hfc : (Builtin.firstCells i.size 0 (.slice b2 0 c2)).run P w = .ok #[] w := by
    cases b2 <;> simp [Builtin.firstCells, loadCells, loadCellsFrom]
  unfold sameS at h
  split at h
  · cases h
    obtain ⟨e1, e2, e3⟩ := hs.snil
    subst e3
    refine ⟨rfl, rfl, ?_⟩
    simp [Builtin.append_, run_underlying hP, sizeOf, typeInfo, hI, Builtin.lenOf, hfc]
  · rename_i p l c
    obtain ⟨h1, h2⟩ := ite'_some h
    cases h2
    have hle := Nat.le_of_ble_eq_true h1
    obtain ⟨_, _, c', e3, hc⟩ := hs.sl
    have hl : l ≤ c' := by
      rcases hc with z | z
      · omega
      · omega
    subst e3
    refine ⟨rfl, rfl, ?_⟩
    simp [Builtin.append_, run_underlying hP, sizeOf, typeInfo, hI, Builtin.lenOf, hfc, hl, storeCells]
  · cases h
theorem append_ok {P : Program} {T : Cx} (hT : Fits P T) {o : Oper} {t : TypeId} {x y : Operand} (h : o.op = .call ⟨.builtin .append, #[x, y], #[t, t]⟩) : Sound ds P T o (o_append t x y) := fun A H v H' hf E a w ha hr => by
  unfold o_append at hf
  split at hf
  · rename_i s hs
    split at hf
    · rename_i p n c hy
      split at hf
      · rename_i e hu
        split at hf
        · rename_i i hi
          obtain ⟨_, _, c', e1, _⟩ := (ev_ok ha hy).sl
          cases hn0 : Nat.beq n 0 with
          | true =>
            rw [hn0, ite'_true] at hf
            have hn := Nat.eq_of_beq_eq_true hn0
            subst hn
            obtain ⟨g1, g2, g3⟩ := sameS_ok (P := P) (w := w) (ty := o.type) (b2 := some ⟨E.s p.block, p.off, none⟩) (c2 := c') (hT.und hu) (hT.ty e i hi) hf (ev_ok ha hs)
            subst g1 g2
            refine sound_pure (v' := a.eval x) hr ?_ (ev_ok ha hs)
            simp [execOp, h, resolve, invoke, builtin, e1, g3]
          | false =>
            rw [hn0, ite'_false] at hf
            split at hf
            · rename_i more hm
              obtain ⟨hn1, more', r1, hc⟩ := hr.cells hm
              obtain ⟨E', v', w', h1, h2, h3, h4⟩ := append_run (P := P) (tx := t) (ty := o.type) (xx := .slice (some ⟨E.s p.block, p.off, none⟩) n c') (n := n) hT hr hf (ev_ok ha hs) r1 (fun e2 i2 hu2 hi2 => by
                rw [hu] at hu2; cases hu2
                rw [hi] at hi2; cases hi2
                exact SrcA.slice (hT.und hu) (by rw [← r1.length]; exact hn1) (fun j u hu => by
                  have hj : j < n * i.size := by have := (List.getElem?_eq_some_iff.1 hu).1; rw [← r1.length, hn1] at this; exact this
                  rw [add_plain', hc j hj]; exact hu)) (fun e2 i2 hu2 hi2 => by
                  rw [hu] at hu2; cases hu2
                  rw [hi] at hi2; cases hi2
                  exact hn1)
              refine ⟨E', v', w', _, ?_, .inl rfl, h2, h3, h4⟩
              simp [execOp, h, resolve, invoke, builtin, e1, h1]
            · cases hf
        · cases hf
      · cases hf
    · rename_i n c hy
      split at hf
      · rename_i e hu
        split at hf
        · rename_i i hi
          obtain ⟨e1, e2, e3⟩ := (ev_ok ha hy).snil
          obtain ⟨g1, g2, g3⟩ := sameS_ok (P := P) (w := w) (ty := o.type) (b2 := none) (c2 := 0) (hT.und hu) (hT.ty e i hi) hf (ev_ok ha hs)
          subst g1 g2
          refine sound_pure (v' := a.eval x) hr ?_ (ev_ok ha hs)
          simp [execOp, h, resolve, invoke, builtin, e3, g3]
        · cases hf
      · cases hf
    · rename_i hy
      split at hf
      · rename_i e hu
        split at hf
        · rename_i i hi
          obtain ⟨a2, c2, e3⟩ := (ev_ok ha hy).tl
          obtain ⟨g1, g2, g3⟩ := sameS_ok (P := P) (w := w) (ty := o.type) (b2 := some a2) (c2 := c2) (hT.und hu) (hT.ty e i hi) hf (ev_ok ha hs)
          subst g1 g2
          refine sound_pure (v' := a.eval x) hr ?_ (ev_ok ha hs)
          simp [execOp, h, resolve, invoke, builtin, e3, g3]
        · cases hf
      · cases hf
    · cases hf
  · cases hf
/-- the bytes of a text, as cells. -/
def byteCells (l : List UInt8) : List Value := List.rec (motive := fun _ => List Value) [] (fun b _ ih => .int .u8 (Int.ofNat b.toNat) :: ih) l
theorem byteCells_eq : ∀ (l : List UInt8), byteCells l = l.map fun b => .int .u8 (b.toNat : Int)
  | [] => rfl
  | b :: l => by
    show _ :: byteCells l = _
    rw [byteCells_eq l]; rfl
theorem byteCells_vl {E : Env} {N : Nat} : ∀ (l : List UInt8), VL E N (byteCells l) (byteCells l)
  | [] => .nil
  | b :: l => .cons (.same rfl) (byteCells_vl l)
theorem sameStr_ok {P : Program} {E : Env} {H H' : Hp} {w : World} {t t2 ty e : TypeId} {i : TypeInfo} {s s' v : Value} {b : ByteArray} (hP : P.underlying t = some (.slice e)) (hI : P.info? e = some i) (h2 : P.underlying t2 = some .string) (hb : b.size = 0) (h : sameS s H = some (v, H')) (hs : VR E H.next s s') :
    H' = H ∧ v = s ∧ (Builtin.append_ #[t, t2] ty #[s', .string b]).run P w = .ok s' w := by
  have hfc : (Builtin.firstCells i.size 0 (.string b)).run P w = .ok #[] w := by
    show (pure ((b.extract 0 0).data.map fun b => Value.int .u8 (b.toNat : Int)) : Sem (Array Value)).run P w = _
    have : (b.extract 0 0).data = #[] := by rw [ByteArray.data_extract]; simp
    simp [this]
  unfold sameS at h
  split at h
  · cases h
    obtain ⟨e1, e2, e3⟩ := hs.snil
    subst e3
    refine ⟨rfl, rfl, ?_⟩
    simp [Builtin.append_, run_underlying hP, run_underlying h2, sizeOf, typeInfo, hI, Builtin.lenOf, hfc, hb]
  · rename_i p l c
    obtain ⟨h1, h2'⟩ := ite'_some h
    cases h2'
    have hle := Nat.le_of_ble_eq_true h1
    obtain ⟨_, _, c', e3, hc⟩ := hs.sl
    have hl : l ≤ c' := by
      rcases hc with z | z
      · omega
      · omega
    subst e3
    refine ⟨rfl, rfl, ?_⟩
    simp [Builtin.append_, run_underlying hP, run_underlying h2, sizeOf, typeInfo, hI, Builtin.lenOf, hfc, hl, storeCells, hb]
  · cases h
def o_appendStr (t t2 : TypeId) (x y : Operand) : OpF := fun T A H => match ev A x with
  | some s => (match ev A y with
    | some (.string b) => (match T.und t2 with
      | some .string => (match T.und t with
        | some (.slice e) => (match T.ty.get e with
          | some i => ite' (Nat.beq i.size 1) (ite' (Nat.beq b.data.toList.length 0) (sameS s H) (appendA T H t s (byteCells b.data.toList) b.data.toList.length)) none
          | none => none)
        | _ => none)
      | _ => none)
    | _ => none)
  | none => none
theorem appendStr_ok {P : Program} {T : Cx} (hT : Fits P T) {o : Oper} {t t2 : TypeId} {x y : Operand} (h : o.op = .call ⟨.builtin .append, #[x, y], #[t, t2]⟩) : Sound ds P T o (o_appendStr t t2 x y) := fun A H v H' hf E a w ha hr => by
  unfold o_appendStr at hf
  split at hf
  · rename_i s hs
    split at hf
    · rename_i b hy
      split at hf
      · rename_i ht2
        split at hf
        · rename_i e hu
          split at hf
          · rename_i i hi
            obtain ⟨h1, hf1⟩ := ite'_some hf
            clear hf
            have hsz := Nat.eq_of_beq_eq_true h1
            have e1 := (ev_ok ha hy).string
            cases hz0 : Nat.beq b.data.toList.length 0 with
            | true =>
              rw [hz0, ite'_true] at hf1
              have hb0 : b.size = 0 := Nat.eq_of_beq_eq_true hz0
              obtain ⟨q1, q2, q3⟩ := sameStr_ok (P := P) (w := w) (ty := o.type) (hT.und hu) (hT.ty e i hi) (hT.und ht2) hb0 hf1 (ev_ok ha hs)
              subst q1 q2
              refine sound_pure hr ?_ (ev_ok ha hs)
              simp [execOp, h, resolve, invoke, builtin, e1, q3]
            | false =>
            rw [hz0, ite'_false] at hf1
            have hlen : (byteCells b.data.toList).length = b.data.toList.length := by rw [byteCells_eq]; simp
            obtain ⟨E', v', w', h1, h2, h3, h4⟩ := append_run (P := P) (tx := t2) (ty := o.type) (xx := .string b) (n := b.data.toList.length) hT hr hf1 (ev_ok ha hs) (byteCells_vl b.data.toList) (fun e2 i2 hu2 hi2 => by
                rw [hu] at hu2; cases hu2
                rw [hi] at hi2; cases hi2
                refine ⟨.inr (hT.und ht2), fun W => by simp [Builtin.lenOf], fun W hW => ?_⟩
                have e5 : b.extract 0 b.data.toList.length = b := by
                  apply ByteArray.ext
                  rw [ByteArray.data_extract]
                  simp
                show (pure ((b.extract 0 b.data.toList.length).data.map fun b => Value.int .u8 (b.toNat : Int)) : Sem (Array Value)).run P W = _
                rw [e5, byteCells_eq]
                have e6 : b.data.map (fun b => Value.int .u8 (b.toNat : Int)) = (b.data.toList.map fun b => Value.int .u8 (b.toNat : Int)).toArray := by
                  apply Array.ext'; simp
                simp [e6]) (fun e2 i2 hu2 hi2 => by
                  rw [hu] at hu2; cases hu2
                  rw [hi] at hi2; cases hi2
                  rw [hlen, hsz, Nat.mul_one])
            refine ⟨E', v', w', _, ?_, .inl rfl, h2, h3, h4⟩
            simp [execOp, h, resolve, invoke, builtin, e1, h1]
          · cases hf
        · cases hf
      · cases hf
    · cases hf
  · cases hf
/-! ### a piece of a text -/
def strSl (s : ByteArray) (lo hi : Option Value) : Option Value := match optB hi s.data.toList.length with
  | some h => (match optB lo 0 with
    | some l => ite' (Nat.ble l h) (ite' (Nat.ble h s.data.toList.length) (some (.string ⟨(List.take (Nat.sub h l) (List.drop l s.data.toList)).toArray⟩)) none) none
    | none => none)
  | none => none
def o_strSlice (t : TypeId) (x : Operand) (lo hi : Option Operand) : OpF := fun T A H => match ev A x with
  | some (.string s) => (match evO A lo with
    | some lo => (match evO A hi with
      | some hi => (match T.und t with
        | some .string => withH (strSl s lo hi) H
        | _ => none)
      | none => none)
    | none => none)
  | _ => none
theorem bounds_runS {P : Program} {w : World} {len l h : Nat} {lo hi : Option Value} (hh : (hi = none ∧ h = len) ∨ ∃ k, hi = some (.int k h)) (hl : (lo = none ∧ l = 0) ∨ ∃ k, lo = some (.int k l)) (h1 : l ≤ h) (h2 : h ≤ len) :
    (Instr.sliceBounds false len len lo hi none).run P w = .ok (l, h, len) w := by
  unfold Instr.sliceBounds
  rcases hh with ⟨rfl, rfl⟩ | ⟨k2, rfl⟩ <;> rcases hl with ⟨rfl, rfl⟩ | ⟨k3, rfl⟩ <;> simp [bound_run, h1, h2]
theorem strSlice_ok {P : Program} {T : Cx} (hT : Fits P T) {o : Oper} {t : TypeId} {x : Operand} {lo hi : Option Operand} (h : o.op = .slice t x lo hi none) : SoundP ds P T o (o_strSlice t x lo hi) := fun A H v H' hf E a ha => by
  unfold o_strSlice at hf
  split at hf
  · rename_i s hs
    split at hf
    · rename_i lo' hlo
      split at hf
      · rename_i hi' hhi
        split at hf
        · rename_i ht
          obtain ⟨hf2, e0⟩ := withH_some hf
          subst e0
          unfold strSl at hf2
          split at hf2
          · rename_i h0 hh
            split at hf2
            · rename_i l hl
              obtain ⟨z1, f1⟩ := ite'_some hf2
              obtain ⟨z2, f2⟩ := ite'_some f1
              cases f2
              have k1 := Nat.le_of_ble_eq_true z1
              have k2 : h0 ≤ s.size := Nat.le_of_ble_eq_true z2
              have hb := fun w => bounds_runS (P := P) (w := w) (len := s.size) (l := l) (h := h0) (lo := lo.map a.eval) (hi := hi.map a.eval)
                ((optB_ok ha hhi hh).imp (fun z => ⟨z.1, z.2.2⟩) id) ((optB_ok ha hlo hl).imp (fun z => ⟨z.1, z.2.2⟩) id) k1 k2
              have e : s.extract l h0 = ⟨(List.take (Nat.sub h0 l) (List.drop l s.data.toList)).toArray⟩ := by
                apply ByteArray.ext
                rw [ByteArray.data_extract]
                apply Array.ext'
                simp [List.extract_eq_take_drop]
              refine pure_ok (v' := .string (s.extract l h0)) (fun w => ?_) (by rw [e]; exact .same rfl)
              simp [execOp, h, Instr.sliceAt, Instr.slice, run_underlying (hT.und ht), (ev_ok ha hs).string, hb w]
            · cases hf2
          · cases hf2
        · cases hf
      · cases hf
    · cases hf
  · cases hf
def sliceD (t : TypeId) (x : Operand) (lo hi mx : Option Operand) : OpF := fun T A H => match mx with
  | none => (match o_strSlice t x lo hi T A H with
    | some r => some r
    | none => o_slice t x lo hi none T A H)
  | some m => o_slice t x lo hi (some m) T A H
theorem sliceD_ok {P : Program} {T : Cx} (hT : Fits P T) {o : Oper} {t : TypeId} {x : Operand} {lo hi mx : Option Operand} (h : o.op = .slice t x lo hi mx) : SoundP ds P T o (sliceD t x lo hi mx) := fun A H v H' hf E a ha => by
  unfold sliceD at hf
  split at hf
  · split at hf
    · rename_i r hr
      cases hf
      exact strSlice_ok hT h A H v H' hr E a ha
    · exact slice_ok hT h A H v H' hf E a ha
  · exact slice_ok hT h A H v H' hf E a ha
/-! ### which operation is done how -/
def noF : OpF := fun _ _ _ => none
def lenD (args : List Operand) (tys : List TypeId) : OpF := match args with
  | [x] => (match tys with
    | [t] => o_len t x
    | _ => noF)
  | _ => noF
def appD (args : List Operand) (tys : List TypeId) : OpF := match args with
  | [x, y] => (match tys with
    | [t, t2] => ite' (Nat.beq t2 t) (o_append t x y) (o_appendStr t t2 x y)
    | _ => noF)
  | _ => noF
/-- where a slice's elements lie. -/
def o_sd (x : Operand) : OpF := fun T A H => match ev A x with
  | some (.slice none _ _) => some (.pointer none, H)
  | some (.slice (some p) l c) => ite' (Nat.beq c 0) none (ite' (Nat.ble OPN c) (ite' (Nat.beq l 0) none (some (.pointer (some p), H))) (some (.pointer (some p), H)))
  | _ => none
theorem sd_ok {P : Program} {T : Cx} {o : Oper} {t : TypeId} {x : Operand} (h : o.op = .call ⟨.builtin .unsafeSliceData, #[x], #[t]⟩) : SoundP ds P T o (o_sd x) := fun A H v H' hf E a ha => by
  unfold o_sd at hf
  split at hf
  · rename_i l c hb
    cases hf
    obtain ⟨_, _, e3⟩ := (ev_ok ha hb).snil
    refine pure_ok (v' := .pointer none) (fun w => ?_) (.same rfl)
    simp [execOp, h, resolve, invoke, builtin, e3, Lib.run_unsafeSliceData_nil]
  · rename_i p l c hb
    obtain ⟨h0, hf⟩ := ite'_none hf
    have hc0 : c ≠ 0 := fun e => by rw [e] at h0; cases h0
    obtain ⟨hs, hN, c', e3, hk⟩ := (ev_ok ha hb).sl
    obtain ⟨b, off, spot⟩ := p
    simp only at hs hN e3 hk
    subst hs
    obtain ⟨hv, hl⟩ : some (Value.pointer (some ⟨b, off, none⟩), H) = some (v, H') ∧ c' ≠ 0 := by
      rcases hk with ⟨k1, k2⟩ | ⟨k1, k2, _⟩
      · rw [show Nat.ble OPN c = false from by
          cases hb2 : Nat.ble OPN c with
          | false => rfl
          | true => exact absurd (Nat.le_of_ble_eq_true hb2) (by omega)] at hf
        exact ⟨hf, by omega⟩
      · rw [Nat.ble_eq_true_of_le (by omega : OPN ≤ c)] at hf
        obtain ⟨h1, h2⟩ := ite'_none hf
        have hl0 : l ≠ 0 := fun e => by rw [e] at h1; cases h1
        exact ⟨h2, by omega⟩
    cases hv
    refine pure_ok (v' := .pointer (some ⟨E.s b, off, none⟩)) (fun w => ?_) (.ptr hN)
    have hsd := Lib.run_unsafeSliceData_row (P := P) w #[t] o.type ⟨E.s b, off, none⟩ l c' hl
    simp [execOp, h, resolve, invoke, builtin, e3, hsd]
  · cases hf
def sdD (args : List Operand) (tys : List TypeId) : OpF := match args with
  | [x] => (match tys with
    | [t] => o_sd x
    | _ => noF)
  | _ => noF
def callD (c : Call) : OpF := match c.callee with
  | .builtin b => (match b with
    | .len => lenD c.args.toList c.argTypes.toList
    | .append => appD c.args.toList c.argTypes.toList
    | .unsafeSliceData => sdD c.args.toList c.argTypes.toList
    | _ => noF)
  | _ => noF
def o_neg (x : Operand) : OpF := fun _ A H => match ev A x with
  | some (.int k n) => withH (intBin .sub k 0 n) H
  | _ => none
theorem neg_ok {P : Program} {T : Cx} {o : Oper} {t : TypeId} {x : Operand} (h : o.op = .unOp .neg t x) : SoundP ds P T o (o_neg x) := fun A H v H' hf E a ha => by
  unfold o_neg at hf
  split at hf
  · rename_i k n hx
    obtain ⟨hv, e0⟩ := withH_some hf
    subst e0
    have key := fun w => intBin_ok (P := P) (w := w) (op := .sub) (t := t) (k := k) (k' := k) hv (.inr rfl)
    refine pure_ok (v' := v) (fun w => ?_) (.same (key default).2)
    have h1 := (key w).1
    have e1 := (ev_ok ha hx).int
    have h2 : (Op.unary .neg (.int k n)).run P w = .ok v w := by
      simp [binOp] at h1
      exact h1
    simp [execOp, h, e1, h2]
  · cases hf
def o_compl (x : Operand) : OpF := fun _ A H => match ev A x with
  | some (.int k n) => withH (intBin .xor k (ite' k.signed (-1) k.max) n) H
  | _ => none
theorem compl_ok {P : Program} {T : Cx} {o : Oper} {t : TypeId} {x : Operand} (h : o.op = .unOp .xor t x) : SoundP ds P T o (o_compl x) := fun A H v H' hf E a ha => by
  unfold o_compl at hf
  split at hf
  · rename_i k n hx
    obtain ⟨hv, e0⟩ := withH_some hf
    subst e0
    have key := fun w => intBin_ok (P := P) (w := w) (op := .xor) (t := t) (k := k) (k' := k) hv (.inr rfl)
    refine pure_ok (v' := v) (fun w => ?_) (.same (key default).2)
    have h1 := (key w).1
    have e1 := (ev_ok ha hx).int
    have e2 : ite' k.signed (-1 : Int) k.max = if k.signed then -1 else k.max := by cases k.signed <;> rfl
    rw [e2] at h1
    have h2 : (Op.unary .xor (.int k n)).run P w = .ok v w := by
      simp [binOp] at h1
      exact h1
    simp [execOp, h, e1, h2]
  · cases hf
def unD (op : UnOp) (x : Operand) : OpF := match op with
  | .not => o_not x
  | .neg => o_neg x
  | .xor => o_compl x
  | _ => noF
def opD (o : Op) : OpF := match o with
  | .move x => o_move x
  | .assign x => o_move x
  | .pick c a b => o_pick c a b
  | .extract t i => o_extract t i
  | .binOp op t x y _ => o_bin op t x y
  | .unOp op _ x => unD op x
  | .nilCheck x => o_nilCheck x
  | .load t x => o_load t x
  | .store t x y => o_store t x y
  | .fieldAddr s x f => o_fieldAddr s x f
  | .indexAddr t x i => o_indexAddr t x i
  | .index t x i => o_index t x i
  | .box t x => o_box t x
  | .alloc t => o_alloc t
  | .build t ps => o_build t ps.toList
  | .buildSlice t n ps => o_buildSlice t n ps.toList
  | .convert s d x => o_conv s d x
  | .slice t x lo hi mx => sliceD t x lo hi mx
  | .makeInterface t x => o_mkIface t x
  | .typeAssert x _ t ok => o_tassert x t ok
  | .call c => callD c
  | _ => noF
/-- an operation that looks at no memory. -/
def isPure (o : Op) : Bool := match o with
  | .move _ | .assign _ | .pick _ _ _ | .extract _ _ | .binOp _ _ _ _ _ | .nilCheck _ | .fieldAddr _ _ _ | .indexAddr _ _ _ | .index _ _ _ | .build _ _ | .convert _ _ _ | .slice _ _ _ _ _ | .makeInterface _ _ | .typeAssert _ _ _ _ => true
  | .unOp .not _ _ => true
  | .unOp .neg _ _ => true
  | .unOp .xor _ _ => true
  | .call c => (match c.callee with
    | .builtin .len => true
    | .builtin .unsafeSliceData => true
    | _ => false)
  | _ => false
theorem noF_ok {P : Program} {T : Cx} {o : Oper} : SoundP ds P T o noF := fun A H v H' hf => by cases hf
theorem lenD_ok {P : Program} {T : Cx} (hT : Fits P T) {o : Oper} {c : Call} (h : o.op = .call c) (hc : c.callee = .builtin .len) : SoundP ds P T o (lenD c.args.toList c.argTypes.toList) := by
  obtain ⟨callee, ⟨args⟩, ⟨tys⟩⟩ := c
  simp only at hc; subst hc
  show SoundP ds P T o (lenD args tys)
  unfold lenD
  split
  · split
    · exact len_ok hT h
    · exact noF_ok
  · exact noF_ok
theorem sdD_ok {P : Program} {T : Cx} {o : Oper} {c : Call} (h : o.op = .call c) (hc : c.callee = .builtin .unsafeSliceData) : SoundP ds P T o (sdD c.args.toList c.argTypes.toList) := by
  obtain ⟨callee, ⟨args⟩, ⟨tys⟩⟩ := c
  simp only at hc; subst hc
  show SoundP ds P T o (sdD args tys)
  unfold sdD
  split
  · split
    · exact sd_ok h
    · exact noF_ok
  · exact noF_ok
theorem appD_ok {P : Program} {T : Cx} (hT : Fits P T) {o : Oper} {c : Call} (h : o.op = .call c) (hc : c.callee = .builtin .append) : Sound ds P T o (appD c.args.toList c.argTypes.toList) := by
  obtain ⟨callee, ⟨args⟩, ⟨tys⟩⟩ := c
  simp only at hc; subst hc
  show Sound ds P T o (appD args tys)
  unfold appD
  split
  · split
    · rename_i t t2
      cases hb : Nat.beq t2 t with
      | true =>
        have := Nat.eq_of_beq_eq_true hb
        subst this
        exact append_ok hT h
      | false => exact appendStr_ok hT h
    · exact (SoundP.sound noF_ok)
  · exact (SoundP.sound noF_ok)
theorem opD_pure {P : Program} {T : Cx} (hT : Fits P T) {o : Oper} (h : isPure o.op = true) : SoundP ds P T o (opD o.op) := by
  unfold isPure at h
  cases ho : o.op with
  | move x => exact move_ok (.inl ho)
  | assign x => exact move_ok (.inr ho)
  | pick c a b => exact pick_ok ho
  | extract t i => exact extract_ok ho
  | binOp op t x y t' => exact bin_ok hT ho
  | nilCheck x => exact nilCheck_ok ho
  | fieldAddr s x f => exact fieldAddr_ok hT ho
  | indexAddr t x i => exact indexAddr_ok hT ho
  | index t x i => exact index_ok hT ho
  | build t ps => exact build_ok hT ho
  | convert s d x => exact conv_ok hT ho
  | makeInterface t x => exact mkIface_ok hT ho
  | typeAssert x xt t ok => exact tassert_ok hT ho
  | slice t x lo hi mx => exact sliceD_ok hT ho
  | unOp op t x => cases op with
    | not => exact not_ok ho
    | neg => exact neg_ok ho
    | xor => exact compl_ok ho
    | _ => exact noF_ok
  | call c =>
    show SoundP ds P T o (callD c)
    unfold callD
    split
    · rename_i b hc
      split
      · exact lenD_ok hT ho hc
      · rw [ho] at h; simp [hc] at h
      · exact sdD_ok ho hc
      · exact noF_ok
    · exact noF_ok
  | _ => rw [ho] at h; cases h
theorem opD_ok {P : Program} {T : Cx} (hT : Fits P T) {o : Oper} : Sound ds P T o (opD o.op) := by
  cases hp : isPure o.op with
  | true => exact (SoundP.sound (opD_pure hT hp))
  | false =>
    cases ho : o.op with
    | load t x => exact load_ok hT ho
    | store t x y => exact store_ok hT ho
    | box t x => exact box_ok ho
    | alloc t => exact alloc_ok hT ho
    | buildSlice t n ps => exact buildSlice_ok hT ho
    | unOp op t x => cases op with
      | not => rw [ho] at hp; cases hp
      | neg => rw [ho] at hp; cases hp
      | xor => rw [ho] at hp; cases hp
      | _ => exact (SoundP.sound noF_ok)
    | call c =>
      show Sound ds P T o (callD c)
      unfold callD
      split
      · rename_i b hc
        split
        · exact (SoundP.sound (lenD_ok hT ho hc))
        · exact appD_ok hT ho hc
        · exact (SoundP.sound (sdD_ok ho hc))
        · exact (SoundP.sound noF_ok)
      · exact (SoundP.sound noF_ok)
    | move x => rw [ho] at hp; cases hp
    | assign x => rw [ho] at hp; cases hp
    | pick c a b => rw [ho] at hp; cases hp
    | extract t i => rw [ho] at hp; cases hp
    | binOp op t x y t' => rw [ho] at hp; cases hp
    | nilCheck x => rw [ho] at hp; cases hp
    | fieldAddr s x f => rw [ho] at hp; cases hp
    | indexAddr t x i => rw [ho] at hp; cases hp
    | index t x i => rw [ho] at hp; cases hp
    | build t ps => rw [ho] at hp; cases hp
    | convert s d x => rw [ho] at hp; cases hp
    | makeInterface t x => rw [ho] at hp; cases hp
    | typeAssert x xt t ok => rw [ho] at hp; cases hp
    | slice t x lo hi mx => rw [ho] at hp; cases hp
    | _ => exact (SoundP.sound noF_ok)
end
end Go.Proofs.YtdkfimejabanlaaDoor
namespace Go.Proofs.YtdkfimejabanlaaDoor
open Go
set_option linter.unusedVariables false
set_option linter.unusedSimpArgs false
noncomputable section
variable {ds : List Deferred}
/-! ### maps -/
def keyEq (d : TypeDesc) (k k2 : Value) : Option Bool := match d with
  | .int _ => (match k with
    | .int a x => (match k2 with
      | .int b y => ite' (kindEq a b) (some (eqF x y)) none
      | _ => none)
    | _ => none)
  | .string => (match k with
    | .string a => (match k2 with
      | .string b => some (bytesEq a.data.toList b.data.toList)
      | _ => none)
    | _ => none)
  | _ => none
theorem keyEq_ok {d : TypeDesc} {k k2 : Value} {b : Bool} (h : keyEq d k k2 = some b) : Instr.sameNow d k k2 = some b ∧ (b = true → k = k2) := by
  unfold keyEq at h
  split at h
  · split at h
    · split at h
      · obtain ⟨h1, h2⟩ := ite'_some h
        cases h2
        rw [kindEq_eq h1]
        refine ⟨by simp [Instr.sameNow, eqF_eq], fun h3 => ?_⟩
        rw [eqF_eq] at h3
        rw [eq_of_beq h3]
      · cases h
    · cases h
  · split at h
    · split at h
      · rename_i x _ y
        cases h
        refine ⟨?_, fun h3 => ?_⟩
        · simp only [Instr.sameNow, bytesEq_eq, beq_toListBytes, ByteArray.toList_eq]
        · rw [bytesEq_eq] at h3
          have := eq_of_beq h3
          congr 1
          apply ByteArray.ext
          exact Array.toList_inj.1 this
      · cases h
    · cases h
  · cases h
def keyOk (d : TypeDesc) (k : Value) : Bool := match d with
  | .int j => (match k with
    | .int j' _ => kindEq j' j
    | _ => false)
  | .string => (match k with
    | .string _ => true
    | _ => false)
  | _ => false
theorem keyOk_ok {d : TypeDesc} {k : Value} (h : keyOk d k = true) : MapKept.IsKey d k ∧ plainV k = true ∧ ∀ {E : Env} {N : Nat} {k' : Value}, VR E N k k' → k' = k := by
  unfold keyOk at h
  split at h
  · split at h
    · have := kindEq_eq h
      subst this
      exact ⟨rfl, rfl, fun h => h.int⟩
    · cases h
  · split at h
    · exact ⟨trivial, rfl, fun h => h.string⟩
    · cases h
  · cases h
def findA (d : TypeDesc) (k : Value) (es : List MapEntry) : Nat → Option (Option (Nat × Value)) := List.rec (motive := fun _ => Nat → Option (Option (Nat × Value))) (fun _ => some none) (fun e _ ih i => match keyEq d k e.key with
  | some true => some (some (i, e.val))
  | some false => ih (Nat.succ i)
  | none => none) es
theorem findA_cons (d : TypeDesc) (k : Value) (e : MapEntry) (es : List MapEntry) (i : Nat) : findA d k (e :: es) i = (match keyEq d k e.key with
  | some true => some (some (i, e.val))
  | some false => findA d k es (Nat.succ i)
  | none => none) := rfl
theorem findA_ok {E : Env} {N : Nat} {d : TypeDesc} {k : Value} : ∀ {es es' : List MapEntry} (i : Nat) {r : Option (Nat × Value)}, findA d k es i = some r → ML E N es es' →
    (r = none ∧ Instr.findNow d k es' i = some none) ∨ ∃ j v v' e', r = some (i + j, v) ∧ Instr.findNow d k es' i = some (some (i + j, v')) ∧ VR E N v v' ∧ es'[j]? = some e' ∧ e'.key = k
  | [], _, i, r, h, m => by cases h; cases m; exact .inl ⟨rfl, rfl⟩
  | e :: es, _, i, r, h, m => by
    cases m with
    | @cons k2 v v' b _ l' hk hv ht =>
      rw [findA_cons] at h
      split at h
      · rename_i hq
        cases h
        obtain ⟨h1, h2⟩ := keyEq_ok hq
        refine .inr ⟨0, v, v', _, rfl, ?_, hv, rfl, (h2 rfl).symm⟩
        simp only [Instr.findNow, h1]; rfl
      · rename_i hq
        obtain ⟨h1, _⟩ := keyEq_ok hq
        rcases findA_ok (i + 1) h ht with ⟨e1, e2⟩ | ⟨j, u, u', e', e1, e2, e3, e4, e5⟩
        · exact .inl ⟨e1, by simp only [Instr.findNow, h1]; exact e2⟩
        · refine .inr ⟨j + 1, u, u', e', ?_, ?_, e3, by simpa using e4, e5⟩
          · rw [e1]; congr 2; omega
          · simp only [Instr.findNow, h1]; rw [e2]; congr 3; omega
      · cases h
def modA (k v : Value) (es : List MapEntry) : Nat → List MapEntry := List.rec (motive := fun _ => Nat → List MapEntry) (fun _ => []) (fun e l ih j => Nat.rec (motive := fun _ => List MapEntry) (⟨k, v, e.born⟩ :: l) (fun j' _ => e :: ih j') j) es
theorem modA_ok {E : Env} {N : Nat} {k v v' : Value} (hk : constOk k = true) (hv : VR E N v v') : ∀ {es es' : List MapEntry} (j : Nat), ML E N es es' → ML E N (modA k v es j) (es'.modify j fun e => { e with key := k, val := v' })
  | _, _, j, .nil => by
    show ML E N [] _
    cases j <;> exact .nil
  | _, _, 0, .cons hk2 h t => .cons hk hv t
  | _, _, j + 1, .cons hk2 h t => by
    rw [List.modify_succ_cons]
    exact .cons hk2 h (modA_ok hk hv j t)
theorem ML.push {E : Env} {N : Nat} {k v v' : Value} {b : Nat} (hk : constOk k = true) (hv : VR E N v v') : ∀ {es es' : List MapEntry}, ML E N es es' → ML E N (es ++ [⟨k, v, b⟩]) (es' ++ [⟨k, v', b⟩])
  | _, _, .nil => .cons hk hv .nil
  | _, _, .cons hk2 h t => .cons hk2 h (ML.push hk hv t)
/-- a type's zero. -/
def zOk (z : Value) : Bool := match z with
  | .agg cs => plainL cs.toList
  | z => plainV z
theorem zOk_ok {E : Env} {N : Nat} {z : Value} (h : zOk z = true) : VR E N z z := by
  unfold zOk at h
  split at h
  · rename_i cs
    have := VR.agg (plainL_ok (E := E) (N := N) h)
    simpa using this
  · exact .same h
def zeroV (T : Cx) (t : TypeId) : Option Value := match T.ty.get t with
  | some i => (match i.zero with
    | some z => ite' (zOk z) (some z) none
    | none => none)
  | none => none
theorem zeroV_ok {P : Program} {T : Cx} (hT : Fits P T) {E : Env} {N : Nat} {t : TypeId} {z : Value} (h : zeroV T t = some z) : VR E N z z ∧ ∀ w : World, (zeroValue t).run P w = .ok z w := by
  unfold zeroV at h
  split at h
  · rename_i i hi
    split at h
    · rename_i z2 hz
      obtain ⟨h1, h2⟩ := ite'_some h
      cases h2
      exact ⟨zOk_ok h1, fun w => by simp [zeroValue, typeInfo, hT.ty t i hi, hz]⟩
    · cases h
  · cases h
def lkV (ok : Bool) (v : Value) (b : Bool) : Value := ite' ok (.tuple #[v, .bool b]) v
theorem lkV_ok {E : Env} {N : Nat} {ok b : Bool} {v v' : Value} (h : VR E N v v') : VR E N (lkV ok v b) (lkV ok v' b) := by
  cases ok with
  | true => exact .tuple (l := [v, .bool b]) (l' := [v', .bool b]) (.cons h (.cons (.same rfl) .nil))
  | false => exact h
def lookV (T : Cx) (H : Hp) (et : TypeId) (d : TypeDesc) (ok : Bool) (kv : Value) (m : Option Value) : Option Value := match m with
  | some (.map none) => (match zeroV T et with
    | some z => some (lkV ok z false)
    | none => none)
  | some (.map (some b)) => (match H.b.get b with
    | some (.map es _) => (match findA d kv es 0 with
      | some (some r) => some (lkV ok r.2 true)
      | some none => (match zeroV T et with
        | some z => some (lkV ok z false)
        | none => none)
      | none => none)
    | _ => none)
  | _ => none
def o_lookup (t : TypeId) (m k : Operand) (ok : Bool) : OpF := fun T A H => match T.und t with
  | some (.map kt et) => (match T.und kt with
    | some d => (match ev A k with
      | some kv => ite' (keyOk d kv) (withH (lookV T H et d ok kv (ev A m)) H) none
      | none => none)
    | none => none)
  | _ => none
theorem VR.mp {E : Env} {N : Nat} {b : Nat} {v : Value} (h : VR E N (.map (some b)) v) : b < N ∧ v = .map (some (E.s b)) := by
  cases h with
  | same h => cases h
  | map h => exact ⟨h, rfl⟩
theorem lookup_ok {P : Program} {T : Cx} (hT : Fits P T) {o : Oper} {t : TypeId} {m k : Operand} {ok : Bool} (h : o.op = .lookup t m k ok) : Sound ds P T o (o_lookup t m k ok) := fun A H v H' hf E a w ha hr => by
  unfold o_lookup at hf
  split at hf
  · rename_i kt et hm
    split at hf
    · rename_i d hd
      split at hf
      · rename_i kv hk
        obtain ⟨hko, hf1⟩ := ite'_some hf
        obtain ⟨hf2, e0⟩ := withH_some hf1
        subst e0
        obtain ⟨q1, q2, q3⟩ := keyOk_ok hko
        have ek : a.eval k = kv := q3 (ev_ok ha hk)
        have hM := hT.und hm
        have hD := hT.und hd
        have hc : ∀ e, (Instr.checkKey e (9999 + 1) kt kv).run P w = .ok () w := fun e => MapKept.run_checkKey hD q1 e 9999
        unfold lookV at hf2
        split at hf2
        · rename_i hmv
          split at hf2
          · rename_i z hz
            cases hf2
            obtain ⟨z1, z2⟩ := zeroV_ok (P := P) (E := E) (N := H'.next) hT hz
            refine sound_pure (v' := lkV ok z false) hr ?_ (lkV_ok z1)
            have hfk : (Instr.findKey kt kv []).run P w = .ok none w := MapKept.run_findKey hD rfl
            have hcc := hc true
            cases ok <;> simp [execOp, h, Instr.lookup, run_underlying hM, (ev_ok ha hmv).mnil, ek, hcc, hfk, z2 w, lkV]
          · cases hf2
        · rename_i b hmv
          split at hf2
          · rename_i es clock hb
            obtain ⟨hlt, em⟩ := (ev_ok ha hmv).mp
            obtain ⟨es', b1, b2⟩ := hr.rel _ _ hb
            have hg := MapKept.run_getObj_map (P := P) b1
            split at hf2
            · rename_i r hfa
              cases hf2
              rcases findA_ok 0 hfa b2 with ⟨e1, _⟩ | ⟨j, u, u', e', e1, e2, e3, e4, e5⟩
              · cases e1
              · cases e1
                refine sound_pure (v' := lkV ok u' true) hr ?_ (lkV_ok e3)
                have hfk := MapKept.run_findKey (P := P) (w := w) hD e2
                have hcc := hc es'.isEmpty
                cases ok <;> simp [execOp, h, Instr.lookup, run_underlying hM, em, ek, hg, hcc, hfk, lkV]
            · rename_i hfa
              split at hf2
              · rename_i z hz
                cases hf2
                obtain ⟨z1, z2⟩ := zeroV_ok (P := P) (E := E) (N := H'.next) hT hz
                rcases findA_ok 0 hfa b2 with ⟨_, e2⟩ | ⟨j, u, u', e', e1, _⟩
                · refine sound_pure (v' := lkV ok z false) hr ?_ (lkV_ok z1)
                  have hfk := MapKept.run_findKey (P := P) (w := w) hD e2
                  have hcc := hc es'.isEmpty
                  cases ok <;> simp [execOp, h, Instr.lookup, run_underlying hM, em, ek, hg, hcc, hfk, z2 w, lkV]
                · cases e1
              · cases hf2
            · cases hf2
          · cases hf2
        · cases hf2
      · cases hf
    · cases hf
  · cases hf
/-! #### a new map, a new entry -/
def o_makeMap : OpF := fun _ _ H => some (.map (some H.next), H.new (.map [] 0))
theorem makeMap_ok {P : Program} {T : Cx} {o : Oper} {t : TypeId} (h : o.op = .makeMap t none) : Sound ds P T o o_makeMap := fun A H v H' hf E a w ha hr => by
  cases hf
  obtain ⟨h1, h2⟩ := hr.new (x := .map [] 0) (o := .map #[] 0) (k := 0) ⟨#[], rfl, .nil⟩
  refine ⟨_, .map (some w.heap.size), _, _, ?_, .inl rfl, h2, ?_, h1⟩
  · simp [execOp, h, Go.RowKit.run_makeMap]
  · have z := VR.map (E := E.add H.next w.heap.size 0) (N := H.next + 1) (Nat.lt_succ_self H.next)
    rw [show (E.add H.next w.heap.size 0).s H.next = w.heap.size by simp [Env.add]] at z
    exact z
def updH (H : Hp) (d : TypeDesc) (kv v : Value) (b : Nat) : Option Hp := match H.b.get b with
  | some (.map es clock) => (match findA d kv es 0 with
    | some (some r) => some ⟨H.b.put b (some (.map (modA kv v es r.1) clock)), H.next⟩
    | some none => some ⟨H.b.put b (some (.map (List.append es [⟨kv, v, clock⟩]) (Nat.succ clock))), H.next⟩
    | none => none)
  | _ => none
def o_mapUpdate (t : TypeId) (m k x : Operand) : OpF := fun T A H => match T.und t with
  | some (.map kt et) => (match T.und kt with
    | some d => (match ev A k with
      | some kv => (match ev A x with
        | some v => (match ev A m with
          | some (.map (some b)) => ite' (keyOk d kv) (match updH H d kv v b with
            | some H' => some (undef, H')
            | none => none) none
          | _ => none)
        | none => none)
      | none => none)
    | none => none)
  | _ => none
theorem mapUpdate_ok {P : Program} {T : Cx} (hT : Fits P T) {o : Oper} {t : TypeId} {m k x : Operand} (h : o.op = .mapUpdate t m k x ∨ o.op = .insert t m k x) : Sound ds P T o (o_mapUpdate t m k x) := fun A H v H' hf E a w ha hr => by
  unfold o_mapUpdate at hf
  split at hf
  · rename_i kt et hm
    split at hf
    · rename_i d hd
      split at hf
      · rename_i kv hk
        split at hf
        · rename_i u hx
          split at hf
          · rename_i b hmv
            obtain ⟨hko, hf1⟩ := ite'_some hf
            clear hf
            split at hf1
            · rename_i H1 hu
              cases hf1
              obtain ⟨q1, q2, q3⟩ := keyOk_ok hko
              have ek : a.eval k = kv := q3 (ev_ok ha hk)
              have hM := hT.und hm
              have hD := hT.und hd
              have hc : (Instr.checkKey false (9999 + 1) kt kv).run P w = .ok () w := MapKept.run_checkKey hD q1 false 9999
              have hv := ev_ok ha hx
              obtain ⟨hlt, em⟩ := (ev_ok ha hmv).mp
              unfold updH at hu
              split at hu
              · rename_i es clock hb
                obtain ⟨es', b1, b2⟩ := hr.rel _ _ hb
                have hg := MapKept.run_getObj_map (P := P) b1
                have hset : ∀ o2, ({ w with heap := w.heap.setIfInBounds (E.s b) o2 } : World).heap[E.s b]? = some o2 ∧ ∀ r', r' ≠ E.s b → ({ w with heap := w.heap.setIfInBounds (E.s b) o2 } : World).heap[r']? = w.heap[r']? := fun o2 => MapKept.heap_set b1
                split at hu
                · rename_i r hfa
                  cases hu
                  rcases findA_ok 0 hfa b2 with ⟨e1, _⟩ | ⟨j, u1, u', e', e1, e2, e3, e4, e5⟩
                  · cases e1
                  · cases e1
                    have e4' : es'[0 + j]? = some e' := by rw [Nat.zero_add]; simpa using e4
                    obtain ⟨J, hJ⟩ : ∃ J, J = 0 + j := ⟨_, rfl⟩
                    rw [← hJ] at e2 e4' ⊢
                    have hfk := MapKept.run_findKey (P := P) (w := w) hD e2
                    have hks := MapKept.run_keyThatStays (P := P) (w := w) q1
                    have hso := MapKept.run_setObj_map (P := P) (.map (es'.modify J fun e => { e with key := kv, val := a.eval x }) clock) b1
                    obtain ⟨s1, s2⟩ := hset (.map (es'.modify J fun e => { e with key := kv, val := a.eval x }) clock)
                    obtain ⟨g1, g2⟩ := hr.upd (w' := { w with heap := w.heap.setIfInBounds (E.s b) (.map (es'.modify J fun e => { e with key := kv, val := a.eval x }) clock) }) (x1 := .map (modA kv u es J) clock) hb
                      ⟨_, s1, by rw [Array.toList_modify]; exact modA_ok (constOk_plain q2) hv J b2⟩ s2 rfl rfl rfl (by simp) rfl
                    refine ⟨E, undef, _, _, ?_, .inr ⟨rfl, rfl⟩, g2, VR.undef, g1⟩
                    rcases h with h | h <;> simp [execOp, h, Instr.mapUpdate, run_underlying hM, em, ek, hg, hc, hfk, e4', e5, hks, hso]
                · rename_i hfa
                  cases hu
                  rcases findA_ok 0 hfa b2 with ⟨_, e2⟩ | ⟨j, u1, u', e', e1, _⟩
                  · have hfk := MapKept.run_findKey (P := P) (w := w) hD e2
                    have hso := MapKept.run_setObj_map (P := P) (.map (es'.push { key := kv, val := a.eval x, born := clock }) (clock + 1)) b1
                    obtain ⟨s1, s2⟩ := hset (.map (es'.push { key := kv, val := a.eval x, born := clock }) (clock + 1))
                    obtain ⟨g1, g2⟩ := hr.upd (w' := { w with heap := w.heap.setIfInBounds (E.s b) (.map (es'.push { key := kv, val := a.eval x, born := clock }) (clock + 1)) }) (x1 := .map (List.append es [⟨kv, u, clock⟩]) (Nat.succ clock)) hb
                      ⟨_, s1, by rw [Array.toList_push]; exact ML.push (constOk_plain q2) hv b2⟩ s2 rfl rfl rfl (by simp) rfl
                    refine ⟨E, undef, _, _, ?_, .inr ⟨rfl, rfl⟩, g2, VR.undef, g1⟩
                    rcases h with h | h <;> simp [execOp, h, Instr.mapUpdate, run_underlying hM, em, ek, hg, hc, hfk, hso]
                  · cases e1
                · cases hu
              · cases hu
            · cases hf1
          · cases hf
        · cases hf
      · cases hf
    · cases hf
  · cases hf
/-! #### keys that are structs of plain parts -/
theorem iteB {b x : Bool} (h : ite' b x false = true) : b = true ∧ x = true := by cases b with | false => cases h | true => exact ⟨rfl, h⟩
def flatD (d : TypeDesc) : Bool := match d with
  | .int _ | .string | .bool => true
  | _ => false
def chkF1 (T : Cx) (l : List Value) (f : Field) : Bool := match T.und f.type with
  | some d => ite' (flatD d) (match partA T f.type l f.offset with
    | some v => plainV v
    | none => false) false
  | none => false
def chkFs (T : Cx) (l : List Value) (fs : List Field) : Bool := List.rec (motive := fun _ => Bool) true (fun f _ ih => ite' (chkF1 T l f) ih false) fs
def keyS (T : Cx) (kt : TypeId) (k : Value) : Bool := match T.und kt with
  | some (.struct fs) => (match k with
    | .agg cs => ite' (plainL cs.toList) (chkFs T cs.toList fs.toList) false
    | _ => false)
  | _ => false
theorem checkKey_flat {P : Program} {t : TypeId} {d : TypeDesc} {v : Value} (hd : P.underlying t = some d) (hf : flatD d = true) (e : Bool) (n : Nat) (w : World) : (Instr.checkKey e (n + 1) t v).run P w = .ok () w := by
  unfold Instr.checkKey
  simp only [Sem.run_bind, run_underlying hd, Result.andThen]
  cases d <;> first | (cases hf; done) | (cases v <;> simp)
theorem keyS_ok {P : Program} {T : Cx} (hT : Fits P T) {kt : TypeId} {k : Value} (h : keyS T kt k = true) : ∃ fs cs, T.und kt = some (.struct fs) ∧ k = .agg cs ∧ plainL cs.toList = true ∧ ∀ (e : Bool) (n : Nat) (w : World), (Instr.checkKey e (n + 1 + 1) kt k).run P w = .ok () w := by
  unfold keyS at h
  split at h
  · rename_i fs hu
    split at h
    · rename_i cs
      obtain ⟨h1, h2⟩ := iteB h
      refine ⟨fs, cs, hu, rfl, h1, fun e n w => ?_⟩
      unfold Instr.checkKey
      simp only [Sem.run_bind, run_underlying (hT.und hu), Result.andThen]
      rw [← Array.forIn_toList]
      have key : ∀ (l : List Field), chkFs T cs.toList l = true → Sem.run P (forIn l PUnit.unit fun f __s => (do
          if f.name ≠ "_" then do
            let __do_lift ← part f.type cs f.offset
            Instr.checkKey e (n + 1) f.type __do_lift
            pure (ForInStep.yield PUnit.unit)
          else pure (ForInStep.yield PUnit.unit) : Sem (ForInStep PUnit))) w = .ok PUnit.unit w := fun l => by
        induction l with
        | nil => intro _; simp
        | cons f l ih =>
          intro hl
          obtain ⟨h3, h4⟩ := iteB (show ite' (chkF1 T cs.toList f) (chkFs T cs.toList l) false = true from hl)
          unfold chkF1 at h3
          split at h3
          · rename_i d hd
            obtain ⟨h5, h6⟩ := iteB h3
            split at h6
            · rename_i v hv
              obtain ⟨v', rv, er⟩ := partA_ok (P := P) hT hv (plainL_ok (E := ⟨fun _ => 0, fun _ => 0⟩) (N := 0) h1)
              have e1 : (cs.toList).toArray = cs := by simp
              rw [e1] at er
              have hc := checkKey_flat (v := v') (hT.und hd) h5 e n w
              rw [List.forIn_cons]
              by_cases hn : f.name ≠ "_"
              · simp only [if_pos hn, Sem.run_bind, er w, Result.andThen, hc, Sem.run_pure]
                exact ih h4
              · simp only [if_neg hn, Sem.run_bind, Result.andThen, Sem.run_pure]
                exact ih h4
            · cases h6
          · cases h3
      rw [key fs.toList h2]
      simp
    · cases h
  · cases h
def findS1 (T : Cx) (kt : TypeId) (k : Value) (e : MapEntry) (i : Nat) (ih : Nat → Option (Option (Nat × MapEntry))) (r : Option Bool) : Option (Option (Nat × MapEntry)) := match r with
  | some true => some (some (i, e))
  | some false => ih (Nat.succ i)
  | none => none
def findS (T : Cx) (kt : TypeId) (k : Value) (es : List MapEntry) : Nat → Option (Option (Nat × MapEntry)) := List.rec (motive := fun _ => Nat → Option (Option (Nat × MapEntry))) (fun _ => some none) (fun e _ ih i => findS1 T kt k e i ih (eqN T 6 kt k e.key)) es
theorem findS_ok {P : Program} {T : Cx} (hT : Fits P T) {E : Env} {N : Nat} {kt : TypeId} {k : Value} (hk : constOk k = true) (w : World) : ∀ {es es' : List MapEntry} (i : Nat) {r : Option (Nat × MapEntry)}, findS T kt k es i = some r → ML E N es es' →
    (r = none ∧ (Instr.findAsking kt k es' i).run P w = .ok none w) ∨ ∃ j e v' e', r = some (i + j, e) ∧ (Instr.findAsking kt k es' i).run P w = .ok (some (i + j, v')) w ∧ VR E N e.val v' ∧ es'[j]? = some e' ∧ e'.key = e.key
  | [], _, i, r, h, m => by cases h; cases m; exact .inl ⟨rfl, by simp [Instr.findAsking]⟩
  | e :: es, _, i, r, h, m => by
    cases m with
    | @cons k2 v v' b _ l' hk2 hv ht =>
      change findS1 T kt k ⟨k2, v, b⟩ i (findS T kt k es) (eqN T 6 kt k k2) = some r at h
      unfold findS1 at h
      split at h
      · rename_i hq
        cases h
        have he := eqN_ok (P := P) (w := w) hT 6 hq (constOk_ok (E := E) (N := N) hk) (constOk_ok hk2) 10000 (by omega)
        have he2 : (Op.equal kt k k2).run P w = .ok true w := he
        refine .inr ⟨0, _, v', _, rfl, ?_, hv, rfl, rfl⟩
        simp [Instr.findAsking, he2]
      · rename_i hq
        have he := eqN_ok (P := P) (w := w) hT 6 hq (constOk_ok (E := E) (N := N) hk) (constOk_ok hk2) 10000 (by omega)
        have he2 : (Op.equal kt k k2).run P w = .ok false w := he
        rcases findS_ok hT hk w (i + 1) h ht with ⟨e1, e2⟩ | ⟨j, u, u', e', e1, e2, e3, e4, e5⟩
        · exact .inl ⟨e1, by simp [Instr.findAsking, he2, e2]⟩
        · refine .inr ⟨j + 1, u, u', e', ?_, ?_, e3, by simpa using e4, e5⟩
          · rw [e1]; congr 2; omega
          · simp [Instr.findAsking, he2, e2]; omega
      · cases h
theorem findKey_S {P : Program} {T : Cx} (hT : Fits P T) {kt : TypeId} {fs : Array Field} (hu : T.und kt = some (.struct fs)) (k : Value) (es : List MapEntry) (w : World) : (Instr.findKey kt k es).run P w = (Instr.findAsking kt k es 0).run P w :=
  run_findKey_eq w (by rw [hT.und hu]) k es
def lookVS (T : Cx) (H : Hp) (et kt : TypeId) (ok : Bool) (kv : Value) (m : Option Value) : Option Value := match m with
  | some (.map none) => (match zeroV T et with
    | some z => some (lkV ok z false)
    | none => none)
  | some (.map (some b)) => (match H.b.get b with
    | some (.map es _) => (match findS T kt kv es 0 with
      | some (some r) => some (lkV ok r.2.val true)
      | some none => (match zeroV T et with
        | some z => some (lkV ok z false)
        | none => none)
      | none => none)
    | _ => none)
  | _ => none
def o_lookupS (t : TypeId) (m k : Operand) (ok : Bool) : OpF := fun T A H => match T.und t with
  | some (.map kt et) => (match ev A k with
    | some kv => ite' (keyS T kt kv) (withH (lookVS T H et kt ok kv (ev A m)) H) none
    | none => none)
  | _ => none
theorem agg_eq {E : Env} {N : Nat} {k k' : Value} (hk : constOk k = true) (h : VR E N k k') : k' = k := by
  unfold constOk at hk
  split at hk
  · rename_i cs
    obtain ⟨l', e, r⟩ := h.ag
    rw [e]
    have : ∀ {l l' : List Value}, plainL l = true → VL E N l l' → l' = l := by
      intro l
      induction l with
      | nil => intro l' _ r; cases r; rfl
      | cons v l ih =>
        intro l' hp r
        cases r with
        | cons hv ht =>
          obtain ⟨h1, h2⟩ := iteB (show ite' (plainV v) (plainL l) false = true from hp)
          rw [ih h2 ht]
          have e1 : ∀ {v v' : Value}, plainV v = true → VR E N v v' → v' = v := by
            intro v v' hp h
            cases h with
            | same _ => rfl
            | ptr _ => cases hp
            | slice _ _ => cases hp
            | open_ _ _ _ _ => cases hp
            | map _ => cases hp
            | agg _ => cases hp
            | tuple _ => cases hp
            | iface _ => cases hp
            | tail => cases hp
            | @clo f l l' m m' h k =>
              simp [plainV] at hp
              obtain ⟨rfl, rfl⟩ := hp
              cases h; cases k; rfl
          rw [e1 h1 hv]
    rw [this hk r]
  · cases h with
    | same _ => rfl
    | ptr _ => cases hk
    | slice _ _ => cases hk
    | open_ _ _ _ _ => cases hk
    | map _ => cases hk
    | agg _ => rename_i hne; exact absurd rfl (hne _)
    | tuple _ => cases hk
    | iface _ => cases hk
    | tail => cases hk
    | @clo f l l' m m' h k =>
      simp [plainV] at hk
      obtain ⟨rfl, rfl⟩ := hk
      cases h; cases k; rfl
theorem lookupS_ok {P : Program} {T : Cx} (hT : Fits P T) {o : Oper} {t : TypeId} {m k : Operand} {ok : Bool} (h : o.op = .lookup t m k ok) : Sound ds P T o (o_lookupS t m k ok) := fun A H v H' hf E a w ha hr => by
  unfold o_lookupS at hf
  split at hf
  · rename_i kt et hm
    split at hf
    · rename_i kv hk
      obtain ⟨hko, hf1⟩ := ite'_some hf
      obtain ⟨hf2, e0⟩ := withH_some hf1
      subst e0
      obtain ⟨fs, cs, hu, hkv, hpl, hc⟩ := keyS_ok (P := P) hT hko
      have hko2 : constOk kv = true := by rw [hkv]; exact hpl
      have ek : a.eval k = kv := agg_eq hko2 (ev_ok ha hk)
      have hM := hT.und hm
      unfold lookVS at hf2
      split at hf2
      · rename_i hmv
        split at hf2
        · rename_i z hz
          cases hf2
          obtain ⟨z1, z2⟩ := zeroV_ok (P := P) (E := E) (N := H'.next) hT hz
          refine sound_pure (v' := lkV ok z false) hr ?_ (lkV_ok z1)
          have hfk : (Instr.findKey kt kv []).run P w = .ok none w := by rw [findKey_S hT hu]; simp [Instr.findAsking]
          have hcc := hc true 9998 w
          cases ok <;> simp [execOp, h, Instr.lookup, run_underlying hM, (ev_ok ha hmv).mnil, ek, hcc, hfk, z2 w, lkV]
        · cases hf2
      · rename_i b hmv
        split at hf2
        · rename_i es clock hb
          obtain ⟨hlt, em⟩ := (ev_ok ha hmv).mp
          obtain ⟨es', b1, b2⟩ := hr.rel _ _ hb
          have hg := MapKept.run_getObj_map (P := P) b1
          split at hf2
          · rename_i r hfa
            cases hf2
            rcases findS_ok (P := P) hT hko2 w 0 hfa b2 with ⟨e1, _⟩ | ⟨j, u, u', e', e1, e2, e3, e4, e5⟩
            · cases e1
            · cases e1
              refine sound_pure (v' := lkV ok u' true) hr ?_ (lkV_ok e3)
              have hfk : (Instr.findKey kt kv es'.toList).run P w = .ok (some (0 + j, u')) w := by rw [findKey_S hT hu]; exact e2
              have hcc := hc es'.isEmpty 9998 w
              cases ok <;> simp [execOp, h, Instr.lookup, run_underlying hM, em, ek, hg, hcc, hfk, lkV]
          · rename_i hfa
            split at hf2
            · rename_i z hz
              cases hf2
              obtain ⟨z1, z2⟩ := zeroV_ok (P := P) (E := E) (N := H'.next) hT hz
              rcases findS_ok (P := P) hT hko2 w 0 hfa b2 with ⟨_, e2⟩ | ⟨j, u, u', e', e1, _⟩
              · refine sound_pure (v' := lkV ok z false) hr ?_ (lkV_ok z1)
                have hfk : (Instr.findKey kt kv es'.toList).run P w = .ok none w := by rw [findKey_S hT hu]; exact e2
                have hcc := hc es'.isEmpty 9998 w
                cases ok <;> simp [execOp, h, Instr.lookup, run_underlying hM, em, ek, hg, hcc, hfk, z2 w, lkV]
              · cases e1
            · cases hf2
          · cases hf2
        · cases hf2
      · cases hf2
    · cases hf
  · cases hf
def updS (T : Cx) (H : Hp) (kt : TypeId) (kv v : Value) (b : Nat) : Option Hp := match H.b.get b with
  | some (.map es clock) => (match findS T kt kv es 0 with
    | some (some r) => ite' (Instr.sameBits 10000 r.2.key kv) (some ⟨H.b.put b (some (.map (modA kv v es r.1) clock)), H.next⟩) none
    | some none => some ⟨H.b.put b (some (.map (List.append es [⟨kv, v, clock⟩]) (Nat.succ clock))), H.next⟩
    | none => none)
  | _ => none
def o_mapUpdateS (t : TypeId) (m k x : Operand) : OpF := fun T A H => match T.und t with
  | some (.map kt et) => (match ev A k with
    | some kv => (match ev A x with
      | some v => (match ev A m with
        | some (.map (some b)) => ite' (keyS T kt kv) (match updS T H kt kv v b with
          | some H' => some (undef, H')
          | none => none) none
        | _ => none)
      | none => none)
    | none => none)
  | _ => none
theorem mapUpdateS_ok {P : Program} {T : Cx} (hT : Fits P T) {o : Oper} {t : TypeId} {m k x : Operand} (h : o.op = .mapUpdate t m k x ∨ o.op = .insert t m k x) : Sound ds P T o (o_mapUpdateS t m k x) := fun A H v H' hf E a w ha hr => by
  unfold o_mapUpdateS at hf
  split at hf
  · rename_i kt et hm
    split at hf
    · rename_i kv hk
      split at hf
      · rename_i u hx
        split at hf
        · rename_i b hmv
          obtain ⟨hko, hf1⟩ := ite'_some hf
          clear hf
          split at hf1
          · rename_i H1 hu
            cases hf1
            obtain ⟨fs, cs, hfs, hkv, hpl, hc0⟩ := keyS_ok (P := P) hT hko
            have hko2 : constOk kv = true := by rw [hkv]; exact hpl
            have ek : a.eval k = kv := agg_eq hko2 (ev_ok ha hk)
            have hM := hT.und hm
            have hc := hc0 false 9998 w
            have hv := ev_ok ha hx
            obtain ⟨hlt, em⟩ := (ev_ok ha hmv).mp
            unfold updS at hu
            split at hu
            · rename_i es clock hb
              obtain ⟨es', b1, b2⟩ := hr.rel _ _ hb
              have hg := MapKept.run_getObj_map (P := P) b1
              have hset : ∀ o2, ({ w with heap := w.heap.setIfInBounds (E.s b) o2 } : World).heap[E.s b]? = some o2 ∧ ∀ r', r' ≠ E.s b → ({ w with heap := w.heap.setIfInBounds (E.s b) o2 } : World).heap[r']? = w.heap[r']? := fun o2 => MapKept.heap_set b1
              split at hu
              · rename_i r hfa
                obtain ⟨hsb, hu⟩ := ite'_some hu
                cases hu
                rcases findS_ok (P := P) hT hko2 w 0 hfa b2 with ⟨e1, _⟩ | ⟨j, u1, u', e', e1, e2, e3, e4, e5⟩
                · cases e1
                · cases e1
                  have e4' : es'[0 + j]? = some e' := by rw [Nat.zero_add]; simpa using e4
                  have hsb2 : Instr.sameBits 10000 e'.key kv = true := by rw [e5]; exact hsb
                  obtain ⟨J, hJ⟩ : ∃ J, J = 0 + j := ⟨_, rfl⟩
                  rw [← hJ] at e2 e4' ⊢
                  have hfk : (Instr.findKey kt kv es'.toList).run P w = .ok (some (J, u')) w := by rw [findKey_S hT hfs]; exact e2
                  have hks : (Instr.keyThatStays e'.key kv).run P w = .ok kv w := by simp [Instr.keyThatStays, hsb2]
                  have hso := MapKept.run_setObj_map (P := P) (.map (es'.modify J fun e => { e with key := kv, val := a.eval x }) clock) b1
                  obtain ⟨s1, s2⟩ := hset (.map (es'.modify J fun e => { e with key := kv, val := a.eval x }) clock)
                  obtain ⟨g1, g2⟩ := hr.upd (w' := { w with heap := w.heap.setIfInBounds (E.s b) (.map (es'.modify J fun e => { e with key := kv, val := a.eval x }) clock) }) (x1 := .map (modA kv u es J) clock) hb
                    ⟨_, s1, by rw [Array.toList_modify]; exact modA_ok hko2 hv J b2⟩ s2 rfl rfl rfl (by simp) rfl
                  refine ⟨E, undef, _, _, ?_, .inr ⟨rfl, rfl⟩, g2, VR.undef, g1⟩
                  rcases h with h | h <;> simp [execOp, h, Instr.mapUpdate, run_underlying hM, em, ek, hg, hc, hfk, e4', hks, hso]
              · rename_i hfa
                cases hu
                rcases findS_ok (P := P) hT hko2 w 0 hfa b2 with ⟨_, e2⟩ | ⟨j, u1, u', e', e1, _⟩
                · have hfk : (Instr.findKey kt kv es'.toList).run P w = .ok none w := by rw [findKey_S hT hfs]; exact e2
                  have hso := MapKept.run_setObj_map (P := P) (.map (es'.push { key := kv, val := a.eval x, born := clock }) (clock + 1)) b1
                  obtain ⟨s1, s2⟩ := hset (.map (es'.push { key := kv, val := a.eval x, born := clock }) (clock + 1))
                  obtain ⟨g1, g2⟩ := hr.upd (w' := { w with heap := w.heap.setIfInBounds (E.s b) (.map (es'.push { key := kv, val := a.eval x, born := clock }) (clock + 1)) }) (x1 := .map (List.append es [⟨kv, u, clock⟩]) (Nat.succ clock)) hb
                    ⟨_, s1, by rw [Array.toList_push]; exact ML.push hko2 hv b2⟩ s2 rfl rfl rfl (by simp) rfl
                  refine ⟨E, undef, _, _, ?_, .inr ⟨rfl, rfl⟩, g2, VR.undef, g1⟩
                  rcases h with h | h <;> simp [execOp, h, Instr.mapUpdate, run_underlying hM, em, ek, hg, hc, hfk, hso]
                · cases e1
              · cases hu
            · cases hu
          · cases hf1
        · cases hf
      · cases hf
    · cases hf
  · cases hf
theorem orF_sound {P : Program} {T : Cx} {o : Oper} {f g : OpF} (hf : Sound ds P T o f) (hg : Sound ds P T o g) : Sound ds P T o (orF f g) := fun A H v H' h E a w ha hr => by
  unfold orF at h
  cases hh : f T A H with
  | none => rw [hh] at h; exact hg A H v H' h E a w ha hr
  | some r => rw [hh] at h; cases h; exact hf A H _ _ hh E a w ha hr
def o_lookupX (t : TypeId) (m k : Operand) (ok : Bool) : OpF := orF (o_lookup t m k ok) (o_lookupS t m k ok)
def o_mapUpdateX (t : TypeId) (m k x : Operand) : OpF := orF (o_mapUpdate t m k x) (o_mapUpdateS t m k x)
theorem lookupX_ok {P : Program} {T : Cx} (hT : Fits P T) {o : Oper} {t : TypeId} {m k : Operand} {ok : Bool} (h : o.op = .lookup t m k ok) : Sound ds P T o (o_lookupX t m k ok) := orF_sound (lookup_ok hT h) (lookupS_ok hT h)
theorem mapUpdateX_ok {P : Program} {T : Cx} (hT : Fits P T) {o : Oper} {t : TypeId} {m k x : Operand} (h : o.op = .mapUpdate t m k x ∨ o.op = .insert t m k x) : Sound ds P T o (o_mapUpdateX t m k x) := orF_sound (mapUpdate_ok hT h) (mapUpdateS_ok hT h)
end
end Go.Proofs.YtdkfimejabanlaaDoor
namespace Go.Proofs.YtdkfimejabanlaaDoor
open Go Go.Lib
set_option linter.unusedVariables false
set_option linter.unusedSimpArgs false
noncomputable section
variable {ds : List Deferred}
/-! ### ranging over a text -/
def o_range (t : TypeId) (x : Operand) : OpF := fun T A H => match T.und t with
  | some .string => (match ev A x with
    | some (.string s) => some (.pointer (some ⟨H.next, 0, none⟩), H.new (.siter s 0))
    | _ => none)
  | _ => none
theorem range_ok {P : Program} {T : Cx} (hT : Fits P T) {o : Oper} {t : TypeId} {x : Operand} (h : o.op = .range t x) : Sound ds P T o (o_range t x) := fun A H v H' hf E a w ha hr => by
  unfold o_range at hf
  split at hf
  · rename_i ht
    split at hf
    · rename_i s hx
      cases hf
      obtain ⟨h1, h2⟩ := hr.new (x := .siter s 0) (o := .stringIter s 0) (k := 0) rfl
      refine ⟨_, .pointer (some ⟨w.heap.size, 0, none⟩), _, _, ?_, .inl rfl, h2, ?_, h1⟩
      · have := run_range_string (P := P) w t s (hT.und ht)
        simp [execOp, h, (ev_ok ha hx).string, this, World.iter]
      · have z := VR.ptr (E := E.add H.next w.heap.size 0) (N := H.next + 1) (o := 0) (Nat.lt_succ_self H.next)
        rw [show (E.add H.next w.heap.size 0).s H.next = w.heap.size by simp [Env.add]] at z
        exact z
    · cases hf
  · cases hf
def decF (s : ByteArray) (pos : Nat) : Nat × Nat := match s.data.toList[pos]? with
  | some b => ite' (Nat.ble (Nat.succ b.toNat) 128) (b.toNat, 1) (Utf8.decode s pos)
  | none => Utf8.decode s pos
theorem decF_eq (s : ByteArray) (pos : Nat) : decF s pos = Utf8.decode s pos := by
  unfold decF
  split
  · rename_i b hb
    cases hq : Nat.ble (Nat.succ b.toNat) 128 with
    | false => rfl
    | true =>
      have hlt := Nat.le_of_ble_eq_true hq
      have hb2 : s.data[pos]? = some b := by rw [← Array.getElem?_toList]; exact hb
      obtain ⟨hp, e⟩ := Array.getElem?_eq_some_iff.1 hb2
      have hp2 : pos < s.size := hp
      have e2 : s[pos]'hp2 = b := e
      rw [decode_ascii s pos hp2 (by rw [e2]; omega), e2]
  · rfl
def o_next (x : Operand) : OpF := fun _ A H => match ev A x with
  | some (.pointer (some p)) => ite' (Nat.beq p.off 0) (match H.b.get p.block with
    | some (.siter s pos) => ite' (Nat.ble (Nat.succ pos) s.data.toList.length)
        (some (.tuple #[.bool true, .int .i64 (Int.ofNat pos), .int .i32 (Int.ofNat (decF s pos).1)], ⟨H.b.put p.block (some (.siter s (Nat.add pos (decF s pos).2))), H.next⟩))
        (some (.tuple #[.bool false], H))
    | _ => none) none
  | _ => none
theorem next_ok {P : Program} {T : Cx} {o : Oper} {x : Operand} (h : o.op = .next x true) : Sound ds P T o (o_next x) := fun A H v H' hf E a w ha hr => by
  unfold o_next at hf
  split at hf
  · rename_i p hx
    obtain ⟨h0, hf1⟩ := ite'_some hf
    clear hf
    obtain ⟨hsp, hpb, ex⟩ := (ev_ok ha hx).pptr
    have hoff := Nat.eq_of_beq_eq_true h0
    rw [hoff] at ex
    split at hf1
    · rename_i s pos hb
      have hi : w.heap[E.s p.block]? = some (.stringIter s pos) := hr.rel _ _ hb
      cases hq : Nat.ble (Nat.succ pos) s.data.toList.length with
      | true =>
        rw [hq, ite'_true] at hf1
        cases hf1
        have hlt : pos < s.size := Nat.le_of_ble_eq_true hq
        have hrun := run_next_any_at (P := P) w (E.s p.block) s pos o.type hi hlt
        obtain ⟨g1, g2⟩ := hr.upd (w' := w.iterAt (E.s p.block) s (pos + (Utf8.decode s pos).2)) (x1 := .siter s (Nat.add pos (decF s pos).2)) hb
          (by rw [decF_eq]; exact iterAt_heap w _ s pos _ hi) (fun i hne => iterAt_other w _ i s _ hne) rfl rfl rfl (by rw [iterAt_size]; exact Nat.le_refl _) rfl
        refine ⟨E, .tuple #[.bool true, .int .i64 pos, .int .i32 (Utf8.decode s pos).1], _, _, ?_, .inl rfl, g2, ?_, g1⟩
        · simp [execOp, h, ex, hrun]
        · rw [decF_eq]
          exact .tuple (l := [.bool true, .int .i64 pos, .int .i32 (Utf8.decode s pos).1]) (l' := [.bool true, .int .i64 pos, .int .i32 (Utf8.decode s pos).1]) (.cons (.same rfl) (.cons (.same rfl) (.cons (.same rfl) .nil)))
      | false =>
        rw [hq, ite'_false] at hf1
        cases hf1
        have hge : ¬ pos < s.size := by
          have := ble_false hq
          show ¬ pos < s.data.toList.length
          omega
        have hrun := run_next_end_at (P := P) w (E.s p.block) s pos o.type hi hge
        refine sound_pure (v' := .tuple #[.bool false]) hr ?_ (.tuple (l := [.bool false]) (l' := [.bool false]) (.cons (.same rfl) .nil))
        simp [execOp, h, ex, hrun]
    · cases hf1
  · cases hf
def nextD (s : Bool) (x : Operand) : OpF := match s with
  | true => o_next x
  | false => noF
end
end Go.Proofs.YtdkfimejabanlaaDoor
namespace Go.Proofs.YtdkfimejabanlaaDoor
open Go
set_option linter.unusedVariables false
set_option linter.unusedSimpArgs false
noncomputable section
variable {ds : List Deferred}
/-! ### a text of a row of bytes -/
def u8s (l : List Value) : Option (List Int) := List.rec (motive := fun _ => Option (List Int)) (some []) (fun v _ ih => match v with
  | .int .u8 n => (match ih with
    | some l => some (n :: l)
    | none => none)
  | _ => none) l
theorem u8s_cons (v : Value) (l : List Value) : u8s (v :: l) = (match v with
  | .int .u8 n => (match u8s l with
    | some l => some (n :: l)
    | none => none)
  | _ => none) := rfl
theorem u8s_ok {E : Env} {N : Nat} : ∀ {l l' : List Value} {xs : List Int}, u8s l = some xs → VL E N l l' → l' = xs.map (.int .u8) ∧ xs.length = l.length
  | [], _, xs, h, k => by cases h; cases k; exact ⟨rfl, rfl⟩
  | v :: l, l', xs, h, k => by
    rw [u8s_cons] at h
    split at h
    · rename_i n
      split at h
      · rename_i l2 h2
        cases h
        cases k with
        | cons hv ht =>
          obtain ⟨e1, e2⟩ := u8s_ok h2 ht
          rw [hv.int, e1]
          exact ⟨rfl, by simp [e2]⟩
      · cases h
    · cases h
def pushAll (xs : List Int) : List UInt8 := List.rec (motive := fun _ => List UInt8) [] (fun n _ ih => UInt8.ofNat n.toNat :: ih) xs
theorem pushAll_eq : ∀ xs : List Int, pushAll xs = xs.map fun n => UInt8.ofNat n.toNat
  | [] => rfl
  | n :: xs => by
    show _ :: pushAll xs = _
    rw [pushAll_eq xs]; rfl
/-- is this a conversion of bytes to a text? -/
def b2s (T : Cx) (s d : TypeId) : Bool := match T.und s with
  | some (.slice e) => (match T.und e with
    | some (.int .u8) => (match T.und d with
      | some .string => true
      | _ => false)
    | _ => false)
  | _ => false
theorem b2s_ok {P : Program} {T : Cx} (hT : Fits P T) {s d : TypeId} (h : b2s T s d = true) : ∃ e, P.underlying s = some (.slice e) ∧ P.underlying e = some (.int .u8) ∧ P.underlying d = some .string := by
  unfold b2s at h
  split at h
  · rename_i e h1
    split at h
    · rename_i h2
      split at h
      · rename_i h3; exact ⟨e, hT.und h1, hT.und h2, hT.und h3⟩
      · cases h
    · cases h
  · cases h
def textOf (l : List Value) : Option Value := match u8s l with
  | some xs => some (.string ⟨(pushAll xs).toArray⟩)
  | none => none
theorem textOf_run {P : Program} {E : Env} {N : Nat} {s d e : TypeId} (hs : P.underlying s = some (.slice e)) (he : P.underlying e = some (.int .u8)) (hd : P.underlying d = some .string) {l l' : List Value} {v : Value} (ht : textOf l = some v) (hl : VL E N l l') {b off n c : Nat} (hn : l.length = n) {w : World}
    (hc : ∀ i u, l'[i]? = some u → w.cell? ⟨b, off + i, none⟩ = some u) : (convert s d (.slice (some ⟨b, off, none⟩) n c)).run P w = .ok v w ∧ plainV v = true := by
  unfold textOf at ht
  split at ht
  · rename_i xs hx
    cases ht
    obtain ⟨e1, e2⟩ := u8s_ok hx hl
    refine ⟨?_, rfl⟩
    rw [run_convert_bytes_arg w s e hs he b off n c xs (by omega) (fun i hi => hc i _ (by
      have hix : i < xs.length := by omega
      rw [e1]; simp [List.getD, hix])) d hd]
    simp [strOfNums, pushAll_eq]
  · cases ht
def memConv (T : Cx) (H : Hp) (s d : TypeId) (x : Option Value) : Option Value := match x with
  | some (.slice none _ _) => ite' (b2s T s d) (some (.string ByteArray.empty)) none
  | some (.slice (some p) n c) => (match H.cells p.block p.off n with
    | some l => ite' (b2s T s d) (textOf l) none
    | none => none)
  | some (.chan none) => ite' (b2s T s d) (some (.string ByteArray.empty)) none
  | _ => none
/-- a text's bytes: a row that is only read (how many cells there are is not known). -/
def s2b (T : Cx) (s d : TypeId) : Bool := match T.und s with
  | some .string => (match T.und d with
    | some (.slice e) => (match T.und e with
      | some (.int .u8) => true
      | _ => false)
    | _ => false)
  | _ => false
def o_bytesOf (s d : TypeId) (x : Operand) : OpF := fun T A H => match ev A x with
  | some (.string b) => ite' (s2b T s d) (some (.slice (some ⟨H.next, 0, none⟩) b.data.toList.length (Nat.succ OPN), H.new (.rom (Tr.lay (byteCells b.data.toList) 0 .nil)))) none
  | _ => none
def convOr (s d : TypeId) (x : Operand) (T : Cx) (A : AA) (H : Hp) (r : Option (Value × Hp)) : Option (Value × Hp) := match r with
  | some r => some r
  | none => o_bytesOf s d x T A H
def o_convM (s d : TypeId) (x : Operand) : OpF := fun T A H => match memConv T H s d (ev A x) with
  | some v => some (v, H)
  | none => convOr s d x T A H (o_conv s d x T A H)
theorem bytesOf_ok {P : Program} {T : Cx} (hT : Fits P T) {o : Oper} {s d : TypeId} {x : Operand} (h : o.op = .convert s d x) : Sound ds P T o (o_bytesOf s d x) := fun A H v H' hf E a w ha hr => by
  unfold o_bytesOf at hf
  split at hf
  · rename_i b hx
    obtain ⟨h1, h2⟩ := ite'_some hf
    cases h2
    unfold s2b at h1
    split at h1
    · rename_i hs
      split at h1
      · rename_i e hd
        split at h1
        · rename_i he
          have e1 := (ev_ok ha hx).string
          have hrun := run_bytes_of_string (P := P) w s d e b (hT.und hs) (hT.und hd) (hT.und he)
          have hsz : b.size = b.data.toList.length := by rw [Array.length_toList]; rfl
          obtain ⟨C, hC⟩ : ∃ C, bytesRow b (grownCap w b.size 0 e) = C := ⟨_, rfl⟩
          rw [hC] at hrun
          have hat : ∀ i v, (byteCells b.data.toList)[i]? = some v → ∃ v', C[i]? = some v' ∧ VR (E.add H.next w.heap.size (grownCap w b.size 0 e)) (H.next + 1) v v' := fun i v hv => by
            rw [byteCells_eq] at hv
            rw [List.getElem?_map] at hv
            obtain ⟨u, hu, rfl⟩ := Option.map_eq_some_iff.1 hv
            obtain ⟨hi, hu2⟩ := List.getElem?_eq_some_iff.1 hu
            have hi2 : i < b.data.size := by simpa using hi
            refine ⟨_, by rw [← hC]; exact bytesRow_at b _ i hi2, ?_⟩
            have : b.data[i] = u := by rw [← hu2]; simp
            rw [this]; exact .same rfl
          have hn := HRel.new (hr.heap (w' := w.drew) rfl) (x := .rom (Tr.lay (byteCells b.data.toList) 0 .nil)) (o := .cells C e (C.size, C.size + 1)) (k := grownCap w b.size 0 e) ⟨C, e, _, rfl, fun i v hv => by
            rw [Tr.get_lay] at hv
            split at hv
            · exact hat i v (by simpa using hv)
            · cases hv⟩
          obtain ⟨n1, n2⟩ := hn
          refine ⟨_, .slice (some ⟨w.heap.size, 0, none⟩) b.size (grownCap w b.size 0 e), _, _, ?_, .inl rfl, ⟨n2.le, n2.ag, n2.dom, n2.os, n2.tape, n2.output, n2.size, n2.frame⟩, ?_, n1⟩
          · simp [execOp, h, e1, hrun]
          · rw [hsz]
            have hh : (E.add H.next w.heap.size (grownCap w b.data.toList.length 0 e)).s H.next = w.heap.size := by simp [Env.add]
            rw [← hh]
            refine .open_ (Nat.lt_succ_self _) (Nat.lt_succ_self _) ?_ ?_
            · rw [← hsz]; exact grownCap_ge _ _ _ _
            · simp [Env.add, OPN]
        · cases h1
      · cases h1
    · cases h1
  · cases hf
theorem memConv_ok {P : Program} {T : Cx} (hT : Fits P T) {E : Env} {A : AA} {a : Act} {H : Hp} {w : World} (ha : AR ds E H.next A a) (hr : HRel E H w) {s d : TypeId} {x : Operand} {v : Value} (h : memConv T H s d (ev A x) = some v) : (convert s d (a.eval x)).run P w = .ok v w ∧ plainV v = true := by
  unfold memConv at h
  split at h
  · rename_i l c hx
    obtain ⟨hb, h⟩ := ite'_some h
    cases h
    obtain ⟨e, h1, h2, h3⟩ := b2s_ok hT hb
    obtain ⟨_, _, e1⟩ := (ev_ok ha hx).snil
    rw [e1]
    exact ⟨run_convert_bytes_nil w s e h1 h2 0 0 d h3, rfl⟩
  · rename_i p n c hx
    split at h
    · rename_i l hl
      obtain ⟨hb, h⟩ := ite'_some h
      obtain ⟨e, h1, h2, h3⟩ := b2s_ok hT hb
      obtain ⟨_, hpb, c', e1, _⟩ := (ev_ok ha hx).sl
      obtain ⟨hn, l', r, hc⟩ := hr.cells hl
      rw [e1]
      exact textOf_run h1 h2 h3 h r hn (fun i u hu => by
        rw [hc i (by have := (List.getElem?_eq_some_iff.1 hu).1; rw [← r.length, hn] at this; exact this)]; exact hu)
    · cases h
  · rename_i hx
    obtain ⟨hb, h⟩ := ite'_some h
    cases h
    obtain ⟨e, h1, h2, h3⟩ := b2s_ok hT hb
    obtain ⟨⟨qb, qo, qs⟩, c, e1⟩ := (ev_ok ha hx).tl
    rw [e1]
    refine ⟨?_, rfl⟩
    have hl : (loadCells ⟨qb, qo, qs⟩ 0).run P w = .ok (([] : List Int).map (Value.int .u8)).toArray w := run_loadCells_list (P := P) w ⟨qb, qo, qs⟩ [] (fun j v hj => by simp at hj)
    rw [run_convert_bytes_string w s d e _ 0 c h1 h2 h3, run_bytesToString w _ 0 c [] hl]
    rfl
  · cases h
theorem convM_ok {P : Program} {T : Cx} (hT : Fits P T) {o : Oper} {s d : TypeId} {x : Operand} (h : o.op = .convert s d x) : Sound ds P T o (o_convM s d x) := fun A H v H' hf E a w ha hr => by
  unfold o_convM at hf
  split at hf
  · rename_i u hu
    cases hf
    obtain ⟨h1, h2⟩ := memConv_ok (P := P) hT ha hr hu
    exact sound_pure hr (by simp [execOp, h, h1]) (.same h2)
  · unfold convOr at hf
    split at hf
    · rename_i r hc
      cases hf
      exact (SoundP.sound (conv_ok hT h)) A H _ _ hc E a w ha hr
    · exact bytesOf_ok hT h A H v H' hf E a w ha hr
/-! ### all operations -/
def o_pick2 (mx : Bool) (x y : Operand) : OpF := fun _ A H => match ev A x with
  | some (.int k a) => (match ev A y with
    | some (.int _ b) => some (.int k (ite' (ite' mx (ltF a b) (ltF b a)) b a), H)
    | _ => none)
  | _ => none
theorem min2_ok {P : Program} {T : Cx} {o : Oper} {x y : Operand} {tys : Array TypeId} (h : o.op = .call ⟨.builtin .min, #[x, y], tys⟩) : SoundP ds P T o (o_pick2 false x y) := fun A H v H' hf E a ha => by
  unfold o_pick2 at hf
  split at hf
  · rename_i k p hx
    split at hf
    · rename_i k2 q hy
      cases hf
      refine pure_ok (v' := .int k (if q < p then q else p)) (fun w => ?_) ?_
      · simp [execOp, h, resolve, invoke, builtin, (ev_ok ha hx).int, (ev_ok ha hy).int, Builtin.min_, Builtin.min2, Builtin.max_, Builtin.max2]
      · have : ite' (ite' false (ltF p q) (ltF q p)) q p = if q < p then q else p := by
          show ite' (ltF q p) q p = _
          rw [ltF_eq]
          by_cases hq : q < p <;> simp [hq]
        rw [this]; exact .same rfl
    · cases hf
  · cases hf
theorem max2_ok {P : Program} {T : Cx} {o : Oper} {x y : Operand} {tys : Array TypeId} (h : o.op = .call ⟨.builtin .max, #[x, y], tys⟩) : SoundP ds P T o (o_pick2 true x y) := fun A H v H' hf E a ha => by
  unfold o_pick2 at hf
  split at hf
  · rename_i k p hx
    split at hf
    · rename_i k2 q hy
      cases hf
      refine pure_ok (v' := .int k (if q > p then q else p)) (fun w => ?_) ?_
      · simp [execOp, h, resolve, invoke, builtin, (ev_ok ha hx).int, (ev_ok ha hy).int, Builtin.min_, Builtin.min2, Builtin.max_, Builtin.max2]
      · have : ite' (ite' true (ltF p q) (ltF q p)) q p = if q > p then q else p := by
          show ite' (ltF p q) q p = _
          rw [ltF_eq]
          by_cases hq : p < q <;> simp [hq]
        rw [this]; exact .same rfl
    · cases hf
  · cases hf
def o_field (s : TypeId) (x : Operand) (f : Nat) : OpF := fun T A H => match ev A x with
  | some (.agg xs) => (match T.und s with
    | some (.struct fs) => (match fs.toList[f]? with
      | some fd => withH (partA T fd.type xs.toList fd.offset) H
      | none => none)
    | _ => none)
  | _ => none
theorem field_ok {P : Program} {T : Cx} (hT : Fits P T) {o : Oper} {s : TypeId} {x : Operand} {f : Nat} (h : o.op = .field s x f) : SoundP ds P T o (o_field s x f) := fun A H v H' hf E a ha => by
  unfold o_field at hf
  split at hf
  · rename_i xs hx
    split at hf
    · rename_i fs hfs
      split at hf
      · rename_i fd hfd
        obtain ⟨h1, e0⟩ := withH_some hf
        subst e0
        obtain ⟨l', e1, r1⟩ := (ev_ok ha hx).ag
        obtain ⟨v', r, hrun⟩ := partA_ok (P := P) hT h1 r1
        have hfd2 : fs[f]? = some fd := by simpa using hfd
        refine pure_ok (v' := v') (fun w => ?_) r
        simp [execOp, h, Instr.field, run_underlying (hT.und hfs), hfd2, asAgg, e1, hrun w]
      · cases hf
    · cases hf
  · cases hf
def mmD (mx : Bool) (args : List Operand) : OpF := match args with
  | [x, y] => o_pick2 mx x y
  | _ => noF
def callE (c : Call) : OpF := match c.callee with
  | .builtin .min => mmD false c.args.toList
  | .builtin .max => mmD true c.args.toList
  | _ => callD c
theorem callE_ok {P : Program} {T : Cx} (hT : Fits P T) {o : Oper} {c : Call} (h : o.op = .call c) : Sound ds P T o (callE c) := by
  unfold callE
  split
  · rename_i hc
    obtain ⟨callee, ⟨args⟩, tys⟩ := c
    simp only at hc; subst hc
    show Sound ds P T o (mmD false args)
    unfold mmD
    split
    · exact (SoundP.sound (min2_ok h))
    · exact (SoundP.sound noF_ok)
  · rename_i hc
    obtain ⟨callee, ⟨args⟩, tys⟩ := c
    simp only at hc; subst hc
    show Sound ds P T o (mmD true args)
    unfold mmD
    split
    · exact (SoundP.sound (max2_ok h))
    · exact (SoundP.sound noF_ok)
  · have := opD_ok (ds := ds) (P := P) hT (o := o); rw [h] at this; exact this
/-! ### a new slice of one-cell elements -/
def repl (u : Value) (n : Nat) : List Value := Nat.rec (motive := fun _ => List Value) [] (fun _ ih => u :: ih) n
theorem repl_eq (u : Value) : ∀ n, repl u n = List.replicate n u
  | 0 => rfl
  | n + 1 => by
    show u :: repl u n = _
    rw [repl_eq u n]; rfl
theorem repl_vl {E : Env} {N : Nat} {u : Value} (h : plainV u = true) : ∀ n, VL E N (repl u n) (repl u n)
  | 0 => .nil
  | n + 1 => .cons (.same h) (repl_vl h n)
def mkSl (T : Cx) (H : Hp) (e : TypeId) (n m : Nat) : Option (Value × Hp) := match T.ty.get e with
  | some i => (match i.zero with
    | some z => (match z.cells.toList with
      | [u] => ite' (plainV u) (ite' (Nat.beq i.size 1) (ite' (Nat.ble n m) (ite' (Nat.ble m 1000000000) (ite' (Nat.ble (Nat.mul i.bytes m) 281474976710656) (some (.slice (some ⟨H.next, 0, none⟩) n m, newRowB H e (repl u m))) none) none) none) none) none
      | _ => none)
    | none => none)
  | none => none
def o_makeSlice (t : TypeId) (l c : Operand) : OpF := fun T A H => match T.und t with
  | some (.slice e) => (match ev A l with
    | some (.int _ (.ofNat n)) => (match ev A c with
      | some (.int _ (.ofNat m)) => mkSl T H e n m
      | _ => none)
    | _ => none)
  | _ => none
theorem makeSlice_ok {P : Program} {T : Cx} (hT : Fits P T) {o : Oper} {t : TypeId} {l c : Operand} (h : o.op = .makeSlice t l c) : Sound ds P T o (o_makeSlice t l c) := fun A H v H' hf E a w ha hr => by
  unfold o_makeSlice at hf
  split at hf
  · rename_i e ht
    split at hf
    · rename_i kl n hl
      split at hf
      · rename_i kc m hc
        unfold mkSl at hf
        split at hf
        · rename_i i hi
          split at hf
          · rename_i z hz
            split at hf
            · rename_i u hu
              obtain ⟨h1, f1⟩ := ite'_some hf
              obtain ⟨h2, f2⟩ := ite'_some f1
              obtain ⟨h3, f3⟩ := ite'_some f2
              obtain ⟨h4, f4⟩ := ite'_some f3
              obtain ⟨h5, f5⟩ := ite'_some f4
              cases f5
              have e2 := Nat.eq_of_beq_eq_true h2
              have e3 := Nat.le_of_ble_eq_true h3
              have e4 := Nat.le_of_ble_eq_true h4
              have e5 : i.bytes * m ≤ 281474976710656 := Nat.le_of_ble_eq_true h5
              have hrun := run_make (P := P) (w := w) t e i z (hT.und ht) (hT.ty e i hi) hz kl kc (Int.ofNat n) (Int.ofNat m) (by simp) (by simpa using e3) (by show (i.bytes : Int) * (m : Int) ≤ _; rw [← Int.natCast_mul]; omega) (by simp; omega)
              have hcell : madeCells z.cells ((Int.ofNat m).toNat * i.size) = (repl u m).toArray := by
                rw [e2, repl_eq]
                have hz2 : z.cells = #[u] := Array.toList_inj.1 (by simpa using hu)
                rw [hz2]
                apply Array.ext
                · simp [madeCells]
                · intro j h1 h2
                  simp [madeCells, Nat.mod_one]
              rw [hcell] at hrun
              obtain ⟨g1, g2, g3⟩ := newRow_ok hr (repl_vl (E := E) (N := H.next) h1 m) e
              have hrun2 : (Instr.makeSlice t (.int kl (n : Int)) (.int kc (m : Int))).run P w = .ok (.slice (some ⟨w.heap.size, 0, none⟩) n m) (w.alloc (.cells (repl u m).toArray e)) := hrun
              have e6 : a.eval l = .int kl (n : Int) := (ev_ok ha hl).int
              have e7 : a.eval c = .int kc (m : Int) := (ev_ok ha hc).int
              refine ⟨_, .slice (some ⟨w.heap.size, 0, none⟩) n m, _, _, ?_, .inl rfl, g2, new_slice g3 n m (by show m < 9223372036854775808; omega), g1⟩
              simp [execOp, h, e6, e7, hrun2]
            · cases hf
          · cases hf
        · cases hf
      · cases hf
    · cases hf
  · cases hf
def mkMapD (r : Option Operand) : OpF := match r with
  | none => o_makeMap
  | some _ => noF
def opE (o : Op) : OpF := match o with
  | .convert s d x => o_convM s d x
  | .call c => callE c
  | .field s x f => o_field s x f
  | .lookup t m k ok => o_lookupX t m k ok
  | .mapUpdate t m k x => o_mapUpdateX t m k x
  | .insert t m k x => o_mapUpdateX t m k x
  | .makeMap t r => mkMapD r
  | .range t x => o_range t x
  | .makeSlice t l c => o_makeSlice t l c
  | .next x s => nextD s x
  | o => opD o
theorem opE_ok {P : Program} {T : Cx} (hT : Fits P T) {o : Oper} : Sound ds P T o (opE o.op) := by
  cases ho : o.op with
  | convert s d x => exact convM_ok hT ho
  | call c => exact callE_ok hT ho
  | field s x f => exact (SoundP.sound (field_ok hT ho))
  | lookup t m k ok => exact lookupX_ok hT ho
  | mapUpdate t m k x => exact mapUpdateX_ok hT (.inl ho)
  | insert t m k x => exact mapUpdateX_ok hT (.inr ho)
  | range t x => exact range_ok hT ho
  | makeSlice t l c => exact makeSlice_ok hT ho
  | next x s =>
    cases s with
    | true => exact next_ok ho
    | false => exact (SoundP.sound noF_ok)
  | makeMap t r =>
    show Sound ds P T o (mkMapD r)
    unfold mkMapD
    split
    · exact makeMap_ok ho
    · exact (SoundP.sound noF_ok)
  | _ => rw [← ho]; have := opD_ok (ds := ds) (P := P) hT (o := o); rw [ho] at this ⊢; exact this
end
end Go.Proofs.YtdkfimejabanlaaDoor
