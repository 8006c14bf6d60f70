import Derived.Test.YtanhkchpffkloaaGreatDoorEi
namespace Go.Proofs.YtanhkchpffkloaaGreatDoor
open Go
set_option linter.unusedVariables false
set_option linter.unusedSimpArgs false
noncomputable section
variable {ds : List Deferred}
/-- nothing is appended. -/
def sameS (s : Value) (H : Hp) : Option (Value × Hp) := match s with
  | .slice none _ _ => some (s, H)
  | .slice (some _) l c => ite' (Nat.ble l c) (some (s, H)) none
  | _ => none
def o_append (t : TypeId) (x y : Operand) : OpF := fun T A H => match ev A x with
  | some s => (match ev A y with
    | some (.slice (some p) n _) => (match T.und t with
      | some (.slice e) => (match T.ty.get e with
        | some i => ite' (Nat.beq n 0) (sameS s H) (match H.cells p.block p.off (Nat.mul n i.size) with
          | some more => appendA T H t s more n
          | none => none)
        | none => none)
      | _ => none)
    | some (.slice none _ _) => (match T.und t with
      | some (.slice e) => (match T.ty.get e with
        | some i => sameS s H
        | none => none)
      | _ => none)
    | some (.chan none) => (match T.und t with
      | some (.slice e) => (match T.ty.get e with
        | some i => sameS s H
        | none => none)
      | _ => none)
    | _ => none)
  | none => none
theorem sameS_ok {P : Program} {E : Env} {H H' : Hp} {w : World} {t ty e : TypeId} {i : TypeInfo} {s s' v : Value} {b2 : Option Addr} {c2 : Nat} (hP : P.underlying t = some (.slice e)) (hI : P.info? e = some i) (h : sameS s H = some (v, H')) (hs : VR E H.next s s') :
    H' = H ∧ v = s ∧ (Builtin.append_ #[t, t] ty #[s', .slice b2 0 c2]).run P w = .ok s' w := by
  have hfc : (Builtin.firstCells i.size 0 (.slice b2 0 c2)).run P w = .ok #[] w := by
    cases b2 <;> simp [Builtin.firstCells, loadCells, loadCellsFrom]
  unfold sameS at h
  split at h
  · cases h
    obtain ⟨e1, e2, e3⟩ := hs.snil
    subst e3
    refine ⟨rfl, rfl, ?_⟩
    simp [Builtin.append_, run_underlying hP, sizeOf, typeInfo, hI, Builtin.lenOf, hfc]
  · rename_i p l c
    obtain ⟨h1, h2⟩ := ite'_some h
    cases h2
    have hle := Nat.le_of_ble_eq_true h1
    obtain ⟨_, _, c', e3, hc⟩ := hs.sl
    have hl : l ≤ c' := by
      rcases hc with z | z
      · omega
      · omega
    subst e3
    refine ⟨rfl, rfl, ?_⟩
    simp [Builtin.append_, run_underlying hP, sizeOf, typeInfo, hI, Builtin.lenOf, hfc, hl, storeCells]
  · cases h
theorem append_ok {P : Program} {T : Cx} (hT : Fits P T) {o : Oper} {t : TypeId} {x y : Operand} (h : o.op = .call ⟨.builtin .append, #[x, y], #[t, t]⟩) : Sound ds P T o (o_append t x y) := fun A H v H' hf E a w ha hr => by
  unfold o_append at hf
  split at hf
  · rename_i s hs
    split at hf
    · rename_i p n c hy
      split at hf
      · rename_i e hu
        split at hf
        · rename_i i hi
          obtain ⟨_, _, c', e1, _⟩ := (ev_ok ha hy).sl
          cases hn0 : Nat.beq n 0 with
          | true =>
            rw [hn0, ite'_true] at hf
            have hn := Nat.eq_of_beq_eq_true hn0
            subst hn
            obtain ⟨g1, g2, g3⟩ := sameS_ok (P := P) (w := w) (ty := o.type) (b2 := some ⟨E.s p.block, p.off, none⟩) (c2 := c') (hT.und hu) (hT.ty e i hi) hf (ev_ok ha hs)
            subst g1 g2
            refine sound_pure (v' := a.eval x) hr ?_ (ev_ok ha hs)
            simp [execOp, h, resolve, invoke, builtin, e1, g3]
          | false =>
            rw [hn0, ite'_false] at hf
            split at hf
            · rename_i more hm
              obtain ⟨hn1, more', r1, hc⟩ := hr.cells hm
              obtain ⟨E', v', w', h1, h2, h3, h4⟩ := append_run (P := P) (tx := t) (ty := o.type) (xx := .slice (some ⟨E.s p.block, p.off, none⟩) n c') (n := n) hT hr hf (ev_ok ha hs) r1 (fun e2 i2 hu2 hi2 => by
                rw [hu] at hu2; cases hu2
                rw [hi] at hi2; cases hi2
                exact SrcA.slice (hT.und hu) (by rw [← r1.length]; exact hn1) (fun j u hu => by
                  have hj : j < n * i.size := by have := (List.getElem?_eq_some_iff.1 hu).1; rw [← r1.length, hn1] at this; exact this
                  rw [add_plain', hc j hj]; exact hu)) (fun e2 i2 hu2 hi2 => by
                  rw [hu] at hu2; cases hu2
                  rw [hi] at hi2; cases hi2
                  exact hn1)
              refine ⟨E', v', w', _, ?_, .inl rfl, h2, h3, h4⟩
              simp [execOp, h, resolve, invoke, builtin, e1, h1]
            · cases hf
        · cases hf
      · cases hf
    · rename_i n c hy
      split at hf
      · rename_i e hu
        split at hf
        · rename_i i hi
          obtain ⟨e1, e2, e3⟩ := (ev_ok ha hy).snil
          obtain ⟨g1, g2, g3⟩ := sameS_ok (P := P) (w := w) (ty := o.type) (b2 := none) (c2 := 0) (hT.und hu) (hT.ty e i hi) hf (ev_ok ha hs)
          subst g1 g2
          refine sound_pure (v' := a.eval x) hr ?_ (ev_ok ha hs)
          simp [execOp, h, resolve, invoke, builtin, e3, g3]
        · cases hf
      · cases hf
    · rename_i hy
      split at hf
      · rename_i e hu
        split at hf
        · rename_i i hi
          obtain ⟨a2, c2, e3⟩ := (ev_ok ha hy).tl
          obtain ⟨g1, g2, g3⟩ := sameS_ok (P := P) (w := w) (ty := o.type) (b2 := some a2) (c2 := c2) (hT.und hu) (hT.ty e i hi) hf (ev_ok ha hs)
          subst g1 g2
          refine sound_pure (v' := a.eval x) hr ?_ (ev_ok ha hs)
          simp [execOp, h, resolve, invoke, builtin, e3, g3]
        · cases hf
      · cases hf
    · cases hf
  · cases hf
/-- the bytes of a text, as cells. -/
def byteCells (l : List UInt8) : List Value := List.rec (motive := fun _ => List Value) [] (fun b _ ih => .int .u8 (Int.ofNat b.toNat) :: ih) l
theorem byteCells_eq : ∀ (l : List UInt8), byteCells l = l.map fun b => .int .u8 (b.toNat : Int)
  | [] => rfl
  | b :: l => by
    show _ :: byteCells l = _
    rw [byteCells_eq l]; rfl
theorem byteCells_vl {E : Env} {N : Nat} : ∀ (l : List UInt8), VL E N (byteCells l) (byteCells l)
  | [] => .nil
  | b :: l => .cons (.same rfl) (byteCells_vl l)
theorem sameStr_ok {P : Program} {E : Env} {H H' : Hp} {w : World} {t t2 ty e : TypeId} {i : TypeInfo} {s s' v : Value} {b : ByteArray} (hP : P.underlying t = some (.slice e)) (hI : P.info? e = some i) (h2 : P.underlying t2 = some .string) (hb : b.size = 0) (h : sameS s H = some (v, H')) (hs : VR E H.next s s') :
    H' = H ∧ v = s ∧ (Builtin.append_ #[t, t2] ty #[s', .string b]).run P w = .ok s' w := by
  have hfc : (Builtin.firstCells i.size 0 (.string b)).run P w = .ok #[] w := by
    show (pure ((b.extract 0 0).data.map fun b => Value.int .u8 (b.toNat : Int)) : Sem (Array Value)).run P w = _
    have : (b.extract 0 0).data = #[] := by rw [ByteArray.data_extract]; simp
    simp [this]
  unfold sameS at h
  split at h
  · cases h
    obtain ⟨e1, e2, e3⟩ := hs.snil
    subst e3
    refine ⟨rfl, rfl, ?_⟩
    simp [Builtin.append_, run_underlying hP, run_underlying h2, sizeOf, typeInfo, hI, Builtin.lenOf, hfc, hb]
  · rename_i p l c
    obtain ⟨h1, h2'⟩ := ite'_some h
    cases h2'
    have hle := Nat.le_of_ble_eq_true h1
    obtain ⟨_, _, c', e3, hc⟩ := hs.sl
    have hl : l ≤ c' := by
      rcases hc with z | z
      · omega
      · omega
    subst e3
    refine ⟨rfl, rfl, ?_⟩
    simp [Builtin.append_, run_underlying hP, run_underlying h2, sizeOf, typeInfo, hI, Builtin.lenOf, hfc, hl, storeCells, hb]
  · cases h
def o_appendStr (t t2 : TypeId) (x y : Operand) : OpF := fun T A H => match ev A x with
  | some s => (match ev A y with
    | some (.string b) => (match T.und t2 with
      | some .string => (match T.und t with
        | some (.slice e) => (match T.ty.get e with
          | some i => ite' (Nat.beq i.size 1) (ite' (Nat.beq b.data.toList.length 0) (sameS s H) (appendA T H t s (byteCells b.data.toList) b.data.toList.length)) none
          | none => none)
        | _ => none)
      | _ => none)
    | _ => none)
  | none => none
theorem appendStr_ok {P : Program} {T : Cx} (hT : Fits P T) {o : Oper} {t t2 : TypeId} {x y : Operand} (h : o.op = .call ⟨.builtin .append, #[x, y], #[t, t2]⟩) : Sound ds P T o (o_appendStr t t2 x y) := fun A H v H' hf E a w ha hr => by
  unfold o_appendStr at hf
  split at hf
  · rename_i s hs
    split at hf
    · rename_i b hy
      split at hf
      · rename_i ht2
        split at hf
        · rename_i e hu
          split at hf
          · rename_i i hi
            obtain ⟨h1, hf1⟩ := ite'_some hf
            clear hf
            have hsz := Nat.eq_of_beq_eq_true h1
            have e1 := (ev_ok ha hy).string
            cases hz0 : Nat.beq b.data.toList.length 0 with
            | true =>
              rw [hz0, ite'_true] at hf1
              have hb0 : b.size = 0 := Nat.eq_of_beq_eq_true hz0
              obtain ⟨q1, q2, q3⟩ := sameStr_ok (P := P) (w := w) (ty := o.type) (hT.und hu) (hT.ty e i hi) (hT.und ht2) hb0 hf1 (ev_ok ha hs)
              subst q1 q2
              refine sound_pure hr ?_ (ev_ok ha hs)
              simp [execOp, h, resolve, invoke, builtin, e1, q3]
            | false =>
            rw [hz0, ite'_false] at hf1
            have hlen : (byteCells b.data.toList).length = b.data.toList.length := by rw [byteCells_eq]; simp
            obtain ⟨E', v', w', h1, h2, h3, h4⟩ := append_run (P := P) (tx := t2) (ty := o.type) (xx := .string b) (n := b.data.toList.length) hT hr hf1 (ev_ok ha hs) (byteCells_vl b.data.toList) (fun e2 i2 hu2 hi2 => by
                rw [hu] at hu2; cases hu2
                rw [hi] at hi2; cases hi2
                refine ⟨.inr (hT.und ht2), fun W => by simp [Builtin.lenOf], fun W hW => ?_⟩
                have e5 : b.extract 0 b.data.toList.length = b := by
                  apply ByteArray.ext
                  rw [ByteArray.data_extract]
                  simp
                show (pure ((b.extract 0 b.data.toList.length).data.map fun b => Value.int .u8 (b.toNat : Int)) : Sem (Array Value)).run P W = _
                rw [e5, byteCells_eq]
                have e6 : b.data.map (fun b => Value.int .u8 (b.toNat : Int)) = (b.data.toList.map fun b => Value.int .u8 (b.toNat : Int)).toArray := by
                  apply Array.ext'; simp
                simp [e6]) (fun e2 i2 hu2 hi2 => by
                  rw [hu] at hu2; cases hu2
                  rw [hi] at hi2; cases hi2
                  rw [hlen, hsz, Nat.mul_one])
            refine ⟨E', v', w', _, ?_, .inl rfl, h2, h3, h4⟩
            simp [execOp, h, resolve, invoke, builtin, e1, h1]
          · cases hf
        · cases hf
      · cases hf
    · cases hf
  · cases hf
/-! ### a piece of a text -/
def strSl (s : ByteArray) (lo hi : Option Value) : Option Value := match optB hi s.data.toList.length with
  | some h => (match optB lo 0 with
    | some l => ite' (Nat.ble l h) (ite' (Nat.ble h s.data.toList.length) (some (.string ⟨(List.take (Nat.sub h l) (List.drop l s.data.toList)).toArray⟩)) none) none
    | none => none)
  | none => none
def o_strSlice (t : TypeId) (x : Operand) (lo hi : Option Operand) : OpF := fun T A H => match ev A x with
  | some (.string s) => (match evO A lo with
    | some lo => (match evO A hi with
      | some hi => (match T.und t with
        | some .string => withH (strSl s lo hi) H
        | _ => none)
      | none => none)
    | none => none)
  | _ => none
theorem bounds_runS {P : Program} {w : World} {len l h : Nat} {lo hi : Option Value} (hh : (hi = none ∧ h = len) ∨ ∃ k, hi = some (.int k h)) (hl : (lo = none ∧ l = 0) ∨ ∃ k, lo = some (.int k l)) (h1 : l ≤ h) (h2 : h ≤ len) :
    (Instr.sliceBounds false len len lo hi none).run P w = .ok (l, h, len) w := by
  unfold Instr.sliceBounds
  rcases hh with ⟨rfl, rfl⟩ | ⟨k2, rfl⟩ <;> rcases hl with ⟨rfl, rfl⟩ | ⟨k3, rfl⟩ <;> simp [bound_run, h1, h2]
theorem strSlice_ok {P : Program} {T : Cx} (hT : Fits P T) {o : Oper} {t : TypeId} {x : Operand} {lo hi : Option Operand} (h : o.op = .slice t x lo hi none) : SoundP ds P T o (o_strSlice t x lo hi) := fun A H v H' hf E a ha => by
  unfold o_strSlice at hf
  split at hf
  · rename_i s hs
    split at hf
    · rename_i lo' hlo
      split at hf
      · rename_i hi' hhi
        split at hf
        · rename_i ht
          obtain ⟨hf2, e0⟩ := withH_some hf
          subst e0
          unfold strSl at hf2
          split at hf2
          · rename_i h0 hh
            split at hf2
            · rename_i l hl
              obtain ⟨z1, f1⟩ := ite'_some hf2
              obtain ⟨z2, f2⟩ := ite'_some f1
              cases f2
              have k1 := Nat.le_of_ble_eq_true z1
              have k2 : h0 ≤ s.size := Nat.le_of_ble_eq_true z2
              have hb := fun w => bounds_runS (P := P) (w := w) (len := s.size) (l := l) (h := h0) (lo := lo.map a.eval) (hi := hi.map a.eval)
                ((optB_ok ha hhi hh).imp (fun z => ⟨z.1, z.2.2⟩) id) ((optB_ok ha hlo hl).imp (fun z => ⟨z.1, z.2.2⟩) id) k1 k2
              have e : s.extract l h0 = ⟨(List.take (Nat.sub h0 l) (List.drop l s.data.toList)).toArray⟩ := by
                apply ByteArray.ext
                rw [ByteArray.data_extract]
                apply Array.ext'
                simp [List.extract_eq_take_drop]
              refine pure_ok (v' := .string (s.extract l h0)) (fun w => ?_) (by rw [e]; exact .same rfl)
              simp [execOp, h, Instr.sliceAt, Instr.slice, run_underlying (hT.und ht), (ev_ok ha hs).string, hb w]
            · cases hf2
          · cases hf2
        · cases hf
      · cases hf
    · cases hf
  · cases hf
def sliceD (t : TypeId) (x : Operand) (lo hi mx : Option Operand) : OpF := fun T A H => match mx with
  | none => (match o_strSlice t x lo hi T A H with
    | some r => some r
    | none => o_slice t x lo hi none T A H)
  | some m => o_slice t x lo hi (some m) T A H
theorem sliceD_ok {P : Program} {T : Cx} (hT : Fits P T) {o : Oper} {t : TypeId} {x : Operand} {lo hi mx : Option Operand} (h : o.op = .slice t x lo hi mx) : SoundP ds P T o (sliceD t x lo hi mx) := fun A H v H' hf E a ha => by
  unfold sliceD at hf
  split at hf
  · split at hf
    · rename_i r hr
      cases hf
      exact strSlice_ok hT h A H v H' hr E a ha
    · exact slice_ok hT h A H v H' hf E a ha
  · exact slice_ok hT h A H v H' hf E a ha
/-! ### which operation is done how -/
def noF : OpF := fun _ _ _ => none
def lenD (args : List Operand) (tys : List TypeId) : OpF := match args with
  | [x] => (match tys with
    | [t] => o_len t x
    | _ => noF)
  | _ => noF
def appD (args : List Operand) (tys : List TypeId) : OpF := match args with
  | [x, y] => (match tys with
    | [t, t2] => ite' (Nat.beq t2 t) (o_append t x y) (o_appendStr t t2 x y)
    | _ => noF)
  | _ => noF
def callD (c : Call) : OpF := match c.callee with
  | .builtin b => (match b with
    | .len => lenD c.args.toList c.argTypes.toList
    | .append => appD c.args.toList c.argTypes.toList
    | _ => noF)
  | _ => noF
def o_neg (x : Operand) : OpF := fun _ A H => match ev A x with
  | some (.int k n) => withH (intBin .sub k 0 n) H
  | _ => none
theorem neg_ok {P : Program} {T : Cx} {o : Oper} {t : TypeId} {x : Operand} (h : o.op = .unOp .neg t x) : SoundP ds P T o (o_neg x) := fun A H v H' hf E a ha => by
  unfold o_neg at hf
  split at hf
  · rename_i k n hx
    obtain ⟨hv, e0⟩ := withH_some hf
    subst e0
    have key := fun w => intBin_ok (P := P) (w := w) (op := .sub) (t := t) (k := k) (k' := k) hv (.inr rfl)
    refine pure_ok (v' := v) (fun w => ?_) (.same (key default).2)
    have h1 := (key w).1
    have e1 := (ev_ok ha hx).int
    have h2 : (Op.unary .neg (.int k n)).run P w = .ok v w := by
      simp [binOp] at h1
      exact h1
    simp [execOp, h, e1, h2]
  · cases hf
def o_compl (x : Operand) : OpF := fun _ A H => match ev A x with
  | some (.int k n) => withH (intBin .xor k (ite' k.signed (-1) k.max) n) H
  | _ => none
theorem compl_ok {P : Program} {T : Cx} {o : Oper} {t : TypeId} {x : Operand} (h : o.op = .unOp .xor t x) : SoundP ds P T o (o_compl x) := fun A H v H' hf E a ha => by
  unfold o_compl at hf
  split at hf
  · rename_i k n hx
    obtain ⟨hv, e0⟩ := withH_some hf
    subst e0
    have key := fun w => intBin_ok (P := P) (w := w) (op := .xor) (t := t) (k := k) (k' := k) hv (.inr rfl)
    refine pure_ok (v' := v) (fun w => ?_) (.same (key default).2)
    have h1 := (key w).1
    have e1 := (ev_ok ha hx).int
    have e2 : ite' k.signed (-1 : Int) k.max = if k.signed then -1 else k.max := by cases k.signed <;> rfl
    rw [e2] at h1
    have h2 : (Op.unary .xor (.int k n)).run P w = .ok v w := by
      simp [binOp] at h1
      exact h1
    simp [execOp, h, e1, h2]
  · cases hf
def unD (op : UnOp) (x : Operand) : OpF := match op with
  | .not => o_not x
  | .neg => o_neg x
  | .xor => o_compl x
  | _ => noF
def opD (o : Op) : OpF := match o with
  | .move x => o_move x
  | .assign x => o_move x
  | .pick c a b => o_pick c a b
  | .extract t i => o_extract t i
  | .binOp op t x y _ => o_bin op t x y
  | .unOp op _ x => unD op x
  | .nilCheck x => o_nilCheck x
  | .load t x => o_load t x
  | .store t x y => o_store t x y
  | .fieldAddr s x f => o_fieldAddr s x f
  | .indexAddr t x i => o_indexAddr t x i
  | .index t x i => o_index t x i
  | .box t x => o_box t x
  | .alloc t => o_alloc t
  | .build t ps => o_build t ps.toList
  | .buildSlice t n ps => o_buildSlice t n ps.toList
  | .convert s d x => o_conv s d x
  | .slice t x lo hi mx => sliceD t x lo hi mx
  | .makeInterface t x => o_mkIface t x
  | .call c => callD c
  | _ => noF
/-- an operation that looks at no memory. -/
def isPure (o : Op) : Bool := match o with
  | .move _ | .assign _ | .pick _ _ _ | .extract _ _ | .binOp _ _ _ _ _ | .nilCheck _ | .fieldAddr _ _ _ | .indexAddr _ _ _ | .index _ _ _ | .build _ _ | .convert _ _ _ | .slice _ _ _ _ _ | .makeInterface _ _ => true
  | .unOp .not _ _ => true
  | .unOp .neg _ _ => true
  | .unOp .xor _ _ => true
  | .call c => (match c.callee with
    | .builtin .len => true
    | _ => false)
  | _ => false
theorem noF_ok {P : Program} {T : Cx} {o : Oper} : SoundP ds P T o noF := fun A H v H' hf => by cases hf
theorem lenD_ok {P : Program} {T : Cx} (hT : Fits P T) {o : Oper} {c : Call} (h : o.op = .call c) (hc : c.callee = .builtin .len) : SoundP ds P T o (lenD c.args.toList c.argTypes.toList) := by
  obtain ⟨callee, ⟨args⟩, ⟨tys⟩⟩ := c
  simp only at hc; subst hc
  show SoundP ds P T o (lenD args tys)
  unfold lenD
  split
  · split
    · exact len_ok hT h
    · exact noF_ok
  · exact noF_ok
theorem appD_ok {P : Program} {T : Cx} (hT : Fits P T) {o : Oper} {c : Call} (h : o.op = .call c) (hc : c.callee = .builtin .append) : Sound ds P T o (appD c.args.toList c.argTypes.toList) := by
  obtain ⟨callee, ⟨args⟩, ⟨tys⟩⟩ := c
  simp only at hc; subst hc
  show Sound ds P T o (appD args tys)
  unfold appD
  split
  · split
    · rename_i t t2
      cases hb : Nat.beq t2 t with
      | true =>
        have := Nat.eq_of_beq_eq_true hb
        subst this
        exact append_ok hT h
      | false => exact appendStr_ok hT h
    · exact (SoundP.sound noF_ok)
  · exact (SoundP.sound noF_ok)
theorem opD_pure {P : Program} {T : Cx} (hT : Fits P T) {o : Oper} (h : isPure o.op = true) : SoundP ds P T o (opD o.op) := by
  unfold isPure at h
  cases ho : o.op with
  | move x => exact move_ok (.inl ho)
  | assign x => exact move_ok (.inr ho)
  | pick c a b => exact pick_ok ho
  | extract t i => exact extract_ok ho
  | binOp op t x y t' => exact bin_ok hT ho
  | nilCheck x => exact nilCheck_ok ho
  | fieldAddr s x f => exact fieldAddr_ok hT ho
  | indexAddr t x i => exact indexAddr_ok hT ho
  | index t x i => exact index_ok hT ho
  | build t ps => exact build_ok hT ho
  | convert s d x => exact conv_ok hT ho
  | makeInterface t x => exact mkIface_ok hT ho
  | slice t x lo hi mx => exact sliceD_ok hT ho
  | unOp op t x => cases op with
    | not => exact not_ok ho
    | neg => exact neg_ok ho
    | xor => exact compl_ok ho
    | _ => exact noF_ok
  | call c =>
    show SoundP ds P T o (callD c)
    unfold callD
    split
    · rename_i b hc
      split
      · exact lenD_ok hT ho hc
      · rw [ho] at h; simp [hc] at h
      · exact noF_ok
    · exact noF_ok
  | _ => rw [ho] at h; cases h
theorem opD_ok {P : Program} {T : Cx} (hT : Fits P T) {o : Oper} : Sound ds P T o (opD o.op) := by
  cases hp : isPure o.op with
  | true => exact (SoundP.sound (opD_pure hT hp))
  | false =>
    cases ho : o.op with
    | load t x => exact load_ok hT ho
    | store t x y => exact store_ok hT ho
    | box t x => exact box_ok ho
    | alloc t => exact alloc_ok hT ho
    | buildSlice t n ps => exact buildSlice_ok hT ho
    | unOp op t x => cases op with
      | not => rw [ho] at hp; cases hp
      | neg => rw [ho] at hp; cases hp
      | xor => rw [ho] at hp; cases hp
      | _ => exact (SoundP.sound noF_ok)
    | call c =>
      show Sound ds P T o (callD c)
      unfold callD
      split
      · rename_i b hc
        split
        · exact (SoundP.sound (lenD_ok hT ho hc))
        · exact appD_ok hT ho hc
        · exact (SoundP.sound noF_ok)
      · exact (SoundP.sound noF_ok)
    | move x => rw [ho] at hp; cases hp
    | assign x => rw [ho] at hp; cases hp
    | pick c a b => rw [ho] at hp; cases hp
    | extract t i => rw [ho] at hp; cases hp
    | binOp op t x y t' => rw [ho] at hp; cases hp
    | nilCheck x => rw [ho] at hp; cases hp
    | fieldAddr s x f => rw [ho] at hp; cases hp
    | indexAddr t x i => rw [ho] at hp; cases hp
    | index t x i => rw [ho] at hp; cases hp
    | build t ps => rw [ho] at hp; cases hp
    | convert s d x => rw [ho] at hp; cases hp
    | makeInterface t x => rw [ho] at hp; cases hp
    | slice t x lo hi mx => rw [ho] at hp; cases hp
    | _ => exact (SoundP.sound noF_ok)
end
end Go.Proofs.YtanhkchpffkloaaGreatDoor
