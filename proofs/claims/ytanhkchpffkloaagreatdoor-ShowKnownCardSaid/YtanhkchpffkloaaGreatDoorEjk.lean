import Derived.Test.YtanhkchpffkloaaGreatDoorEjj
namespace Go.Proofs.YtanhkchpffkloaaGreatDoor
open Go
set_option linter.unusedVariables false
set_option linter.unusedSimpArgs false
noncomputable section
variable {ds : List Deferred}
/-! ### new slices of any elements -/
def cyc (zl : List Value) (m : Nat) : List Value := Nat.rec (motive := fun _ => List Value) [] (fun _ ih => List.append zl ih) m
theorem cyc_vl {E : Env} {N : Nat} {zl : List Value} (h : plainL zl = true) : ∀ m, VL E N (cyc zl m) (cyc zl m)
  | 0 => .nil
  | m + 1 => (plainL_ok h).append (cyc_vl h m)
theorem cyc_len (zl : List Value) : ∀ m, (cyc zl m).length = m * zl.length
  | 0 => by show 0 = _; omega
  | m + 1 => by
    show (zl ++ cyc zl m).length = _
    rw [List.length_append, cyc_len zl m, Nat.succ_mul]; omega
theorem cyc_get (zl : List Value) : ∀ m j, j < m * zl.length → (cyc zl m)[j]? = zl[j % zl.length]?
  | 0, j, h => by omega
  | m + 1, j, h => by
    show (zl ++ cyc zl m)[j]? = _
    by_cases hj : j < zl.length
    · rw [List.getElem?_append_left hj, Nat.mod_eq_of_lt hj]
    · rw [List.getElem?_append_right (by omega), cyc_get zl m _ (by rw [Nat.succ_mul] at h; omega), ← Nat.mod_eq_sub_mod (by omega)]
theorem cyc_made (z : Array Value) (m : Nat) : madeCells z (m * z.size) = (cyc z.toList m).toArray := by
  have hl := cyc_len z.toList m
  apply Array.ext
  · simp [madeCells, hl]
  · intro j h1 h2
    have hj : j < m * z.size := by simpa [madeCells] using h1
    have hz : 0 < z.size := by
      rcases Nat.eq_zero_or_pos z.size with h0 | h0
      · rw [h0] at hj; omega
      · exact h0
    have hg := cyc_get z.toList m j (by simpa using hj)
    have hm : j % z.size < z.size := Nat.mod_lt _ hz
    have e1 : (madeCells z (m * z.size))[j] = z[j % z.size] := by simp [madeCells, hm]
    rw [e1]
    have h3 : (cyc z.toList m)[j]? = some z[j % z.size] := by rw [hg]; simp [hm]
    have h4 : j < (cyc z.toList m).length := by simpa using h2
    rw [List.getElem?_eq_getElem h4] at h3
    simpa using (Option.some.inj h3).symm
theorem app_zeros {P : Program} {w : World} {t tx ty e : TypeId} {i : TypeInfo} {z : Value} {n : Nat} {k kk : IntKind} (ht : P.underlying t = some (.slice e)) (hk : P.underlying tx = some (.int kk)) (hi : P.info? e = some i) (hz : i.zero = some z) (hsz : i.size ≠ 0) (h0 : 0 < n) (h63 : (n : Int) ≤ 1000000000) (h48 : n * i.bytes ≤ 281474976710656) :
    (Builtin.append_ #[t, tx] ty #[.slice none 0 0, .int k n]).run P w = .ok (.slice (some ⟨w.heap.size, 0, none⟩) n (grownCap w n 0 e)) (w.drew.alloc (.cells (Builtin.zeroCells z.cells n ++ Builtin.zeroCells z.cells (grownCap w n 0 e - n)) e)) := by
  have hn : n ≠ 0 := by omega
  have h63' : ¬ (9223372036854775807 < (n : Int)) := by omega
  have h48' : ¬ (281474976710656 < Builtin.nextslicecap n 0 * i.bytes) := by rw [nextslicecap_zero h0]; omega
  have wl : IntKind.i64.wrap (n : Int) = n := by rw [IntKind.wrap_i64]; omega
  have hb : ¬ (281474976710656 < (n : Int) * (i.bytes : Int)) := by rw [← Int.natCast_mul]; omega
  have hns : ¬ (n * i.size = 0) := fun h => by rcases Nat.mul_eq_zero.1 h with h | h <;> contradiction
  have h4 : ¬ ((n : Int) < 0) := by omega
  have h5 : ¬ ((n : Int) ≤ 0) := by omega
  have h6 : max (n : Int) 0 = n := by omega
  simp [Builtin.append_, run_underlying ht, run_underlying hk, sizeOf, typeInfo, zeroValue, hi, hz, hn, h63', h48', Question.forced, run_firstCells_none, newRow, grownCap, wl, hb, hns, asInt, asIntOf, h4, h5, h6]

def mkSlG (T : Cx) (H : Hp) (e : TypeId) (n m : Nat) : Option (Value × Hp) := match T.ty.get e with
  | some i => (match i.zero with
    | some z => ite' (plainL z.cells.toList) (ite' (Nat.beq i.size z.cells.toList.length) (ite' (Nat.ble n m) (ite' (Nat.ble m 1000000000) (ite' (Nat.ble (Nat.mul i.bytes m) 281474976710656) (some (.slice (some ⟨H.next, 0, none⟩) n m, newRowB H e (cyc z.cells.toList m))) none) none) none) none) none
    | none => none)
  | none => none
def o_mkSliceG (t : TypeId) (l c : Operand) : OpF := fun T A H => match T.und t with
  | some (.slice e) => (match ev A l with
    | some (.int _ (.ofNat n)) => (match ev A c with
      | some (.int _ (.ofNat m)) => mkSlG T H e n m
      | _ => none)
    | _ => none)
  | _ => none
theorem mkSliceG_ok {P : Program} {T : Cx} (hT : Fits P T) {o : Oper} {t : TypeId} {l c : Operand} (h : o.op = .makeSlice t l c) : Sound ds P T o (o_mkSliceG t l c) := fun A H v H' hf E a w ha hr => by
  unfold o_mkSliceG at hf
  split at hf
  · rename_i e ht
    split at hf
    · rename_i kl n hl
      split at hf
      · rename_i kc m hc
        unfold mkSlG at hf
        split at hf
        · rename_i i hi
          split at hf
          · rename_i z hz
            obtain ⟨h1, f1⟩ := ite'_some hf
            obtain ⟨h2, f2⟩ := ite'_some f1
            obtain ⟨h3, f3⟩ := ite'_some f2
            obtain ⟨h4, f4⟩ := ite'_some f3
            obtain ⟨h5, f5⟩ := ite'_some f4
            cases f5
            have e2 : i.size = z.cells.size := by have := Nat.eq_of_beq_eq_true h2; simpa using this
            have e3 := Nat.le_of_ble_eq_true h3
            have e4 := Nat.le_of_ble_eq_true h4
            have e5 : i.bytes * m ≤ 281474976710656 := Nat.le_of_ble_eq_true h5
            have hrun := run_make (P := P) (w := w) t e i z (hT.und ht) (hT.ty e i hi) hz kl kc (Int.ofNat n) (Int.ofNat m) (by simp) (by simpa using e3) (by show (i.bytes : Int) * (m : Int) ≤ _; rw [← Int.natCast_mul]; omega) (by simp; omega)
            have hcell : madeCells z.cells ((Int.ofNat m).toNat * i.size) = (cyc z.cells.toList m).toArray := by rw [e2]; exact cyc_made z.cells m
            rw [hcell] at hrun
            obtain ⟨g1, g2, g3⟩ := newRow_ok hr (cyc_vl (E := E) (N := H.next) h1 m) e
            have hrun2 : (Instr.makeSlice t (.int kl (n : Int)) (.int kc (m : Int))).run P w = .ok (.slice (some ⟨w.heap.size, 0, none⟩) n m) (w.alloc (.cells (cyc z.cells.toList m).toArray e)) := hrun
            have e6 : a.eval l = .int kl (n : Int) := (ev_ok ha hl).int
            have e7 : a.eval c = .int kc (m : Int) := (ev_ok ha hc).int
            refine ⟨_, .slice (some ⟨w.heap.size, 0, none⟩) n m, _, _, ?_, .inl rfl, g2, new_slice g3 n m (by show m < 9223372036854775808; omega), g1⟩
            simp [execOp, h, e6, e7, hrun2]
          · cases hf
        · cases hf
      · cases hf
    · cases hf
  · cases hf
/-! ### a slice's room -/
def o_cap (t : TypeId) (x : Operand) : OpF := fun T A H => match T.und t with
  | some (.slice _) => (match ev A x with
    | some (.slice none _ _) => some (.int .i64 0, H)
    | some (.slice (some p) _ c) => ite' (Nat.ble (Nat.succ c) OPN) (some (.int .i64 (Int.ofNat c), H)) none
    | _ => none)
  | _ => none
theorem cap_ok {P : Program} {T : Cx} (hT : Fits P T) {o : Oper} {t : TypeId} {x : Operand} (h : o.op = .call ⟨.builtin .cap, #[x], #[t]⟩) : SoundP ds P T o (o_cap t x) := fun A H v H' hf E a ha => by
  unfold o_cap at hf
  split at hf
  · rename_i e ht
    split at hf
    · rename_i l c hx
      cases hf
      obtain ⟨_, _, e1⟩ := (ev_ok ha hx).snil
      refine pure_ok (v' := .int .i64 0) (fun w => ?_) (.same rfl)
      simp [execOp, h, resolve, invoke, builtin, Builtin.cap_, run_underlying (hT.und ht), e1, goInt]
    · rename_i p l c hx
      obtain ⟨h1, h2⟩ := ite'_some hf
      cases h2
      have hlt : c < OPN := Nat.le_of_ble_eq_true h1
      obtain ⟨_, _, c', e1, hc⟩ := (ev_ok ha hx).sl
      have e2 : c' = c := by
        rcases hc with z | z
        · exact z.2
        · omega
      subst e2
      refine pure_ok (v' := .int .i64 (Int.ofNat c')) (fun w => ?_) (.same rfl)
      simp [execOp, h, resolve, invoke, builtin, Builtin.cap_, run_underlying (hT.und ht), e1, goInt]
    · cases hf
  · cases hf
/-! ### elements go over -/
theorem copy_run {P : Program} {w w' : World} {t t2 ty e : TypeId} {i : TypeInfo} {b : Addr} {s : Option Addr} {dl dc sl sc n : Nat} {news : List Value} (ht : P.underlying t = some (.slice e)) (hi : P.info? e = some i) (hn : n = Nat.min sl dl) (hf : (Builtin.firstCells i.size n (.slice s sl sc)).run P w = .ok news.toArray w) (hst : (storeCells b news).run P w = .ok () w') :
    (Builtin.copy_ #[t, t2] ty #[.slice (some b) dl dc, .slice s sl sc]).run P w = .ok (.int .i64 n) w' := by
  subst hn
  simp [Builtin.copy_, run_underlying ht, Builtin.lenOf, sizeOf, typeInfo, hi, hf, hst, goInt]
def copyA (H : Hp) (size : Nat) (p q : Addr) (n : Nat) : Option (Value × Hp) := match H.cells q.block q.off (Nat.mul n size) with
  | some l => ite' (allOne l) (match Hp.storeAll l H p.block p.off with
    | some H' => some (.int .i64 (Int.ofNat n), H')
    | none => none) none
  | none => none
def o_copy (t : TypeId) (x y : Operand) : OpF := fun T A H => match T.und t with
  | some (.slice e) => (match T.ty.get e with
    | some i => (match ev A x with
      | some (.slice (some p) dl _) => (match ev A y with
        | some (.slice (some q) sl _) => copyA H i.size p q (Nat.min sl dl)
        | _ => none)
      | _ => none)
    | none => none)
  | _ => none
theorem copy_ok {P : Program} {T : Cx} (hT : Fits P T) {o : Oper} {t t2 : TypeId} {x y : Operand} (h : o.op = .call ⟨.builtin .copy, #[x, y], #[t, t2]⟩) : Sound ds P T o (o_copy t x y) := fun A H v H' hf E a w ha hr => by
  unfold o_copy at hf
  split at hf
  · rename_i e ht
    split at hf
    · rename_i i hi
      split at hf
      · rename_i p dl dc hx
        split at hf
        · rename_i q sl sc hy
          unfold copyA at hf
          split at hf
          · rename_i l hl
            obtain ⟨h1, h2⟩ := ite'_some hf
            split at h2
            · rename_i H1 hst
              cases h2
              obtain ⟨_, _, dc', e1, _⟩ := (ev_ok ha hx).sl
              obtain ⟨_, _, sc', e2, _⟩ := (ev_ok ha hy).sl
              obtain ⟨hn, l', r1, hc⟩ := hr.cells hl
              have hl' : l'.length = Nat.min sl dl * i.size := by rw [← r1.length]; exact hn
              obtain ⟨w', e3, r3, g3, n3⟩ := storeAll_ok (P := P) (off := p.off) 0 (by simpa using hst) r1 h1 hr
              have hfc := run_firstCells_some (P := P) w i.size (Nat.min sl dl) ⟨E.s q.block, q.off, none⟩ sl sc' l' hl' (fun j u hu => by
                rw [add_plain', hc j (by have := (List.getElem?_eq_some_iff.1 hu).1; rw [hl'] at this; exact this)]; exact hu)
              have hrun := copy_run (P := P) (t2 := t2) (ty := o.type) (dl := dl) (dc := dc') (hT.und ht) (hT.ty e i hi) rfl hfc e3
              refine ⟨E, .int .i64 (Int.ofNat (Nat.min sl dl)), w', _, ?_, .inl rfl, g3, .same rfl, r3⟩
              simp [execOp, h, resolve, invoke, builtin, e1, e2, hrun]
            · cases h2
          · cases hf
        · cases hf
      · cases hf
    · cases hf
  · cases hf
/-! ### zeroes are appended to nothing -/
def o_appendMake (t : TypeId) (x y : Operand) : OpF := fun T A H => match ev A x with
  | some (.slice none _ _) => (match ev A y with
    | some (.int _ (.ofNat n)) => (match T.und t with
      | some (.slice e) => (match T.ty.get e with
        | some i => (match i.zero with
          | some z => ite' (plainL z.cells.toList) (ite' (Nat.beq i.size z.cells.toList.length) (ite' (Nat.beq i.size 0) none (ite' (Nat.beq n 0) none (ite' (Nat.ble n 1000000000) (ite' (Nat.ble (Nat.mul n i.bytes) 281474976710656) (growNew H (cyc z.cells.toList n) n e i.size) none) none))) none) none
          | none => none)
        | none => none)
      | _ => none)
    | _ => none)
  | _ => none
/-- .. to something. -/
def appMk1 (T : Cx) (H : Hp) (t : TypeId) (s : Value) (n : Nat) : Option (Value × Hp) := match T.und t with
  | some (.slice e) => (match T.ty.get e with
    | some i => (match i.zero with
      | some z => ite' (plainL z.cells.toList) (ite' (Nat.beq i.size z.cells.toList.length) (ite' (Nat.beq i.size 0) none (ite' (Nat.beq n 0) none (ite' (Nat.ble n 1000000000) (ite' (Nat.ble (Nat.mul n i.bytes) 281474976710656) (appendA T H t s (cyc z.cells.toList n) n) none) none))) none) none
      | none => none)
    | none => none)
  | _ => none
def o_appMk (t : TypeId) (x y : Operand) : OpF := fun T A H => match ev A x with
  | some s => (match ev A y with
    | some (.int _ (.ofNat n)) => appMk1 T H t s n
    | _ => none)
  | _ => none
theorem srcZ {P : Program} {w : World} {t tx ty e : TypeId} {i : TypeInfo} {z : Value} {n : Nat} {k kk : IntKind} (ht : P.underlying t = some (.slice e)) (hk : P.underlying tx = some (.int kk)) (hi : P.info? e = some i) (hz : i.zero = some z) (hsz : i.size ≠ 0) (h0 : 0 < n) (hn9 : n ≤ 1000000000) (h48 : n * i.bytes ≤ 281474976710656) :
    SrcR P w t tx ty e i z (.int k n) n (cyc z.cells.toList n) := by
  have wl : IntKind.i64.wrap (n : Int) = n := by rw [IntKind.wrap_i64]; omega
  have hb : ¬ (281474976710656 < (n : Int) * (i.bytes : Int)) := by rw [← Int.natCast_mul]; omega
  have hns : ¬ (n * i.size = 0) := fun h => by rcases Nat.mul_eq_zero.1 h with h | h <;> omega
  have h4 : ¬ ((n : Int) < 0) := by omega
  have h5 : ¬ ((n : Int) ≤ 0) := by omega
  have h6 : max (n : Int) 0 = n := by omega
  have hzc : Builtin.zeroCells z.cells n = (cyc z.cells.toList n).toArray := cyc_made z.cells n
  have hzl : (Builtin.zeroCells z.cells n).toList = cyc z.cells.toList n := by rw [hzc]
  refine ⟨fun _ h63 _ => ?_, fun b sLen sCap olds hlo holds hg h63 hfit => ?_, fun b sLen sCap w' hroom hst => ?_⟩
  · rw [← hzc]
    exact app_zeros ht hk hi hz hsz h0 (by omega) h48
  · have hn : ¬ (sLen + n ≤ sCap) := by omega
    have h63' : ¬ (9223372036854775807 < ((sLen : Int) + (n : Int))) := by omega
    have h48' : ¬ (281474976710656 < Builtin.nextslicecap (sLen + n) sCap * i.bytes) := by omega
    have hf := run_firstCells_some (P := P) w.drew i.size sLen b sLen sCap olds hlo holds
    rw [← hzc]
    simp [Builtin.append_, run_underlying ht, run_underlying hk, sizeOf, typeInfo, zeroValue, hi, hz, hn, h63', h48', Question.forced, hf, newRow, grownCap, wl, hb, hns, asInt, asIntOf, h4, h5, h6]
  · simp [Builtin.append_, run_underlying ht, run_underlying hk, sizeOf, typeInfo, zeroValue, hi, hz, hroom, wl, hb, hns, asInt, asIntOf, h4, h5, h6, hzl, hst]
theorem appMk_ok {P : Program} {T : Cx} (hT : Fits P T) {o : Oper} {t t2 : TypeId} {kk : IntKind} (hk : T.und t2 = some (.int kk)) {x y : Operand} (h : o.op = .call ⟨.builtin .append, #[x, y], #[t, t2]⟩) : Sound ds P T o (o_appMk t x y) := fun A H v H' hf E a w ha hr => by
  unfold o_appMk at hf
  split at hf
  · rename_i s hx
    split at hf
    · rename_i k n hy
      unfold appMk1 at hf
      split at hf
      · rename_i e ht
        split at hf
        · rename_i i hi
          split at hf
          · rename_i z hz
            obtain ⟨h1, f1⟩ := ite'_some hf
            obtain ⟨h2, f2⟩ := ite'_some f1
            obtain ⟨h3, f3⟩ := ite'_none f2
            obtain ⟨h4, f4⟩ := ite'_none f3
            obtain ⟨h5, f5⟩ := ite'_some f4
            obtain ⟨h6, f6⟩ := ite'_some f5
            have e2 : i.size = z.cells.size := by have := Nat.eq_of_beq_eq_true h2; simpa using this
            have e3 : i.size ≠ 0 := fun e0 => by rw [e0] at h3; cases h3
            have e4 : 0 < n := Nat.pos_of_ne_zero fun e0 => by rw [e0] at h4; cases h4
            have e5 := Nat.le_of_ble_eq_true h5
            have e6 : n * i.bytes ≤ 281474976710656 := Nat.le_of_ble_eq_true h6
            have q2 : a.eval y = .int k (n : Int) := (ev_ok ha hy).int
            obtain ⟨E', v', w', g1, g2, g3, g4⟩ := append_runR (P := P) (tx := t2) (ty := o.type) (xx := .int k (n : Int)) hT hr f6 (ev_ok ha hx) (cyc_vl (E := E) (N := H.next) h1 n) (fun e' i' z' hu' hi' hz' => by
              rw [ht] at hu'; cases hu'
              rw [hi] at hi'; cases hi'
              rw [hz] at hz'; cases hz'
              exact srcZ (hT.und ht) (hT.und hk) (hT.ty e i hi) hz e3 e4 e5 e6) (fun e' i' hu' hi' => by
              rw [ht] at hu'; cases hu'
              rw [hi] at hi'; cases hi'
              rw [cyc_len, e2]; simp)
            refine ⟨E', v', w', _, ?_, .inl rfl, g2, g3, g4⟩
            simp [execOp, h, resolve, invoke, builtin, q2, g1]
          · cases hf
        · cases hf
      · cases hf
    · cases hf
  · cases hf
def o_appX (t t2 : TypeId) (x y : Operand) : OpF := fun T A H => match T.und t2 with
  | some (.int _) => orF (o_appendMake t x y) (o_appMk t x y) T A H
  | _ => appD [x, y] [t, t2] T A H
theorem appX_ok {P : Program} {T : Cx} (hT : Fits P T) {o : Oper} {t t2 : TypeId} {x y : Operand} (h : o.op = .call ⟨.builtin .append, #[x, y], #[t, t2]⟩) : Sound ds P T o (o_appX t t2 x y) := fun A H v H' hf E a w ha hr => by
  unfold o_appX at hf
  split at hf
  · rename_i kk hk
    unfold orF at hf
    cases hcase : o_appendMake t x y T A H with
    | none =>
      rw [hcase] at hf
      exact appMk_ok hT hk h A H v H' hf E a w ha hr
    | some rr =>
    rw [hcase] at hf
    have hf0 : some rr = some (v, H') := hf
    rw [hf0] at hcase
    have hf := hcase
    clear hcase hf0
    unfold o_appendMake at hf
    split at hf
    · rename_i l0 c0 hx
      split at hf
      · rename_i k n hy
        split at hf
        · rename_i e ht
          split at hf
          · rename_i i hi
            split at hf
            · rename_i z hz
              obtain ⟨h1, f1⟩ := ite'_some hf
              obtain ⟨h2, f2⟩ := ite'_some f1
              obtain ⟨h3, f3⟩ := ite'_none f2
              obtain ⟨h4, f4⟩ := ite'_none f3
              obtain ⟨h5, f5⟩ := ite'_some f4
              obtain ⟨h6, f6⟩ := ite'_some f5
              cases f6
              have e2 : i.size = z.cells.size := by have := Nat.eq_of_beq_eq_true h2; simpa using this
              have e3 : i.size ≠ 0 := fun e0 => by rw [e0] at h3; cases h3
              have e4 : 0 < n := Nat.pos_of_ne_zero fun e0 => by rw [e0] at h4; cases h4
              have e5 := Nat.le_of_ble_eq_true h5
              have e6 : n * i.bytes ≤ 281474976710656 := Nat.le_of_ble_eq_true h6
              obtain ⟨_, _, q1⟩ := (ev_ok ha hx).snil
              have q2 : a.eval y = .int k (n : Int) := (ev_ok ha hy).int
              have hrun := app_zeros (P := P) (w := w) (ty := o.type) (k := k) (hT.und ht) (hT.und hk) (hT.ty e i hi) hz e3 e4 (by omega) e6
              have hzc : Builtin.zeroCells z.cells n = (cyc z.cells.toList n).toArray := cyc_made z.cells n
              rw [hzc] at hrun
              obtain ⟨g1, g2, g3⟩ := grown_new hr (cyc_vl (E := E) (N := H.next) h1 n) (e := e) (z := z.cells) (c := grownCap w n 0 e) (n := n) (size := i.size) (by rw [cyc_len, e2]; simp) e2.symm (cap_ge w n 0 e)
              refine ⟨_, _, _, _, ?_, .inl rfl, g2, g3 (Nat.pos_of_ne_zero e3), g1⟩
              simp [execOp, h, resolve, invoke, builtin, q1, q2, hrun]
            · cases hf
          · cases hf
        · cases hf
      · cases hf
    · cases hf
  · exact appD_ok hT h rfl A H v H' hf E a w ha hr
/-! ### functions that hold values -/
def o_makeFunc (f : FuncId) (first cap : List Operand) : OpF := fun _ A H => match evL A first with
  | some l => (match evL A cap with
    | some m => some (.func (.func f) l.toArray m.toArray, H)
    | none => none)
  | none => none
def makeFuncD (f : Fn) (first cap : List Operand) : OpF := match f with
  | .func f => o_makeFunc f first cap
  | _ => noF
theorem makeFunc_ok {P : Program} {T : Cx} {o : Oper} {f : Fn} {first cap : Array Operand} (h : o.op = .makeFunc f first cap) : SoundP ds P T o (makeFuncD f first.toList cap.toList) := by
  unfold makeFuncD
  split
  · rename_i f
    intro A H v H' hf E a ha
    unfold o_makeFunc at hf
    split at hf
    · rename_i l hl
      split at hf
      · rename_i m hm
        cases hf
        have r1 := evL_ok ha hl
        have r2 := evL_ok ha hm
        refine pure_ok (v' := .func (.func f) (first.map a.eval) (cap.map a.eval)) (fun w => by simp [execOp, h, Instr.makeFunc]) ?_
        have := VR.clo (f := f) r1 r2
        rw [show (first.toList.map a.eval).toArray = first.map a.eval from by apply Array.ext'; simp, show (cap.toList.map a.eval).toArray = cap.map a.eval from by apply Array.ext'; simp] at this
        exact this
      · cases hf
    · cases hf
  · exact noF_ok
def capD (args : List Operand) (tys : List TypeId) : OpF := match args with
  | [x] => (match tys with
    | [t] => o_cap t x
    | _ => noF)
  | _ => noF
def copyD (args : List Operand) (tys : List TypeId) : OpF := match args with
  | [x, y] => (match tys with
    | [t, t2] => o_copy t x y
    | _ => noF)
  | _ => noF
def appF (args : List Operand) (tys : List TypeId) : OpF := match args with
  | [x, y] => (match tys with
    | [t, t2] => o_appX t t2 x y
    | _ => noF)
  | _ => noF
def callF (c : Call) : OpF := match c.callee with
  | .builtin .cap => capD c.args.toList c.argTypes.toList
  | .builtin .copy => copyD c.args.toList c.argTypes.toList
  | .builtin .append => appF c.args.toList c.argTypes.toList
  | _ => callE c
def opF (o : Op) : OpF := match o with
  | .call c => callF c
  | .makeSlice t l c => o_mkSliceG t l c
  | .makeFunc f first cap => makeFuncD f first.toList cap.toList
  | o => opE o
theorem callF_ok {P : Program} {T : Cx} (hT : Fits P T) {o : Oper} {c : Call} (h : o.op = .call c) : Sound ds P T o (callF c) := by
  unfold callF
  split
  · rename_i hc
    obtain ⟨callee, ⟨args⟩, ⟨tys⟩⟩ := c
    simp only at hc; subst hc
    show Sound ds P T o (capD args tys)
    unfold capD
    split
    · split
      · exact (SoundP.sound (cap_ok hT h))
      · exact (SoundP.sound noF_ok)
    · exact (SoundP.sound noF_ok)
  · rename_i hc
    obtain ⟨callee, ⟨args⟩, ⟨tys⟩⟩ := c
    simp only at hc; subst hc
    show Sound ds P T o (copyD args tys)
    unfold copyD
    split
    · split
      · exact copy_ok hT h
      · exact (SoundP.sound noF_ok)
    · exact (SoundP.sound noF_ok)
  · rename_i hc
    obtain ⟨callee, ⟨args⟩, ⟨tys⟩⟩ := c
    simp only at hc; subst hc
    show Sound ds P T o (appF args tys)
    unfold appF
    split
    · split
      · exact appX_ok hT h
      · exact (SoundP.sound noF_ok)
    · exact (SoundP.sound noF_ok)
  · exact callE_ok hT h
theorem opF_ok {P : Program} {T : Cx} (hT : Fits P T) {o : Oper} : Sound ds P T o (opF o.op) := by
  cases ho : o.op with
  | call c => exact callF_ok hT ho
  | makeSlice t l c => exact mkSliceG_ok hT ho
  | makeFunc f first cap => exact (SoundP.sound (makeFunc_ok ho))
  | _ => have := opE_ok (ds := ds) (P := P) hT (o := o); rw [ho] at this; exact this
end
end Go.Proofs.YtanhkchpffkloaaGreatDoor
