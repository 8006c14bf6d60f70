import Derived.Test.YtdkfimejabanlaaDoorEq3
import Derived.LaidEql
namespace Go.Proofs.YtdkfimejabanlaaDoor
open Go
set_option linter.unusedVariables false
set_option linter.unusedSimpArgs false
noncomputable section
variable {ds : List Deferred}
/-! ### new slices of any elements -/
def cyc (zl : List Value) (m : Nat) : List Value := Nat.rec (motive := fun _ => List Value) [] (fun _ ih => List.append zl ih) m
theorem cyc_vl {E : Env} {N : Nat} {zl : List Value} (h : plainL zl = true) : ∀ m, VL E N (cyc zl m) (cyc zl m)
  | 0 => .nil
  | m + 1 => (plainL_ok h).append (cyc_vl h m)
theorem cyc_len (zl : List Value) : ∀ m, (cyc zl m).length = m * zl.length
  | 0 => by show 0 = _; omega
  | m + 1 => by
    show (zl ++ cyc zl m).length = _
    rw [List.length_append, cyc_len zl m, Nat.succ_mul]; omega
theorem cyc_get (zl : List Value) : ∀ m j, j < m * zl.length → (cyc zl m)[j]? = zl[j % zl.length]?
  | 0, j, h => by omega
  | m + 1, j, h => by
    show (zl ++ cyc zl m)[j]? = _
    by_cases hj : j < zl.length
    · rw [List.getElem?_append_left hj, Nat.mod_eq_of_lt hj]
    · rw [List.getElem?_append_right (by omega), cyc_get zl m _ (by rw [Nat.succ_mul] at h; omega), ← Nat.mod_eq_sub_mod (by omega)]
theorem cyc_made (z : Array Value) (m : Nat) : madeCells z (m * z.size) = (cyc z.toList m).toArray := by
  have hl := cyc_len z.toList m
  apply Array.ext
  · simp [madeCells, hl]
  · intro j h1 h2
    have hj : j < m * z.size := by simpa [madeCells] using h1
    have hz : 0 < z.size := by
      rcases Nat.eq_zero_or_pos z.size with h0 | h0
      · rw [h0] at hj; omega
      · exact h0
    have hg := cyc_get z.toList m j (by simpa using hj)
    have hm : j % z.size < z.size := Nat.mod_lt _ hz
    have e1 : (madeCells z (m * z.size))[j] = z[j % z.size] := by simp [madeCells, hm]
    rw [e1]
    have h3 : (cyc z.toList m)[j]? = some z[j % z.size] := by rw [hg]; simp [hm]
    have h4 : j < (cyc z.toList m).length := by simpa using h2
    rw [List.getElem?_eq_getElem h4] at h3
    simpa using (Option.some.inj h3).symm
theorem app_zeros {P : Program} {w : World} {t tx ty e : TypeId} {i : TypeInfo} {z : Value} {n : Nat} {k kk : IntKind} (ht : P.underlying t = some (.slice e)) (hk : P.underlying tx = some (.int kk)) (hi : P.info? e = some i) (hz : i.zero = some z) (hsz : i.size ≠ 0) (h0 : 0 < n) (h63 : (n : Int) ≤ 1000000000) (h48 : n * i.bytes ≤ 281474976710656) :
    (Builtin.append_ #[t, tx] ty #[.slice none 0 0, .int k n]).run P w = .ok (.slice (some ⟨w.heap.size, 0, none⟩) n (grownCap w n 0 e)) (w.drew.alloc (.cells (Builtin.zeroCells z.cells n ++ Builtin.zeroCells z.cells (grownCap w n 0 e - n)) e)) := by
  have hn : n ≠ 0 := by omega
  have h63' : ¬ (9223372036854775807 < (n : Int)) := by omega
  have h48' : ¬ (281474976710656 < Builtin.nextslicecap n 0 * i.bytes) := by rw [nextslicecap_zero h0]; omega
  have wl : IntKind.i64.wrap (n : Int) = n := by rw [IntKind.wrap_i64]; omega
  have hb : ¬ (281474976710656 < (n : Int) * (i.bytes : Int)) := by rw [← Int.natCast_mul]; omega
  have hns : ¬ (n * i.size = 0) := fun h => by rcases Nat.mul_eq_zero.1 h with h | h <;> contradiction
  have h4 : ¬ ((n : Int) < 0) := by omega
  have h5 : ¬ ((n : Int) ≤ 0) := by omega
  have h6 : max (n : Int) 0 = n := by omega
  simp [Builtin.append_, run_underlying ht, run_underlying hk, sizeOf, typeInfo, zeroValue, hi, hz, hn, h63', h48', Question.forced, run_firstCells_none, newRow, grownCap, wl, hb, hns, asInt, asIntOf, h4, h5, h6]

def mkSlG (T : Cx) (H : Hp) (e : TypeId) (n m : Nat) : Option (Value × Hp) := match T.ty.get e with
  | some i => (match i.zero with
    | some z => ite' (plainL z.cells.toList) (ite' (Nat.beq i.size z.cells.toList.length) (ite' (Nat.ble n m) (ite' (Nat.ble m 1000000000) (ite' (Nat.ble (Nat.mul i.bytes m) 281474976710656) (some (.slice (some ⟨H.next, 0, none⟩) n m, newRowB H e (cyc z.cells.toList m))) none) none) none) none) none
    | none => none)
  | none => none
def o_mkSliceG (t : TypeId) (l c : Operand) : OpF := fun T A H => match T.und t with
  | some (.slice e) => (match ev A l with
    | some (.int _ (.ofNat n)) => (match ev A c with
      | some (.int _ (.ofNat m)) => mkSlG T H e n m
      | _ => none)
    | _ => none)
  | _ => none
theorem mkSliceG_ok {P : Program} {T : Cx} (hT : Fits P T) {o : Oper} {t : TypeId} {l c : Operand} (h : o.op = .makeSlice t l c) : Sound ds P T o (o_mkSliceG t l c) := fun A H v H' hf E a w ha hr => by
  unfold o_mkSliceG at hf
  split at hf
  · rename_i e ht
    split at hf
    · rename_i kl n hl
      split at hf
      · rename_i kc m hc
        unfold mkSlG at hf
        split at hf
        · rename_i i hi
          split at hf
          · rename_i z hz
            obtain ⟨h1, f1⟩ := ite'_some hf
            obtain ⟨h2, f2⟩ := ite'_some f1
            obtain ⟨h3, f3⟩ := ite'_some f2
            obtain ⟨h4, f4⟩ := ite'_some f3
            obtain ⟨h5, f5⟩ := ite'_some f4
            cases f5
            have e2 : i.size = z.cells.size := by have := Nat.eq_of_beq_eq_true h2; simpa using this
            have e3 := Nat.le_of_ble_eq_true h3
            have e4 := Nat.le_of_ble_eq_true h4
            have e5 : i.bytes * m ≤ 281474976710656 := Nat.le_of_ble_eq_true h5
            have hrun := run_make (P := P) (w := w) t e i z (hT.und ht) (hT.ty e i hi) hz kl kc (Int.ofNat n) (Int.ofNat m) (by simp) (by simpa using e3) (by show (i.bytes : Int) * (m : Int) ≤ _; rw [← Int.natCast_mul]; omega) (by simp; omega)
            have hcell : madeCells z.cells ((Int.ofNat m).toNat * i.size) = (cyc z.cells.toList m).toArray := by rw [e2]; exact cyc_made z.cells m
            rw [hcell] at hrun
            obtain ⟨g1, g2, g3⟩ := newRow_ok hr (cyc_vl (E := E) (N := H.next) h1 m) e
            have hrun2 : (Instr.makeSlice t (.int kl (n : Int)) (.int kc (m : Int))).run P w = .ok (.slice (some ⟨w.heap.size, 0, none⟩) n m) (w.alloc (.cells (cyc z.cells.toList m).toArray e)) := hrun
            have e6 : a.eval l = .int kl (n : Int) := (ev_ok ha hl).int
            have e7 : a.eval c = .int kc (m : Int) := (ev_ok ha hc).int
            refine ⟨_, .slice (some ⟨w.heap.size, 0, none⟩) n m, _, _, ?_, .inl rfl, g2, new_slice g3 n m (by show m < 9223372036854775808; omega), g1⟩
            simp [execOp, h, e6, e7, hrun2]
          · cases hf
        · cases hf
      · cases hf
    · cases hf
  · cases hf
/-! ### a slice's room -/
def o_cap (t : TypeId) (x : Operand) : OpF := fun T A H => match T.und t with
  | some (.slice _) => (match ev A x with
    | some (.slice none _ _) => some (.int .i64 0, H)
    | some (.slice (some p) _ c) => ite' (Nat.ble (Nat.succ c) OPN) (some (.int .i64 (Int.ofNat c), H)) none
    | _ => none)
  | _ => none
theorem cap_ok {P : Program} {T : Cx} (hT : Fits P T) {o : Oper} {t : TypeId} {x : Operand} (h : o.op = .call ⟨.builtin .cap, #[x], #[t]⟩) : SoundP ds P T o (o_cap t x) := fun A H v H' hf E a ha => by
  unfold o_cap at hf
  split at hf
  · rename_i e ht
    split at hf
    · rename_i l c hx
      cases hf
      obtain ⟨_, _, e1⟩ := (ev_ok ha hx).snil
      refine pure_ok (v' := .int .i64 0) (fun w => ?_) (.same rfl)
      simp [execOp, h, resolve, invoke, builtin, Builtin.cap_, run_underlying (hT.und ht), e1, goInt]
    · rename_i p l c hx
      obtain ⟨h1, h2⟩ := ite'_some hf
      cases h2
      have hlt : c < OPN := Nat.le_of_ble_eq_true h1
      obtain ⟨_, _, c', e1, hc⟩ := (ev_ok ha hx).sl
      have e2 : c' = c := by
        rcases hc with z | z
        · exact z.2
        · omega
      subst e2
      refine pure_ok (v' := .int .i64 (Int.ofNat c')) (fun w => ?_) (.same rfl)
      simp [execOp, h, resolve, invoke, builtin, Builtin.cap_, run_underlying (hT.und ht), e1, goInt]
    · cases hf
  · cases hf
/-! ### elements go over -/
theorem copy_run {P : Program} {w w' : World} {t t2 ty e : TypeId} {i : TypeInfo} {b : Addr} {s : Option Addr} {dl dc sl sc n : Nat} {news : List Value} (ht : P.underlying t = some (.slice e)) (hi : P.info? e = some i) (hn : n = Nat.min sl dl) (hf : (Builtin.firstCells i.size n (.slice s sl sc)).run P w = .ok news.toArray w) (hst : (storeCells b news).run P w = .ok () w') :
    (Builtin.copy_ #[t, t2] ty #[.slice (some b) dl dc, .slice s sl sc]).run P w = .ok (.int .i64 n) w' := by
  subst hn
  simp [Builtin.copy_, run_underlying ht, Builtin.lenOf, sizeOf, typeInfo, hi, hf, hst, goInt]
def copyA (H : Hp) (size : Nat) (p q : Addr) (n : Nat) : Option (Value × Hp) := match H.cells q.block q.off (Nat.mul n size) with
  | some l => ite' (allOne l) (match Hp.storeAll l H p.block p.off with
    | some H' => some (.int .i64 (Int.ofNat n), H')
    | none => none) none
  | none => none
def o_copy (t : TypeId) (x y : Operand) : OpF := fun T A H => match T.und t with
  | some (.slice e) => (match T.ty.get e with
    | some i => (match ev A x with
      | some (.slice (some p) dl _) => (match ev A y with
        | some (.slice (some q) sl _) => copyA H i.size p q (Nat.min sl dl)
        | _ => none)
      | _ => none)
    | none => none)
  | _ => none
theorem copy_ok {P : Program} {T : Cx} (hT : Fits P T) {o : Oper} {t t2 : TypeId} {x y : Operand} (h : o.op = .call ⟨.builtin .copy, #[x, y], #[t, t2]⟩) : Sound ds P T o (o_copy t x y) := fun A H v H' hf E a w ha hr => by
  unfold o_copy at hf
  split at hf
  · rename_i e ht
    split at hf
    · rename_i i hi
      split at hf
      · rename_i p dl dc hx
        split at hf
        · rename_i q sl sc hy
          unfold copyA at hf
          split at hf
          · rename_i l hl
            obtain ⟨h1, h2⟩ := ite'_some hf
            split at h2
            · rename_i H1 hst
              cases h2
              obtain ⟨_, _, dc', e1, _⟩ := (ev_ok ha hx).sl
              obtain ⟨_, _, sc', e2, _⟩ := (ev_ok ha hy).sl
              obtain ⟨hn, l', r1, hc⟩ := hr.cells hl
              have hl' : l'.length = Nat.min sl dl * i.size := by rw [← r1.length]; exact hn
              obtain ⟨w', e3, r3, g3, n3⟩ := storeAll_ok (P := P) (off := p.off) 0 (by simpa using hst) r1 h1 hr
              have hfc := run_firstCells_some (P := P) w i.size (Nat.min sl dl) ⟨E.s q.block, q.off, none⟩ sl sc' l' hl' (fun j u hu => by
                rw [add_plain', hc j (by have := (List.getElem?_eq_some_iff.1 hu).1; rw [hl'] at this; exact this)]; exact hu)
              have hrun := copy_run (P := P) (t2 := t2) (ty := o.type) (dl := dl) (dc := dc') (hT.und ht) (hT.ty e i hi) rfl hfc e3
              refine ⟨E, .int .i64 (Int.ofNat (Nat.min sl dl)), w', _, ?_, .inl rfl, g3, .same rfl, r3⟩
              simp [execOp, h, resolve, invoke, builtin, e1, e2, hrun]
            · cases h2
          · cases hf
        · cases hf
      · cases hf
    · cases hf
  · cases hf
/-- nothing goes over. -/
def lenX (v : Option Value) : Option Nat := match v with
  | some (.slice _ n _) => some n
  | some (.chan none) => some 0
  | _ => none
theorem lenX_ok {E : Env} {N : Nat} {A : AA} {a : Act} (ha : AR ds E N A a) {x : Operand} {n : Nat} (h : lenX (ev A x) = some n) : ∃ s c, a.eval x = .slice s n c := by
  unfold lenX at h
  split at h
  · rename_i p k c hx
    cases h
    cases p with
    | none => obtain ⟨e1, e2, e3⟩ := (ev_ok ha hx).snil; subst e1; exact ⟨_, _, e3⟩
    | some p => obtain ⟨_, _, c', e3, _⟩ := (ev_ok ha hx).sl; exact ⟨_, _, e3⟩
  · rename_i hx
    cases h
    obtain ⟨p, c, e3⟩ := (ev_ok ha hx).tl
    exact ⟨_, _, e3⟩
  · cases h
def o_copy0 (t : TypeId) (x y : Operand) : OpF := fun T A H => match T.und t with
  | some (.slice e) => (match T.ty.get e with
    | some i => (match lenX (ev A x) with
      | some dl => (match lenX (ev A y) with
        | some sl => ite' (Nat.beq (Nat.min sl dl) 0) (some (.int .i64 0, H)) none
        | none => none)
      | none => none)
    | none => none)
  | _ => none
theorem copy0_ok {P : Program} {T : Cx} (hT : Fits P T) {o : Oper} {t t2 : TypeId} {x y : Operand} (h : o.op = .call ⟨.builtin .copy, #[x, y], #[t, t2]⟩) : Sound ds P T o (o_copy0 t x y) := fun A H v H' hf E a w ha hr => by
  unfold o_copy0 at hf
  split at hf
  · rename_i e ht
    split at hf
    · rename_i i hi
      split at hf
      · rename_i dl hd
        split at hf
        · rename_i sl hs
          obtain ⟨h1, h2⟩ := ite'_some hf
          cases h2
          have hn := Nat.eq_of_beq_eq_true h1
          obtain ⟨b, dc, e1⟩ := lenX_ok ha hd
          obtain ⟨s, sc, e2⟩ := lenX_ok ha hs
          have hn2 : Nat.min sl dl = 0 := hn
          have hfc : (Builtin.firstCells i.size 0 (.slice s sl sc)).run P w = .ok #[] w := by
            cases s with
            | none => simp [Builtin.firstCells]
            | some q =>
              have hl : (loadCells q 0).run P w = .ok (([] : List Value)).toArray w := run_loadCells_list (P := P) w q [] (fun j v hj => by simp at hj)
              simp [Builtin.firstCells, hl]
          refine sound_pure (v' := .int .i64 0) hr ?_ (.same rfl)
          cases b with
          | none => simp [execOp, h, resolve, invoke, builtin, e1, e2, Builtin.copy_, run_underlying (hT.und ht), Builtin.lenOf, sizeOf, typeInfo, hT.ty e i hi, hn2, hfc, goInt]
          | some b =>
            have hst : (storeCells b []).run P w = .ok () w := by simp [storeCells]
            simp [execOp, h, resolve, invoke, builtin, e1, e2, Builtin.copy_, run_underlying (hT.und ht), Builtin.lenOf, sizeOf, typeInfo, hT.ty e i hi, hn2, hfc, hst, goInt]
        · cases hf
      · cases hf
    · cases hf
  · cases hf
/-! ### zeroes are appended to nothing -/
def o_appendMake (t : TypeId) (x y : Operand) : OpF := fun T A H => match ev A x with
  | some (.slice none _ _) => (match ev A y with
    | some (.int _ (.ofNat n)) => (match T.und t with
      | some (.slice e) => (match T.ty.get e with
        | some i => (match i.zero with
          | some z => ite' (plainL z.cells.toList) (ite' (Nat.beq i.size z.cells.toList.length) (ite' (Nat.beq i.size 0) none (ite' (Nat.beq n 0) none (ite' (Nat.ble n 1000000000) (ite' (Nat.ble (Nat.mul n i.bytes) 281474976710656) (growNew H (cyc z.cells.toList n) n e i.size) none) none))) none) none
          | none => none)
        | none => none)
      | _ => none)
    | _ => none)
  | _ => none
/-- .. to something. -/
def appMk1 (T : Cx) (H : Hp) (t : TypeId) (s : Value) (n : Nat) : Option (Value × Hp) := match T.und t with
  | some (.slice e) => (match T.ty.get e with
    | some i => (match i.zero with
      | some z => ite' (plainL z.cells.toList) (ite' (Nat.beq i.size z.cells.toList.length) (ite' (Nat.beq i.size 0) none (ite' (Nat.beq n 0) none (ite' (Nat.ble n 1000000000) (ite' (Nat.ble (Nat.mul n i.bytes) 281474976710656) (appendA T H t s (cyc z.cells.toList n) n) none) none))) none) none
      | none => none)
    | none => none)
  | _ => none
def o_appMk (t : TypeId) (x y : Operand) : OpF := fun T A H => match ev A x with
  | some s => (match ev A y with
    | some (.int _ (.ofNat n)) => appMk1 T H t s n
    | _ => none)
  | _ => none
theorem srcZ {P : Program} {w : World} {t tx ty e : TypeId} {i : TypeInfo} {z : Value} {n : Nat} {k kk : IntKind} (ht : P.underlying t = some (.slice e)) (hk : P.underlying tx = some (.int kk)) (hi : P.info? e = some i) (hz : i.zero = some z) (hsz : i.size ≠ 0) (h0 : 0 < n) (hn9 : n ≤ 1000000000) (h48 : n * i.bytes ≤ 281474976710656) :
    SrcR P w t tx ty e i z (.int k n) n (cyc z.cells.toList n) := by
  have wl : IntKind.i64.wrap (n : Int) = n := by rw [IntKind.wrap_i64]; omega
  have hb : ¬ (281474976710656 < (n : Int) * (i.bytes : Int)) := by rw [← Int.natCast_mul]; omega
  have hns : ¬ (n * i.size = 0) := fun h => by rcases Nat.mul_eq_zero.1 h with h | h <;> omega
  have h4 : ¬ ((n : Int) < 0) := by omega
  have h5 : ¬ ((n : Int) ≤ 0) := by omega
  have h6 : max (n : Int) 0 = n := by omega
  have hzc : Builtin.zeroCells z.cells n = (cyc z.cells.toList n).toArray := cyc_made z.cells n
  have hzl : (Builtin.zeroCells z.cells n).toList = cyc z.cells.toList n := by rw [hzc]
  refine ⟨fun _ h63 _ => ?_, fun b sLen sCap olds hlo holds hg h63 hfit => ?_, fun b sLen sCap w' hroom hst => ?_⟩
  · rw [← hzc]
    exact app_zeros ht hk hi hz hsz h0 (by omega) h48
  · have hn : ¬ (sLen + n ≤ sCap) := by omega
    have h63' : ¬ (9223372036854775807 < ((sLen : Int) + (n : Int))) := by omega
    have h48' : ¬ (281474976710656 < Builtin.nextslicecap (sLen + n) sCap * i.bytes) := by omega
    have hf := run_firstCells_some (P := P) w.drew i.size sLen b sLen sCap olds hlo holds
    rw [← hzc]
    simp [Builtin.append_, run_underlying ht, run_underlying hk, sizeOf, typeInfo, zeroValue, hi, hz, hn, h63', h48', Question.forced, hf, newRow, grownCap, wl, hb, hns, asInt, asIntOf, h4, h5, h6]
  · simp [Builtin.append_, run_underlying ht, run_underlying hk, sizeOf, typeInfo, zeroValue, hi, hz, hroom, wl, hb, hns, asInt, asIntOf, h4, h5, h6, hzl, hst]
theorem appMk_ok {P : Program} {T : Cx} (hT : Fits P T) {o : Oper} {t t2 : TypeId} {kk : IntKind} (hk : T.und t2 = some (.int kk)) {x y : Operand} (h : o.op = .call ⟨.builtin .append, #[x, y], #[t, t2]⟩) : Sound ds P T o (o_appMk t x y) := fun A H v H' hf E a w ha hr => by
  unfold o_appMk at hf
  split at hf
  · rename_i s hx
    split at hf
    · rename_i k n hy
      unfold appMk1 at hf
      split at hf
      · rename_i e ht
        split at hf
        · rename_i i hi
          split at hf
          · rename_i z hz
            obtain ⟨h1, f1⟩ := ite'_some hf
            obtain ⟨h2, f2⟩ := ite'_some f1
            obtain ⟨h3, f3⟩ := ite'_none f2
            obtain ⟨h4, f4⟩ := ite'_none f3
            obtain ⟨h5, f5⟩ := ite'_some f4
            obtain ⟨h6, f6⟩ := ite'_some f5
            have e2 : i.size = z.cells.size := by have := Nat.eq_of_beq_eq_true h2; simpa using this
            have e3 : i.size ≠ 0 := fun e0 => by rw [e0] at h3; cases h3
            have e4 : 0 < n := Nat.pos_of_ne_zero fun e0 => by rw [e0] at h4; cases h4
            have e5 := Nat.le_of_ble_eq_true h5
            have e6 : n * i.bytes ≤ 281474976710656 := Nat.le_of_ble_eq_true h6
            have q2 : a.eval y = .int k (n : Int) := (ev_ok ha hy).int
            obtain ⟨E', v', w', g1, g2, g3, g4⟩ := append_runR (P := P) (tx := t2) (ty := o.type) (xx := .int k (n : Int)) hT hr f6 (ev_ok ha hx) (cyc_vl (E := E) (N := H.next) h1 n) (fun e' i' z' hu' hi' hz' => by
              rw [ht] at hu'; cases hu'
              rw [hi] at hi'; cases hi'
              rw [hz] at hz'; cases hz'
              exact srcZ (hT.und ht) (hT.und hk) (hT.ty e i hi) hz e3 e4 e5 e6) (fun e' i' hu' hi' => by
              rw [ht] at hu'; cases hu'
              rw [hi] at hi'; cases hi'
              rw [cyc_len, e2]; simp)
            refine ⟨E', v', w', _, ?_, .inl rfl, g2, g3, g4⟩
            simp [execOp, h, resolve, invoke, builtin, q2, g1]
          · cases hf
        · cases hf
      · cases hf
    · cases hf
  · cases hf
/-- .. none of them. -/
def fitsS (s : Value) : Bool := match s with
  | .slice none _ _ => true
  | .slice (some _) l c => ite' (Nat.ble OPN c) true (Nat.ble l c)
  | .chan none => true
  | _ => false
def o_appMk0 (t : TypeId) (x y : Operand) : OpF := fun T A H => match T.und t with
  | some (.slice e) => (match T.ty.get e with
    | some i => (match ev A y with
      | some (.int _ (.ofNat 0)) => (match ev A x with
        | some s => ite' (fitsS s) (some (s, H)) none
        | none => none)
      | _ => none)
    | none => none)
  | _ => none
theorem appz0 {P : Program} {w : World} {t tx ty e : TypeId} {i : TypeInfo} {k kk : IntKind} {b : Option Addr} {l c : Nat} (ht : P.underlying t = some (.slice e)) (hk : P.underlying tx = some (.int kk)) (hi : P.info? e = some i) (hlc : l ≤ c) :
    (Builtin.append_ #[t, tx] ty #[.slice b l c, .int k 0]).run P w = .ok (.slice b l c) w := by
  have wl : IntKind.i64.wrap (0 : Int) = 0 := by decide
  cases b with
  | none => simp [Builtin.append_, run_underlying ht, run_underlying hk, sizeOf, typeInfo, hi, wl, asInt, asIntOf, hlc]
  | some b =>
    have hst : ∀ a : Addr, (storeCells a []).run P w = .ok () w := fun a => by simp [storeCells]
    simp [Builtin.append_, run_underlying ht, run_underlying hk, sizeOf, typeInfo, hi, wl, asInt, asIntOf, hlc, hst]
theorem appMk0_ok {P : Program} {T : Cx} (hT : Fits P T) {o : Oper} {t t2 : TypeId} {kk : IntKind} (hk : T.und t2 = some (.int kk)) {x y : Operand} (h : o.op = .call ⟨.builtin .append, #[x, y], #[t, t2]⟩) : Sound ds P T o (o_appMk0 t x y) := fun A H v H' hf E a w ha hr => by
  unfold o_appMk0 at hf
  split at hf
  · rename_i e ht
    split at hf
    · rename_i i hi
      split at hf
      · rename_i k hy
        split at hf
        · rename_i s hx
          obtain ⟨h1, h2⟩ := ite'_some hf
          cases h2
          have q2 : a.eval y = .int k 0 := (ev_ok ha hy).int
          have hs := ev_ok ha hx
          have key : ∃ b l c, a.eval x = .slice b l c ∧ l ≤ c := by
            unfold fitsS at h1
            split at h1
            · rename_i l0 c0
              obtain ⟨e1, e2, e3⟩ := hs.snil
              exact ⟨_, _, _, e3, Nat.le_refl _⟩
            · rename_i p l c
              obtain ⟨_, _, c', e3, hc⟩ := hs.sl
              refine ⟨_, _, _, e3, ?_⟩
              rcases hc with ⟨z1, z2⟩ | ⟨z1, z2, _⟩
              · subst z2
                cases hb : Nat.ble OPN c' with
                | true => have := Nat.le_of_ble_eq_true hb; omega
                | false => rw [hb, ite'_false] at h1; exact Nat.le_of_ble_eq_true h1
              · exact z2
            · obtain ⟨p, c, e3⟩ := hs.tl
              exact ⟨_, _, _, e3, Nat.zero_le _⟩
            · cases h1
          obtain ⟨b, l, c, e3, hlc⟩ := key
          have hrun := appz0 (P := P) (w := w) (ty := o.type) (b := b) (k := k) (hT.und ht) (hT.und hk) (hT.ty e i hi) hlc
          rw [e3] at hs
          refine sound_pure (v' := .slice b l c) hr ?_ hs
          simp [execOp, h, resolve, invoke, builtin, e3, q2, hrun]
        · cases hf
      · cases hf
    · cases hf
  · cases hf
def o_appX (t t2 : TypeId) (x y : Operand) : OpF := fun T A H => match T.und t2 with
  | some (.int _) => orF (o_appendMake t x y) (orF (o_appMk t x y) (o_appMk0 t x y)) T A H
  | _ => appD [x, y] [t, t2] T A H
theorem appX_ok {P : Program} {T : Cx} (hT : Fits P T) {o : Oper} {t t2 : TypeId} {x y : Operand} (h : o.op = .call ⟨.builtin .append, #[x, y], #[t, t2]⟩) : Sound ds P T o (o_appX t t2 x y) := fun A H v H' hf E a w ha hr => by
  unfold o_appX at hf
  split at hf
  · rename_i kk hk
    unfold orF at hf
    cases hcase : o_appendMake t x y T A H with
    | none =>
      rw [hcase] at hf
      exact orF_sound (appMk_ok hT hk h) (appMk0_ok hT hk h) A H v H' hf E a w ha hr
    | some rr =>
    rw [hcase] at hf
    have hf0 : some rr = some (v, H') := hf
    rw [hf0] at hcase
    have hf := hcase
    clear hcase hf0
    unfold o_appendMake at hf
    split at hf
    · rename_i l0 c0 hx
      split at hf
      · rename_i k n hy
        split at hf
        · rename_i e ht
          split at hf
          · rename_i i hi
            split at hf
            · rename_i z hz
              obtain ⟨h1, f1⟩ := ite'_some hf
              obtain ⟨h2, f2⟩ := ite'_some f1
              obtain ⟨h3, f3⟩ := ite'_none f2
              obtain ⟨h4, f4⟩ := ite'_none f3
              obtain ⟨h5, f5⟩ := ite'_some f4
              obtain ⟨h6, f6⟩ := ite'_some f5
              cases f6
              have e2 : i.size = z.cells.size := by have := Nat.eq_of_beq_eq_true h2; simpa using this
              have e3 : i.size ≠ 0 := fun e0 => by rw [e0] at h3; cases h3
              have e4 : 0 < n := Nat.pos_of_ne_zero fun e0 => by rw [e0] at h4; cases h4
              have e5 := Nat.le_of_ble_eq_true h5
              have e6 : n * i.bytes ≤ 281474976710656 := Nat.le_of_ble_eq_true h6
              obtain ⟨_, _, q1⟩ := (ev_ok ha hx).snil
              have q2 : a.eval y = .int k (n : Int) := (ev_ok ha hy).int
              have hrun := app_zeros (P := P) (w := w) (ty := o.type) (k := k) (hT.und ht) (hT.und hk) (hT.ty e i hi) hz e3 e4 (by omega) e6
              have hzc : Builtin.zeroCells z.cells n = (cyc z.cells.toList n).toArray := cyc_made z.cells n
              rw [hzc] at hrun
              obtain ⟨g1, g2, g3⟩ := grown_new hr (cyc_vl (E := E) (N := H.next) h1 n) (e := e) (z := z.cells) (c := grownCap w n 0 e) (n := n) (size := i.size) (by rw [cyc_len, e2]; simp) e2.symm (cap_ge w n 0 e)
              refine ⟨_, _, _, _, ?_, .inl rfl, g2, g3 (Nat.pos_of_ne_zero e3), g1⟩
              simp [execOp, h, resolve, invoke, builtin, q1, q2, hrun]
            · cases hf
          · cases hf
        · cases hf
      · cases hf
    · cases hf
  · exact appD_ok hT h rfl A H v H' hf E a w ha hr
/-! ### functions that hold values -/
def o_makeFunc (f : FuncId) (first cap : List Operand) : OpF := fun _ A H => match evL A first with
  | some l => (match evL A cap with
    | some m => some (.func (.func f) l.toArray m.toArray, H)
    | none => none)
  | none => none
def makeFuncD (f : Fn) (first cap : List Operand) : OpF := match f with
  | .func f => o_makeFunc f first cap
  | _ => noF
theorem makeFunc_ok {P : Program} {T : Cx} {o : Oper} {f : Fn} {first cap : Array Operand} (h : o.op = .makeFunc f first cap) : SoundP ds P T o (makeFuncD f first.toList cap.toList) := by
  unfold makeFuncD
  split
  · rename_i f
    intro A H v H' hf E a ha
    unfold o_makeFunc at hf
    split at hf
    · rename_i l hl
      split at hf
      · rename_i m hm
        cases hf
        have r1 := evL_ok ha hl
        have r2 := evL_ok ha hm
        refine pure_ok (v' := .func (.func f) (first.map a.eval) (cap.map a.eval)) (fun w => by simp [execOp, h, Instr.makeFunc]) ?_
        have := VR.clo (f := f) r1 r2
        rw [show (first.toList.map a.eval).toArray = first.map a.eval from by apply Array.ext'; simp, show (cap.toList.map a.eval).toArray = cap.map a.eval from by apply Array.ext'; simp] at this
        exact this
      · cases hf
    · cases hf
  · exact noF_ok
def capD (args : List Operand) (tys : List TypeId) : OpF := match args with
  | [x] => (match tys with
    | [t] => o_cap t x
    | _ => noF)
  | _ => noF
/-! ### clear; a slice beyond its length -/
def repL (z : Value) (n : Nat) : List Value := Nat.rec (motive := fun _ => List Value) [] (fun _ l => z :: l) n
theorem repL_length (z : Value) : ∀ n, (repL z n).length = n
  | 0 => rfl
  | n + 1 => by show (repL z n).length + 1 = n + 1; rw [repL_length z n]
theorem repL_get (z : Value) : ∀ n i, i < n → (repL z n)[i]? = some z
  | 0, i, h => absurd h (Nat.not_lt_zero _)
  | n + 1, 0, h => rfl
  | n + 1, i + 1, h => repL_get z n i (Nat.lt_of_succ_lt_succ h)
theorem repL_VL {E : Env} {N : Nat} {z : Value} (h : plainV z = true) : ∀ n, VL E N (repL z n) (repL z n)
  | 0 => .nil
  | n + 1 => .cons (.same h) (repL_VL h n)
theorem repL_one {z : Value} (h : oneB z = true) : ∀ n, allOne (repL z n) = true
  | 0 => rfl
  | n + 1 => by
    show ite' (oneB z) (allOne (repL z n)) false = true
    rw [repL_one h n, h]
    try rfl
theorem oneB_cells {z : Value} (h : oneB z = true) : z.cells = #[z] := by
  cases z <;> first | rfl | cases h
theorem zero_repL {z : Value} (h : z.cells = #[z]) (n : Nat) : (Builtin.zeroCells z.cells n).toList = repL z n := by
  rw [h]
  refine List.ext_getElem? fun i => ?_
  by_cases hi : i < n
  · rw [repL_get z n i hi]
    simp [Builtin.zeroCells, hi, Nat.mod_one]
  · rw [List.getElem?_eq_none (l := repL z n) (by rw [repL_length]; omega), List.getElem?_eq_none]
    simp [Builtin.zeroCells]; omega
def o_clear (t : TypeId) (x : Operand) : OpF := fun T A H => match T.und t with
  | some (.slice e) => (match T.ty.get e with
    | some i => (match i.zero with
      | some z => (match ev A x with
        | some (.slice (some p) n _) => ite' (oneB z) (ite' (plainV z) (match Hp.storeAll (repL z n) H p.block p.off with
          | some H' => some (.tuple #[], H')
          | none => none) none) none
        | _ => none)
      | none => none)
    | none => none)
  | _ => none
theorem clear_ok {P : Program} {T : Cx} (hT : Fits P T) {o : Oper} {t : TypeId} {x : Operand} (h : o.op = .call ⟨.builtin .clear, #[x], #[t]⟩) : Sound ds P T o (o_clear t x) := fun A H v H' hf E a w ha hr => by
  unfold o_clear at hf
  split at hf
  · rename_i e ht
    split at hf
    · rename_i i hi
      split at hf
      · rename_i z hz
        split at hf
        · rename_i p n c hx
          obtain ⟨h1, hf⟩ := ite'_some hf
          obtain ⟨h2, hf⟩ := ite'_some hf
          split at hf
          · rename_i H1 hst
            cases hf
            obtain ⟨_, _, c', e1, _⟩ := (ev_ok ha hx).sl
            obtain ⟨w', e3, r3, g3, n3⟩ := storeAll_ok (P := P) (off := p.off) 0 (by simpa using hst) (repL_VL h2 n) (repL_one h1 n) hr
            have hcl : (Builtin.clear_ #[t] o.type #[.slice (some ⟨E.s p.block, p.off, none⟩) n c']).run P w = .ok (.tuple #[]) w' := by
              cases n with
              | zero =>
                have : w' = w := by
                  have : (storeCells ⟨E.s p.block, p.off, none⟩ [] 0).run P w = .ok () w := by simp [storeCells]
                  rw [show repL z 0 = [] from rfl, this] at e3
                  cases e3; rfl
                rw [this]
                simp [Builtin.clear_, run_underlying (hT.und ht)]
              | succ n =>
                simp [Builtin.clear_, run_underlying (hT.und ht), zeroValue, typeInfo, hT.ty e i hi, hz, zero_repL (oneB_cells h1), e3]
            refine ⟨E, .tuple #[], w', _, ?_, .inl rfl, g3, .tuple (l := []) (l' := []) .nil, r3⟩
            simp [execOp, h, resolve, invoke, builtin, e1, hcl]
          · cases hf
        · cases hf
      · cases hf
    · cases hf
  · cases hf
def sliceMV (p : Addr) (len cap e n : Nat) (lo hi : Option Value) : Option Value := match optB hi len with
  | some h => (match optB lo 0 with
    | some l => ite' (Nat.beq cap (Nat.add OPN e)) (ite' (Nat.ble 1 e) (ite' (Nat.ble (Nat.succ l) h) (ite' (Nat.ble (Nat.add p.off (Nat.mul h e)) n) (some (.slice (some ⟨p.block, Nat.add p.off (Nat.mul l e), none⟩) (Nat.sub h l) cap)) none) none) none) none
    | none => none)
  | none => none
def o_sliceM (t : TypeId) (x : Operand) (lo hi mx : Option Operand) : OpF := fun T A H => match mx with
  | some _ => none
  | none => (match ev A x with
    | some (.slice (some p) len cap) => (match evO A lo with
      | some lo => (match evO A hi with
        | some hi => (match T.und t with
          | some (.slice e) => (match T.ty.get e with
            | some i => (match H.b.get p.block with
              | some (.row _ n _ true) => withH (sliceMV p len cap i.size n lo hi) H
              | _ => none)
            | none => none)
          | _ => none)
        | none => none)
      | none => none)
    | _ => none)
theorem sliceM_ok {P : Program} {T : Cx} (hT : Fits P T) {o : Oper} {t : TypeId} {x : Operand} {lo hi mx : Option Operand} (h : o.op = .slice t x lo hi mx) : Sound ds P T o (o_sliceM t x lo hi mx) := fun A H v H' hf E a w ha hr => by
  cases mx with
  | some m => cases hf
  | none =>
  dsimp only [o_sliceM] at hf
  split at hf
  · rename_i p len cap hx
    split at hf
    · rename_i lo' hlo
      split at hf
      · rename_i hi' hhi
        split at hf
        · rename_i e ht
          split at hf
          · rename_i i hi2
            split at hf
            · rename_i cc n ee hb
              obtain ⟨hf2, e0⟩ := withH_some hf
              subst e0
              clear hf
              unfold sliceMV at hf2
              split at hf2
              · rename_i h0 hh
                split at hf2
                · rename_i l hl
                  obtain ⟨z1, f1⟩ := ite'_some hf2
                  obtain ⟨z2, f2⟩ := ite'_some f1
                  obtain ⟨z3, f3⟩ := ite'_some f2
                  obtain ⟨z4, f4⟩ := ite'_some f3
                  cases f4
                  clear hf2 f1 f2 f3
                  have k1 : cap = OPN + i.size := Nat.eq_of_beq_eq_true z1
                  have k2 : 1 ≤ i.size := Nat.le_of_ble_eq_true z2
                  have k3 : l + 1 ≤ h0 := Nat.le_of_ble_eq_true z3
                  have k4 : p.off + h0 * i.size ≤ n := Nat.le_of_ble_eq_true z4
                  obtain ⟨hsp, hpb, c', q3, hc⟩ := (ev_ok ha hx).sl
                  obtain ⟨hc1, hc2, hc3⟩ : OPN < cap ∧ len ≤ c' ∧ p.off + c' * (cap - OPN) = E.k p.block := by
                    rcases hc with z | z
                    · omega
                    · exact z
                  rw [k1, Nat.add_sub_cancel_left] at hc3
                  obtain ⟨cs, fz, ho, hz, hn, hk, hv⟩ := hr.rel p.block _ hb
                  have hk2 : cs.size = E.k p.block := by simpa using hk
                  have hle : h0 ≤ c' := by
                    have h5 : h0 * i.size ≤ c' * i.size := by omega
                    exact Nat.le_of_mul_le_mul_right h5 k2
                  have hP := hT.und ht
                  have hI := hT.ty e i hi2
                  have hbw := bounds_run (P := P) (w := w) (len := len) (cap := c') (l := l) (h := h0) (m := c') (lo := lo.map a.eval) (hi := hi.map a.eval) (mx := none)
                    (.inl ⟨rfl, rfl⟩) ((optB_ok ha hhi hh).imp (fun z => ⟨z.1, z.2.2, rfl⟩) id) ((optB_ok ha hlo hl).imp (fun z => ⟨z.1, z.2.2⟩) id) (by omega) hle (Nat.le_refl _)
                  have hne : ¬ c' = l := by omega
                  refine ⟨E, .slice (some ⟨E.s p.block, p.off + l * i.size, none⟩) (h0 - l) (c' - l), w, _, ?_, .inl rfl, Gd.refl _ _ _, ?_, hr⟩
                  · simp [execOp, h, Instr.sliceAt, Instr.slice, run_underlying hP, q3, hbw, sizeOf, typeInfo, hI, hne, add_plain']
                  · refine .open_ hpb hc1 (show h0 - l ≤ c' - l by omega) ?_
                    show p.off + l * i.size + (c' - l) * (cap - OPN) = _
                    rw [k1, Nat.add_sub_cancel_left, ← hc3, Nat.add_assoc, ← Nat.add_mul]
                    congr 2; omega
                · cases hf2
              · cases hf2
            · cases hf
          · cases hf
        · cases hf
      · cases hf
    · cases hf
  · cases hf
def clearD (args : List Operand) (tys : List TypeId) : OpF := match args with
  | [x] => (match tys with
    | [t] => o_clear t x
    | _ => noF)
  | _ => noF
/-! ### a text of bytes that nobody writes any more -/
def u8L (l : List Value) : Option (List UInt8) := List.rec (motive := fun _ => Option (List UInt8)) (some []) (fun v _ ih => match v with
  | .int .u8 (.ofNat n) => (match ih with
    | some l => ite' (Nat.ble n 255) (some (UInt8.ofNat n :: l)) none
    | none => none)
  | _ => none) l
theorem u8L_cons (v : Value) (l : List Value) : u8L (v :: l) = (match v with
  | .int .u8 (.ofNat n) => (match u8L l with
    | some l => ite' (Nat.ble n 255) (some (UInt8.ofNat n :: l)) none
    | none => none)
  | _ => none) := rfl
theorem u8L_ok {E : Env} {N : Nat} : ∀ {l l' : List Value} {xs : List UInt8}, u8L l = some xs → VL E N l l' → xs.length = l.length ∧ ∀ (j : Nat) (x : UInt8), xs[j]? = some x → l'[j]? = some (Value.int .u8 x.toNat)
  | [], _, xs, h, k => by cases h; cases k; exact ⟨rfl, fun j x hx => by simp at hx⟩
  | v :: l, l', xs, h, k => by
    rw [u8L_cons] at h
    split at h
    · rename_i n
      split at h
      · rename_i l2 h2
        obtain ⟨h3, h4⟩ := ite'_some h
        cases h4
        cases k with
        | cons hv ht =>
          obtain ⟨e1, e2⟩ := u8L_ok h2 ht
          rw [hv.int]
          refine ⟨by simp [e1], fun j x hx => ?_⟩
          cases j with
          | zero =>
            simp at hx
            subst hx
            have := Nat.le_of_ble_eq_true h3
            simp [UInt8.toNat_ofNat]
            omega
          | succ j => exact e2 j x (by simpa using hx)
      · cases h
    · cases h
theorem freeze_rel {E : Env} {H : Hp} {w : World} (hr : HRel E H w) {b : Nat} {c : Tr Value} {m : Nat} {e : TypeId} {opn : Bool} (hb : H.b.get b = some (.row c m e opn)) {n : Nat} (hn : n ≠ 0) {l l' : List Value} (hl : VL E H.next l l') (hc : ∀ i, i < l.length → w.cell? ⟨E.s b, i, none⟩ = l'[i]?) :
    HRel E ⟨H.b.put b (some (.rom (Tr.lay l 0 .nil))), H.next⟩ (w.freeze ⟨E.s b, 0, none⟩ n) ∧ Gd E E H ⟨H.b.put b (some (.rom (Tr.lay l 0 .nil))), H.next⟩ w (w.freeze ⟨E.s b, 0, none⟩ n) := by
  obtain ⟨cs, fz, o1, z1, _⟩ := hr.rel _ _ hb
  rw [z1.2 rfl] at o1
  have hheap : ∀ j, (w.freeze ⟨E.s b, 0, none⟩ n).heap[j]? = if j = E.s b then some (.cells cs e (0, 0 + n)) else w.heap[j]? := fun j => by
    simp only [World.freeze, if_neg hn, Array.getElem?_modify]
    by_cases e1 : E.s b = j
    · subst e1; simp [o1]
    · simp [e1, Ne.symm e1]
  have hlt := hr.lt b _ hb
  refine ⟨⟨fun b' x hx => ?_, fun b' x hx => ?_, fun b1 b2 x1 x2 h1 h2 he => ?_⟩, ⟨Nat.le_refl _, Agree.refl _ _, fun b' x hx => ?_, ?_, ?_, ?_, ?_, fun i hi hf => ?_⟩⟩
  · rw [Tr.get_put] at hx
    split at hx
    · rename_i e1; subst e1; exact hlt
    · exact hr.lt _ _ hx
  · rw [Tr.get_put] at hx
    rw [hheap]
    split at hx
    · rename_i e1
      subst e1
      cases hx
      rw [if_pos rfl]
      refine ⟨cs, e, (0, 0 + n), rfl, fun i v hv => ?_⟩
      rw [Tr.get_lay] at hv
      split at hv
      · obtain ⟨v', e2, r⟩ := hl.get hv
        have hil : i - 0 < l.length := (List.getElem?_eq_some_iff.1 hv).1
        have h3 := hc (i - 0) hil
        rw [e2] at h3
        rw [Nat.sub_zero] at h3
        exact ⟨v', by simpa [World.cell?, o1] using h3, r⟩
      · cases hv
    · rename_i e1
      have h2 := hr.rel _ _ hx
      rw [if_neg (fun e2 => e1 (hr.inj _ _ _ _ hx hb e2))]
      exact h2
  · rw [Tr.get_put] at h1 h2
    have g : ∀ b' x, (if b' = b then some (.rom (Tr.lay l 0 .nil)) else H.b.get b') = some x → ∃ y, H.b.get b' = some y := fun b' x hx => by
      split at hx
      · rename_i e1; subst e1; exact ⟨_, hb⟩
      · exact ⟨_, hx⟩
    obtain ⟨y1, k1⟩ := g _ _ h1
    obtain ⟨y2, k2⟩ := g _ _ h2
    exact hr.inj _ _ _ _ k1 k2 he
  · rw [Tr.get_put] at hx
    split at hx
    · rename_i e1; subst e1; cases hx
      exact .inl ⟨_, _, hb, (fun h => by cases h), rfl⟩
    · exact .inl ⟨_, _, hx, fun h => h, rfl⟩
  · simp [World.freeze, hn]
  · simp [World.freeze, hn]
  · simp [World.freeze, hn]
  · simp [World.freeze, hn]
  · rw [hheap, if_neg (fun e1 => hf b _ hb rfl e1.symm)]
def usV2 (H : Hp) (b : Nat) (l : Option (List Value)) : Option (Value × Hp) := match l with
  | some l => (match u8L l with
    | some xs => some (.string ⟨⟨xs⟩⟩, ⟨H.b.put b (some (.rom (Tr.lay l 0 .nil))), H.next⟩)
    | none => none)
  | none => none
def usV (T : Cx) (H : Hp) (pt : TypeId) (p : Addr) (n : Nat) : Option (Value × Hp) := match H.b.get p.block with
  | some (.row c m e opn) => (match T.und pt with
    | some (.pointer e') => ite' (Nat.beq e e') (match T.ty.get e with
      | some i => ite' (Nat.beq i.size 1) (ite' (Nat.beq p.off 0) (ite' (Nat.ble n m) (ite' (Nat.ble n 9223372036854775807) (usV2 H p.block (H.cells p.block 0 n)) none) none) none) none
      | none => none) none
    | _ => none)
  | _ => none
def o_us (pt : TypeId) (x y : Operand) : OpF := fun T A H => match ev A x with
  | some (.pointer none) => (match ev A y with
    | some (.int .i64 (.ofNat 0)) => some (.string .empty, H)
    | _ => none)
  | some (.pointer (some p)) => (match ev A y with
    | some (.int .i64 (.ofNat n)) => ite' (Nat.beq n 0) none (usV T H pt p n)
    | _ => none)
  | _ => none
theorem us_ok {P : Program} {T : Cx} (hT : Fits P T) {o : Oper} {pt it : TypeId} {x y : Operand} (h : o.op = .call ⟨.builtin .unsafeString, #[x, y], #[pt, it]⟩) : Sound ds P T o (o_us pt x y) := fun A H v H' hf E a w ha hr => by
  unfold o_us at hf
  split at hf
  · rename_i hx
    split at hf
    · rename_i hy
      cases hf
      refine sound_pure (v' := .string .empty) hr ?_ (.same rfl)
      have e1 := (ev_ok ha hx).pnil
      have e2 := (ev_ok ha hy).int
      have e3 := Lib.run_unsafeString_none (P := P) w pt it o.type none
      have e2' : a.eval y = .int .i64 0 := e2
      simp [execOp, h, resolve, invoke, builtin, e1, e2', e3]
    · cases hf
  · rename_i p hx
    split at hf
    · rename_i n hy
      obtain ⟨h0, hf⟩ := ite'_none hf
      have hn0 : n ≠ 0 := fun e => by rw [e] at h0; cases h0
      unfold usV at hf
      split at hf
      · rename_i c m e opn hb
        split at hf
        · rename_i e' hpt
          obtain ⟨k1, hf⟩ := ite'_some hf
          split at hf
          · rename_i i hi
            obtain ⟨k2, hf⟩ := ite'_some hf
            obtain ⟨k3, hf⟩ := ite'_some hf
            obtain ⟨k4, hf⟩ := ite'_some hf
            obtain ⟨k5, hf⟩ := ite'_some hf
            unfold usV2 at hf
            split at hf
            · rename_i l hl
              split at hf
              · rename_i xs hxs
                cases hf
                have k1 := Nat.eq_of_beq_eq_true k1
                subst k1
                have k2 := Nat.eq_of_beq_eq_true k2
                have k3 := Nat.eq_of_beq_eq_true k3
                have k4 := Nat.le_of_ble_eq_true k4
                have k5 := Nat.le_of_ble_eq_true k5
                obtain ⟨_, _, e1⟩ := (ev_ok ha hx).pptr
                have e2 := (ev_ok ha hy).int
                obtain ⟨hlen, l', hvl, hcell⟩ := hr.cells hl
                obtain ⟨u1, u2⟩ := u8L_ok hxs hvl
                have hxl : xs.length = n := by rw [u1, hlen]
                obtain ⟨cs, fz, o1, z1, o2, _⟩ := hr.rel _ _ hb
                rw [z1.2 rfl] at o1
                have hsh : w.shape? (E.s p.block) = some (e, cs.size) := by simp [World.shape?, o1]
                have hco : P.cellsOf e = 1 := by simp [Program.cellsOf, hT.ty e i hi, k2]
                have hus := Lib.run_unsafeString_row (P := P) w pt it o.type e (hT.und hpt) hco (E.s p.block) cs.size hsh xs (fun e0 => hn0 (by rw [← hxl, e0]; rfl)) (by omega) (by omega) (fun j x hxj => by
                  have hjl : j < n := by rw [← hxl]; exact (List.getElem?_eq_some_iff.1 hxj).1
                  have h7 := hcell j hjl
                  rw [u2 j x hxj, Nat.zero_add] at h7
                  have had : ((⟨E.s p.block, 0, none⟩ : Addr).add j) = ⟨E.s p.block, j, none⟩ := by
                    unfold Addr.add
                    by_cases hj : j = 0 <;> simp [hj]
                  rw [had]; exact h7)
                obtain ⟨r1, r2⟩ := freeze_rel hr hb hn0 hvl (fun i hi => by
                  have := hcell i (by omega)
                  rwa [Nat.zero_add] at this)
                refine ⟨E, .string ⟨⟨xs⟩⟩, _, _, ?_, .inl rfl, r2, .same rfl, r1⟩
                rw [k3] at e1
                rw [hxl] at hus
                have e2' : a.eval y = .int .i64 (n : Int) := e2
                simp [execOp, h, resolve, invoke, builtin, e1, e2', hus]
              · cases hf
            · cases hf
          · cases hf
        · cases hf
      · cases hf
    · cases hf
  · cases hf
def usD (args : List Operand) (tys : List TypeId) : OpF := match args with
  | [x, y] => (match tys with
    | [t, t2] => o_us t x y
    | _ => noF)
  | _ => noF
def copyD (args : List Operand) (tys : List TypeId) : OpF := match args with
  | [x, y] => (match tys with
    | [t, t2] => orF (o_copy t x y) (o_copy0 t x y)
    | _ => noF)
  | _ => noF
def appF (args : List Operand) (tys : List TypeId) : OpF := match args with
  | [x, y] => (match tys with
    | [t, t2] => o_appX t t2 x y
    | _ => noF)
  | _ => noF
def callF (c : Call) : OpF := match c.callee with
  | .builtin .cap => capD c.args.toList c.argTypes.toList
  | .builtin .copy => copyD c.args.toList c.argTypes.toList
  | .builtin .append => appF c.args.toList c.argTypes.toList
  | .builtin .clear => clearD c.args.toList c.argTypes.toList
  | .builtin .unsafeString => usD c.args.toList c.argTypes.toList
  | _ => callE c
/-! ### pointers compared -/
def isRow (H : Hp) (b : Nat) : Bool := match H.b.get b with
  | some (.row _ _ _ _) => true
  | _ => false
def ptrCmp (H : Hp) (p q : Addr) : Option Bool := ite' (Nat.beq p.block q.block) (some (Nat.beq p.off q.off)) (ite' (isRow H p.block) (ite' (isRow H q.block) (some false) none) none)
def ptrBin (op : BinOp) (H : Hp) (x y : Value) : Option Value := match x with
  | .pointer (some p) => (match y with
    | .pointer (some q) => (match ptrCmp H p q with
      | some b => cmpV op b
      | none => none)
    | _ => none)
  | _ => none
def o_ptrEq (op : BinOp) (t : TypeId) (x y : Operand) : OpF := fun T A H => match T.und t with
  | some (.pointer e) => (match T.ty.get e with
    | some i => ite' (Nat.beq i.size 0) none (match ev A x with
      | some u => (match ev A y with
        | some v => withH (ptrBin op H u v) H
        | none => none)
      | none => none)
    | none => none)
  | _ => none
theorem ptrCmp_ok {P : Program} {E : Env} {H : Hp} {w : World} (hr : HRel E H w) {p q : Addr} {b : Bool} (h : ptrCmp H p q = some b) : (sameAddr ⟨E.s p.block, p.off, none⟩ ⟨E.s q.block, q.off, none⟩).run P w = .ok b w := by
  unfold ptrCmp at h
  cases h1 : Nat.beq p.block q.block with
  | true =>
    rw [h1, ite'_true] at h
    cases h
    have e := Nat.eq_of_beq_eq_true h1
    rw [e]
    have e2 : ((⟨E.s q.block, p.off, none⟩ : Addr) == ⟨E.s q.block, q.off, none⟩) = Nat.beq p.off q.off := by
      cases hb : Nat.beq p.off q.off with
      | true => rw [Nat.eq_of_beq_eq_true hb]; simp
      | false =>
        have : p.off ≠ q.off := fun e => by rw [e, Nat.beq_refl] at hb; cases hb
        simp [this]
    simp [sameAddr, e2]
  | false =>
    rw [h1, ite'_false] at h
    obtain ⟨h2, h⟩ := ite'_some h
    obtain ⟨h3, h⟩ := ite'_some h
    cases h
    unfold isRow at h2 h3
    split at h2
    · rename_i hb1
      split at h3
      · rename_i hb2
        obtain ⟨cs, fz, o1, z1, _⟩ := hr.rel _ _ hb1
        obtain ⟨cs2, fz2, o2, z2, _⟩ := hr.rel _ _ hb2
        rw [z1.2 rfl] at o1
        rw [z2.2 rfl] at o2
        refine run_sameAddr_other w (fun e => ?_) o1 o2
        have e1 : E.s p.block = E.s q.block := by injection e
        have := hr.inj _ _ _ _ hb1 hb2 e1
        rw [this, Nat.beq_refl] at h1
        cases h1
      · cases h3
    · cases h2
theorem ptrEq_ok {P : Program} {T : Cx} (hT : Fits P T) {o : Oper} {op : BinOp} {t t' : TypeId} {x y : Operand} (h : o.op = .binOp op t x y t') : Sound ds P T o (o_ptrEq op t x y) := fun A H v H' hf E a w ha hr => by
  unfold o_ptrEq at hf
  split at hf
  · rename_i e ht
    split at hf
    · rename_i i hi
      obtain ⟨h1, hf⟩ := ite'_none hf
      have hsz : i.size ≠ 0 := fun e0 => by rw [e0] at h1; cases h1
      split at hf
      · rename_i u hu
        split at hf
        · rename_i u2 hu2
          obtain ⟨hv, e0⟩ := withH_some hf
          subst e0
          unfold ptrBin at hv
          split at hv
          · rename_i p
            split at hv
            · rename_i q
              split at hv
              · rename_i b hb
                obtain ⟨_, _, e1⟩ := (ev_ok ha hu).pptr
                obtain ⟨_, _, e2⟩ := (ev_ok ha hu2).pptr
                have hs := ptrCmp_ok (P := P) hr hb
                have heq : (Op.equal t (.pointer (some ⟨E.s p.block, p.off, none⟩)) (.pointer (some ⟨E.s q.block, q.off, none⟩))).run P w = .ok b w := by
                  show (Op.equalIn (9999 + 1) t _ _).run P w = _
                  unfold Op.equalIn
                  simp [run_underlying (hT.und ht), sizeOf, typeInfo, hT.ty e i hi, hsz, hs]
                have hg : (eqGuard op t x y (a.eval x) (a.eval y)).run P w = .ok () w := by rw [e1, e2]; exact guard_run (by simp) (by simp)
                obtain ⟨k1, k2⟩ := cmpV_ok (P := P) hv heq (.inl ⟨_, rfl, _, rfl⟩)
                refine sound_pure (v' := v) hr ?_ (.same k2)
                rw [e1, e2] at hg
                simp [execOp, h, e1, e2, hg, k1]
              · cases hv
            · cases hv
          · cases hv
        · cases hf
      · cases hf
    · cases hf
  · cases hf
def opF (o : Op) : OpF := match o with
  | .binOp op t x y _ => orF (o_bin op t x y) (o_ptrEq op t x y)
  | .call c => callF c
  | .makeSlice t l c => o_mkSliceG t l c
  | .slice t x lo hi mx => orF (sliceD t x lo hi mx) (o_sliceM t x lo hi mx)
  | .makeFunc f first cap => makeFuncD f first.toList cap.toList
  | o => opE o
theorem callF_ok {P : Program} {T : Cx} (hT : Fits P T) {o : Oper} {c : Call} (h : o.op = .call c) : Sound ds P T o (callF c) := by
  unfold callF
  split
  · rename_i hc
    obtain ⟨callee, ⟨args⟩, ⟨tys⟩⟩ := c
    simp only at hc; subst hc
    show Sound ds P T o (capD args tys)
    unfold capD
    split
    · split
      · exact (SoundP.sound (cap_ok hT h))
      · exact (SoundP.sound noF_ok)
    · exact (SoundP.sound noF_ok)
  · rename_i hc
    obtain ⟨callee, ⟨args⟩, ⟨tys⟩⟩ := c
    simp only at hc; subst hc
    show Sound ds P T o (copyD args tys)
    unfold copyD
    split
    · split
      · exact orF_sound (copy_ok hT h) (copy0_ok hT h)
      · exact (SoundP.sound noF_ok)
    · exact (SoundP.sound noF_ok)
  · rename_i hc
    obtain ⟨callee, ⟨args⟩, ⟨tys⟩⟩ := c
    simp only at hc; subst hc
    show Sound ds P T o (appF args tys)
    unfold appF
    split
    · split
      · exact appX_ok hT h
      · exact (SoundP.sound noF_ok)
    · exact (SoundP.sound noF_ok)
  · rename_i hc
    obtain ⟨callee, ⟨args⟩, ⟨tys⟩⟩ := c
    simp only at hc; subst hc
    show Sound ds P T o (clearD args tys)
    unfold clearD
    split
    · split
      · exact clear_ok hT h
      · exact (SoundP.sound noF_ok)
    · exact (SoundP.sound noF_ok)
  · rename_i hc
    obtain ⟨callee, ⟨args⟩, ⟨tys⟩⟩ := c
    simp only at hc; subst hc
    show Sound ds P T o (usD args tys)
    unfold usD
    split
    · split
      · exact us_ok hT h
      · exact (SoundP.sound noF_ok)
    · exact (SoundP.sound noF_ok)
  · exact callE_ok hT h
theorem opF_ok {P : Program} {T : Cx} (hT : Fits P T) {o : Oper} : Sound ds P T o (opF o.op) := by
  cases ho : o.op with
  | call c => exact callF_ok hT ho
  | makeSlice t l c => exact mkSliceG_ok hT ho
  | slice t x lo hi mx => exact orF_sound (SoundP.sound (sliceD_ok hT ho)) (sliceM_ok hT ho)
  | makeFunc f first cap => exact (SoundP.sound (makeFunc_ok ho))
  | binOp op t x y t' => exact orF_sound (SoundP.sound (bin_ok hT ho)) (ptrEq_ok hT ho)
  | _ => have := opE_ok (ds := ds) (P := P) hT (o := o); rw [ho] at this; exact this
end
end Go.Proofs.YtdkfimejabanlaaDoor
namespace Go.Proofs.YtdkfimejabanlaaDoor
open Go
set_option linter.unusedVariables false
set_option linter.unusedSimpArgs false
noncomputable section
variable {ds : List Deferred}
inductive Ex where
  | normal
  | exit (id : Nat)
  | ret
def Ex.out : Ex → Exit
  | .normal => .normal
  | .exit id => .exit id
  | .ret => .ret
inductive Cmd where
  | code (c : Code) (A : AA) (H : Hp)
  | call (f : FuncId) (args : List Value) (H : Hp)
inductive Out where
  | code (e : Ex) (A : AA) (H : Hp)
  | call (v : Value) (H : Hp)
  | bad (what : Nat)
/-- is the operation wanted? none: that is not known. -/
def gdOf (ops : List Oper) (g : Nat) : Option Tmp := match ops[g]? with
  | some oj => oj.dst
  | none => none
def wantV (b : Bool) (v : Option Value) : Option Bool := match v with
  | some (.bool x) => some (ite' b x (Bool.not x))
  | some (.tuple _) => some false
  | _ => none
def wantG (ops : List Oper) (A : AA) (g : Nat × Bool) : Option Bool := Option.rec (motive := fun _ => Option Bool) (some false) (fun d => wantV g.2 (A.get d)) (gdOf ops g.1)
def wantedA (ops : List Oper) (A : AA) (o : Oper) : Option Bool := Option.rec (motive := fun _ => Option Bool) (some true) (fun g => wantG ops A g) o.guard
theorem wantedA_def (ops : List Oper) (A : AA) (o : Oper) : wantedA ops A o = (match o.guard with
  | none => some true
  | some g => (match ops[g.1]? with
    | some oj => (match oj.dst with
      | some d => (match A.get d with
        | some (.bool x) => some (ite' g.2 x (Bool.not x))
        | some (.tuple _) => some false
        | _ => none)
      | none => some false)
    | none => some false)) := by
  unfold wantedA
  cases o.guard with
  | none => rfl
  | some g =>
    show wantG ops A g = _
    unfold wantG gdOf
    simp only
    cases ops[g.1]? with
    | none => rfl
    | some oj =>
      simp only
      cases oj.dst with
      | none => rfl
      | some d => rfl
theorem wantedA_ok {E : Env} {N : Nat} {A : AA} {a : Act} (h : AR ds E N A a) {ops : Array Oper} {o : Oper} {b : Bool} (hw : wantedA ops.toList A o = some b) : Region.wanted o (yielded ops a.tmps) = b := by
  rw [wantedA_def] at hw
  unfold Region.wanted
  split at hw
  · rename_i hg; cases hw; simp [hg]
  · rename_i g hg
    obtain ⟨j, want⟩ := g
    simp only [hg]
    unfold yielded
    simp only [Array.getElem?_toList] at hw
    split at hw
    · rename_i oj hj
      rw [hj]
      split at hw
      · rename_i d hd
        simp only [Option.bind_some, hd]
        split at hw
        · rename_i x hx
          obtain ⟨v', e1, r⟩ := h.tm d _ hx
          have e2 := r.bool
          subst e2
          rw [e1]
          cases hw
          cases x <;> cases want <;> rfl
        · rename_i x hx
          obtain ⟨v', e1, r⟩ := h.tm d _ hx
          obtain ⟨l', e2, _⟩ := r.tup
          subst e2
          rw [e1]
          cases hw
          rfl
        · cases hw
      · rename_i hd
        cases hw
        simp [hd]
    · rename_i hj
      cases hw
      simp [hj]
/-- an operation: a call of a function, or another. -/
inductive Kd where
  | call (f : Operand) (args : List Operand)
  | plain
  | inv (x : Operand) (m : String) (args : List Operand)
def kdOf (o : Op) : Kd := match o with
  | .call c => (match c.callee with
    | .value f => .call f c.args.toList
    | .invoke x m => .inv x m c.args.toList
    | _ => .plain)
  | _ => .plain
abbrev Rest := AA → Hp → Out
def setR (A : AA) (t : Nat) (v : Value) (H : Hp) (rest : Rest) : Out := AA.rec (motive := fun _ => Out) (fun g n k vt r => Bool.rec (motive := fun _ => Out) (.bad 10) (rest (Bool.rec (motive := fun _ => AA) ⟨g, n, k, vt, (t, v) :: r⟩ ⟨g, n, k, vt.put t (some v), r⟩ (bit k t)) H) (Nat.ble (Nat.succ t) n)) A
def putR (d : Option Tmp) (A : AA) (v : Value) (H : Hp) (rest : Rest) : Out := Option.rec (motive := fun _ => Out) (rest A H) (fun t => setR A t v H rest) d
def put1 (o : Oper) (A : AA) (v : Value) (H : Hp) (rest : Rest) : Out := putR o.dst A v H rest
theorem put1_def (o : Oper) (A : AA) (v : Value) (H : Hp) (rest : Rest) : put1 o A v H rest = (match putA A o.dst v with
  | some A' => rest A' H
  | none => .bad 10) := by
  unfold put1
  cases o.dst with
  | none => rfl
  | some t =>
    show setR A t v H rest = (match A.set t v with
      | some A' => rest A' H
      | none => .bad 10)
    obtain ⟨g, n, k, vt, r⟩ := A
    show Bool.rec (motive := fun _ => Out) (.bad 10) (rest (Bool.rec (motive := fun _ => AA) ⟨g, n, k, vt, (t, v) :: r⟩ ⟨g, n, k, vt.put t (some v), r⟩ (bit k t)) H) (Nat.ble (Nat.succ t) n) = (match ite' (Nat.ble (Nat.succ t) n) (some (ite' (bit k t) ⟨g, n, k, vt.put t (some v), r⟩ ⟨g, n, k, vt, (t, v) :: r⟩)) none with
      | some A' => rest A' H
      | none => .bad 10)
    cases Nat.ble (Nat.succ t) n <;> rfl
/-- the same operations, each as a pair that is found once. -/
structure OpC where
  run : OpF
def callBC (b : Builtin) (args : List Operand) (tys : List TypeId) : OpC := match b with
  | .min => ⟨mmD false args⟩
  | .cap => ⟨capD args tys⟩
  | .copy => ⟨copyD args tys⟩
  | .clear => ⟨clearD args tys⟩
  | .unsafeString => ⟨usD args tys⟩
  | .unsafeSliceData => ⟨sdD args tys⟩
  | .max => ⟨mmD true args⟩
  | .len => ⟨lenD args tys⟩
  | .append => ⟨appF args tys⟩
  | _ => ⟨noF⟩
def callC (c : Call) : OpC := match c.callee with
  | .builtin b => callBC b c.args.toList c.argTypes.toList
  | _ => ⟨noF⟩
def opDC (o : Op) : OpC := match o with
  | .move x => ⟨o_move x⟩
  | .assign x => ⟨o_move x⟩
  | .pick c a b => ⟨o_pick c a b⟩
  | .extract t i => ⟨o_extract t i⟩
  | .binOp op t x y _ => ⟨o_bin op t x y⟩
  | .unOp op _ x => ⟨unD op x⟩
  | .nilCheck x => ⟨o_nilCheck x⟩
  | .load t x => ⟨o_load t x⟩
  | .store t x y => ⟨o_store t x y⟩
  | .fieldAddr s x f => ⟨o_fieldAddr s x f⟩
  | .indexAddr t x i => ⟨o_indexAddr t x i⟩
  | .index t x i => ⟨o_index t x i⟩
  | .box t x => ⟨o_box t x⟩
  | .alloc t => ⟨o_alloc t⟩
  | .build t ps => ⟨o_build t ps.toList⟩
  | .buildSlice t n ps => ⟨o_buildSlice t n ps.toList⟩
  | .convert s d x => ⟨o_conv s d x⟩
  | .makeInterface t x => ⟨o_mkIface t x⟩
  | .typeAssert x _ t ok => ⟨o_tassert x t ok⟩
  | .slice t x lo hi mx => ⟨sliceD t x lo hi mx⟩
  | .call c => ⟨callD c⟩
  | _ => ⟨noF⟩
def opC (o : Op) : OpC := match o with
  | .move x => ⟨o_move x⟩
  | .assign x => ⟨o_move x⟩
  | .pick c a b => ⟨o_pick c a b⟩
  | .extract t i => ⟨o_extract t i⟩
  | .binOp op t x y _ => ⟨orF (o_bin op t x y) (o_ptrEq op t x y)⟩
  | .unOp op _ x => ⟨unD op x⟩
  | .nilCheck x => ⟨o_nilCheck x⟩
  | .load t x => ⟨o_load t x⟩
  | .store t x y => ⟨o_store t x y⟩
  | .fieldAddr s x f => ⟨o_fieldAddr s x f⟩
  | .indexAddr t x i => ⟨o_indexAddr t x i⟩
  | .index t x i => ⟨o_index t x i⟩
  | .box t x => ⟨o_box t x⟩
  | .alloc t => ⟨o_alloc t⟩
  | .build t ps => ⟨o_build t ps.toList⟩
  | .buildSlice t n ps => ⟨o_buildSlice t n ps.toList⟩
  | .slice t x lo hi mx => ⟨orF (sliceD t x lo hi mx) (o_sliceM t x lo hi mx)⟩
  | .convert s d x => ⟨o_convM s d x⟩
  | .makeInterface t x => ⟨o_mkIface t x⟩
  | .typeAssert x _ t ok => ⟨o_tassert x t ok⟩
  | .call c => callC c
  | .field s x f => ⟨o_field s x f⟩
  | .lookup t m k ok => ⟨o_lookupX t m k ok⟩
  | .mapUpdate t m k x => ⟨o_mapUpdateX t m k x⟩
  | .insert t m k x => ⟨o_mapUpdateX t m k x⟩
  | .makeMap t r => ⟨mkMapD r⟩
  | .range t x => ⟨o_range t x⟩
  | .makeSlice t l c => ⟨o_mkSliceG t l c⟩
  | .makeFunc f first cap => ⟨makeFuncD f first.toList cap.toList⟩
  | .next x s => ⟨nextD s x⟩
  | _ => ⟨noF⟩

theorem opDC_eq (o : Op) : (opDC o).run = opD o := by cases o <;> rfl
theorem opC_eq (o : Op) : (opC o).run = opF o := by
  cases o with
  | call c =>
    obtain ⟨callee, args, tys⟩ := c
    cases callee with
    | builtin b => cases b <;> rfl
    | value f => rfl
    | invoke r m => rfl
  | _ => rfl
def plainR (o : Oper) (rest : Rest) (A : AA) (no : Nat) (r : Option (Value × Hp)) : Out := Option.rec (motive := fun _ => Out) (.bad no) (fun r => Prod.rec (motive := fun _ => Out) (fun v H1 => putR o.dst A v H1 rest) r) r
def doPlain (T : Cx) (id : Nat) (o : Oper) (rest : Rest) (A : AA) (H : Hp) : Out := plainR o rest A (Nat.add 1000 id) ((opC o.op).run T A H)
theorem doPlain_def (T : Cx) (id : Nat) (o : Oper) (rest : Rest) (A : AA) (H : Hp) : doPlain T id o rest A H = (match opF o.op T A H with
  | some r => put1 o A r.1 r.2 rest
  | none => .bad (1000 + id)) := by
  unfold doPlain
  rw [opC_eq]
  cases opF o.op T A H with
  | none => rfl
  | some r => obtain ⟨v, H1⟩ := r; rfl
def doCall2 (o : Oper) (rest : Rest) (A : AA) (r : Out) : Out := match r with
  | .call v H' => put1 o A v H' rest
  | .bad w => .bad w
  | _ => .bad 1
/-- what a closure holds comes before and behind the arguments. -/
def addFirst (a args : List Value) : List Value := List.rec (motive := fun _ => List Value) args (fun x l _ => (x :: l) ++ args) a
def addCap (args b : List Value) : List Value := List.rec (motive := fun _ => List Value) args (fun x l _ => args ++ (x :: l)) b
def doCall (T : Cx) (ih : Cmd → Out) (o : Oper) (rest : Rest) (A : AA) (H : Hp) (f : Option Value) (args : Option (List Value)) : Out := match f with
  | some (.func (.func f) a b) => (match args with
    | some args => ite' (Nat.beq A.g T.g) (doCall2 o rest A (ih (.call f (addCap (addFirst a.toList args) b.toList) H))) (.bad 16)
    | none => .bad 11)
  | _ => .bad 2
/-- the method of the value behind an interface, and the receiver that it gets. -/
def recvV (T : Cx) (t : TypeId) (u : Value) (f : FuncId) (pr : Bool) : Option (FuncId × Value) := match T.und t with
  | some (.pointer _) => ite' pr (some (f, u)) none
  | some _ => ite' pr none (some (f, u))
  | none => none
def rowV (T : Cx) (t : TypeId) (u : Value) (m : Method) : Option (FuncId × Value) := match m.path.toList with
  | [] => (match m.func with
    | some (f, pr) => recvV T t u f pr
    | none => none)
  | _ => none
def methV (T : Cx) (v : Option Value) (m : String) : Option (FuncId × Value) := match v with
  | some (.iface t u) => (match T.ty.get t with
    | some i => (match i.methods.toList.find? (fun x => x.name == m) with
      | some q => rowV T t u q
      | none => none)
    | none => none)
  | _ => none
def doInv (T : Cx) (ih : Cmd → Out) (o : Oper) (rest : Rest) (A : AA) (H : Hp) (r : Option (FuncId × Value)) (args : Option (List Value)) : Out := match r with
  | some (f, u) => (match args with
    | some args => ite' (Nat.beq A.g T.g) (doCall2 o rest A (ih (.call f (u :: args) H))) (.bad 16)
    | none => .bad 11)
  | none => .bad 13
def doOp0 (T : Cx) (ih : Cmd → Out) (id : Nat) (o : Oper) (rest : Rest) (A : AA) (H : Hp) : Out :=
  Kd.rec (motive := fun _ => Out) (fun f args => doCall T ih o rest A H (ev A f) (evL A args)) (doPlain T id o rest A H) (fun x m args => doInv T ih o rest A H (methV T (ev A x) m) (evL A args)) (kdOf o.op)
/-- a call of a function that has no body. -/
def cntB (c : Nat) (l : List UInt8) : Nat := List.rec (motive := fun _ => Nat) 0 (fun b _ ih => ite' (Nat.beq b.toNat c) (Nat.succ ih) ih) l
def sucI (r : Int) : Int := Int.rec (motive := fun _ => Int) (fun n => Int.ofNat (Nat.succ n)) (fun n => Int.negSucc n) r
def fstB (c : Nat) (l : List UInt8) : Int := List.rec (motive := fun _ => Int) (Int.negSucc 0) (fun b _ ih => ite' (Nat.beq b.toNat c) (Int.ofNat 0) (sucI ih)) l
def extV (k : Nat) (args : Option (List Value)) : Option Value := match args with
  | some [.string s, .int .u8 (.ofNat c)] => ite' (Nat.ble c 255) (Nat.rec (motive := fun _ => Option Value) (some (.int .i64 (Int.ofNat (cntB c s.data.toList)))) (fun k _ => Nat.rec (motive := fun _ => Option Value) (some (.int .i64 (fstB c s.data.toList))) (fun _ _ => none) k) k) none
  | _ => none
def extF (T : Cx) (A : AA) (args : List Operand) (f : Option Value) : Option Value := match f with
  | some (.func (.func f) a b) => (match T.bw.get f with
    | some q => ite' (Nat.beq q.2 0) (ite' (a.isEmpty && b.isEmpty) (extV q.1 (evL A args)) none) none
    | none => none)
  | _ => none
def xcallV (T : Cx) (A : AA) (o : Op) : Option Value := Kd.rec (motive := fun _ => Option Value) (fun f args => extF T A args (ev A f)) none (fun _ _ _ => none) (kdOf o)
def mnzV (k : Nat) (args : Option (List Value)) (H : Hp) : Option (Value × Hp) := ite' (Nat.ble 4 k) (ite' (Nat.beq (Nat.mod k 2) 0) (match args with
  | some [.int .i64 (.ofNat n)] => ite' (Nat.ble n 281474976710656) (some (.slice (some ⟨H.next, 0, none⟩) n (Nat.succ OPN), H.new (.row .nil n (Nat.div (Nat.sub k 4) 2) true))) none
  | _ => none) none) none
def mnzF (T : Cx) (A : AA) (H : Hp) (args : List Operand) (f : Option Value) : Option (Value × Hp) := match f with
  | some (.func (.func f) a b) => (match T.bw.get f with
    | some q => ite' (Nat.beq q.2 0) (ite' (a.isEmpty && b.isEmpty) (mnzV q.1 (evL A args) H) none) none
    | none => none)
  | _ => none
def xcallM (T : Cx) (A : AA) (H : Hp) (o : Op) : Option (Value × Hp) := Kd.rec (motive := fun _ => Option (Value × Hp)) (fun f args => mnzF T A H args (ev A f)) none (fun _ _ _ => none) (kdOf o)
def xcallOf (T : Cx) (A : AA) (H : Hp) (o : Op) : Option (Value × Hp) := Option.rec (motive := fun _ => Option (Value × Hp)) (xcallM T A H o) (fun v => some (v, H)) (xcallV T A o)
def doOp (T : Cx) (ih : Cmd → Out) (id : Nat) (o : Oper) (rest : Rest) (A : AA) (H : Hp) : Out := Option.rec (motive := fun _ => Out) (doOp0 T ih id o rest A H) (fun r => Prod.rec (motive := fun _ => Out) (fun v H1 => put1 o A v H1 rest) r) (xcallOf T A H o.op)
def stepOp (T : Cx) (ih : Cmd → Out) (id : Nat) (o : Oper) (rest : Rest) (A : AA) (H : Hp) (w : Option Bool) : Out := Option.rec (motive := fun _ => Out) (.bad 12) (fun b => Bool.rec (motive := fun _ => Out) (putR o.dst A undef H rest) (doOp T ih id o rest A H) b) w
theorem stepOp_def (T : Cx) (ih : Cmd → Out) (id : Nat) (o : Oper) (rest : Rest) (A : AA) (H : Hp) (w : Option Bool) : stepOp T ih id o rest A H w = (match w with
  | some true => doOp T ih id o rest A H
  | some false => put1 o A undef H rest
  | none => .bad 12) := by
  cases w with
  | none => rfl
  | some b => cases b <;> rfl
def runOps (T : Cx) (ih : Cmd → Out) (ops : List Oper) (id : Nat) (l : List Oper) (A : AA) (H : Hp) : Out :=
  List.rec (motive := fun _ => AA → Hp → Out) (fun A H => .code .normal A H) (fun o _ rest A H => stepOp T ih id o rest A H (wantedA ops A o)) l A H
/-! ### the result of a function -/
def res1 (T : Cx) (A : AA) (H : Hp) (r : ResultVar) : Option Value := match r with
  | .tmp t => A.get t
  | .cell a t => (match A.get a with
    | some (.pointer (some p)) => loadV T H t p.block p.off
    | _ => none)
def resL (T : Cx) (A : AA) (H : Hp) (l : List ResultVar) : Option (List Value) := List.rec (motive := fun _ => Option (List Value)) (some []) (fun r _ ih => match res1 T A H r with
  | some v => (match ih with
    | some l => some (v :: l)
    | none => none)
  | none => none) l
def resultsA (T : Cx) (A : AA) (H : Hp) (rs : List ResultVar) : Option Value := match resL T A H rs with
  | some l => (match l with
    | [v] => some v
    | l => some (.tuple l.toArray))
  | none => none
/-! ### code -/
abbrev CodeF := Cx → (Cmd → Out) → AA → Hp → Out
def thenEx (ih : Cmd → Out) (b : Code) (e : Ex) (A : AA) (H : Hp) : Out := Ex.rec (motive := fun _ => Out) (ih (.code b A H)) (fun i => .code (.exit i) A H) (.code .ret A H) e
def thenCode (ih : Cmd → Out) (b : Code) (r : Out) : Out := Out.rec (motive := fun _ => Out) (fun e A H => thenEx ih b e A H) (fun v H => .call v H) (fun w => .bad w) r
theorem thenCode_def (ih : Cmd → Out) (b : Code) (r : Out) : thenCode ih b r = (match r with
  | .code .normal A' H' => ih (.code b A' H')
  | r => r) := by
  cases r with
  | code e A H => cases e <;> rfl
  | call v H => rfl
  | bad w => rfl
def condCode (ih : Cmd → Out) (a b : Code) (A : AA) (H : Hp) (v : Option Value) : Out := match v with
  | some (.bool x) => ih (.code (ite' x a b) A H)
  | _ => .bad 3
def blockCode (id : Nat) (r : Out) : Out := match r with
  | .code (.exit j) A' H' => ite' (Nat.beq j id) (.code .normal A' H') (.code (.exit j) A' H')
  | r => r
def usesOf (l : List Operand) (d m : Nat) : Nat := List.rec (motive := fun _ => Nat) m (fun x _ ih => match x with
  | .tmp t => ite' (bit d t) ih (Nat.lor ih (Nat.shiftLeft 1 t))
  | _ => ih) l
def kOps (l : List Oper) : Nat → Nat → Nat := List.rec (motive := fun _ => Nat → Nat → Nat) (fun _ m => m) (fun o _ ih d m =>
  ih (match o.dst with | some t => Nat.lor d (Nat.shiftLeft 1 t) | none => d) (usesOf o.op.operands.toList d m)) l
/-- the temporaries that a region takes from elsewhere, as bits. -/
def kCode (c : Code) : Nat :=
  Code.rec (motive := fun _ => Nat) 0 (fun _ ops _ => kOps ops.toList 0 0) (fun _ _ a b => Nat.lor a b) (fun _ _ _ a b => Nat.lor a b) (fun _ _ a => a) (fun _ a => a) (fun _ _ _ _ a b => Nat.lor a b) (fun _ => 0) (fun _ a => a) (fun _ => 0) (fun _ => 0) 0 (fun _ => 0) c
def kRes (l : List ResultVar) : Nat := List.rec (motive := fun _ => Nat) 0 (fun r _ ih => match r with | .tmp t => Nat.lor ih (Nat.shiftLeft 1 t) | .cell t _ => Nat.lor ih (Nat.shiftLeft 1 t)) l
def kOf (fn : Func) (c : Code) : Nat := Nat.lor (Nat.lor (kCode c) (Nat.sub (Nat.shiftLeft 1 fn.params.size) 1)) (kRes fn.results.toList)
def backCall (T : Cx) (f : FuncId) (rs : List ResultVar) (r : Out) : Out := match r with
  | .code .normal A' H' => (match resultsA T A' H' rs with
    | some v => .call v H'
    | none => .bad 5)
  | .code .ret A' H' => (match resultsA T A' H' rs with
    | some v => .call v H'
    | none => .bad 5)
  | .bad w => .bad (w * 1000 + f)
  | _ => .bad 6
def entryA (T : Cx) (fn : Func) (c : Code) (args : List Value) : AA := ⟨T.g, Nat.max args.length fn.ntmps, kOf fn c, Tr.lay args 0 .nil, []⟩
def enterCall (T : Cx) (ih : Cmd → Out) (f : FuncId) (fn : Func) (args : List Value) (H : Hp) : Out := match fn.body with
  | some c => backCall T f fn.results.toList (ih (.code c (entryA T fn c args) H))
  | none => .bad 7
end
end Go.Proofs.YtdkfimejabanlaaDoor
namespace Go.Proofs.YtdkfimejabanlaaDoor
open Go
set_option linter.unusedVariables false
set_option linter.unusedSimpArgs false
noncomputable section
variable {ds : List Deferred}
def CallsOk (P : Program) (T : Cx) (ih : Cmd → Out) : Prop := ∀ f args H v H', ih (.call f args H) = .call v H' → (∃ fn, P.funcs[f]? = some fn ∧ (fn.name == "runtime.NumGoroutine") = false ∧ fn.body.isNone = false) ∧ ∀ (E : Env) (args' : List Value) (w : World), VL E H.next args args' → HRel E H w → (∀ g, g < T.g → E.s g = g ∧ g < H.next) →
  Calls P f args'.toArray w fun e w' => ∃ E' v', e = .returned v' ∧ Gd E E' H H' w w' ∧ VR E' H'.next v v' ∧ HRel E' H' w'
theorem kdOf_call {o : Op} {f : Operand} {args : List Operand} (h : kdOf o = .call f args) : ∃ tys, o = .call ⟨.value f, args.toArray, tys⟩ := by
  unfold kdOf at h
  split at h
  · rename_i c
    split at h
    · rename_i g hc
      cases h
      obtain ⟨callee, ⟨as⟩, tys⟩ := c
      simp only at hc; subst hc
      exact ⟨tys, rfl⟩
    · cases h
    · cases h
  · cases h
theorem VR.fn {E : Env} {N : Nat} {f : FuncId} {a b : Array Value} {v : Value} (h : VR E N (.func (.func f) a b) v) : ∃ l' m', v = .func (.func f) l'.toArray m'.toArray ∧ VL E N a.toList l' ∧ VL E N b.toList m' := by
  cases h with
  | same h =>
    simp [plainV] at h
    obtain ⟨rfl, rfl⟩ := h
    exact ⟨[], [], rfl, .nil, .nil⟩
  | clo h k => exact ⟨_, _, rfl, h, k⟩
theorem addFirst_vl {E : Env} {N : Nat} {a l' args args' : List Value} (h : VL E N a l') (k : VL E N args args') : VL E N (addFirst a args) (l' ++ args') := by
  cases h with
  | nil => exact k
  | cons h t => exact (VL.cons h t).append k
theorem addCap_vl {E : Env} {N : Nat} {b m' args args' : List Value} (h : VL E N b m') (k : VL E N args args') : VL E N (addCap args b) (args' ++ m') := by
  cases h with
  | nil => rw [List.append_nil]; exact k
  | cons h t => exact k.append (.cons h t)
theorem put1_ok {o : Oper} {A : AA} {v : Value} {H : Hp} {rest : Rest} {e : Ex} {A' : AA} {H' : Hp} (h : put1 o A v H rest = .code e A' H') : ∃ A1, putA A o.dst v = some A1 ∧ rest A1 H = .code e A' H' := by
  rw [put1_def] at h
  split at h
  · exact ⟨_, by assumption, h⟩
  · cases h
/-- what is to be shown behind an operation. -/
def Cont (ds : List Deferred) (E : Env) (H : Hp) (w : World) (rest : Rest) (e : Ex) (A' : AA) (H' : Hp) (K : Act → World → Prop) : Prop :=
  ∀ E1 A1 H1 a1 w1, rest A1 H1 = .code e A' H' → Gd E E1 H H1 w w1 → AR ds E1 H1.next A1 a1 → HRel E1 H1 w1 → K a1 w1
theorem doPlain_ok {P : Program} {T : Cx} (hT : Fits P T) {id : Nat} {o : Oper} {rest : Rest} {A A' : AA} {H H' : Hp} {e : Ex} (h : doPlain T id o rest A H = .code e A' H') {E : Env} {a : Act} {w : World} (ha : AR ds E H.next A a) (hr : HRel E H w)
    {K : Act → World → Prop} {Q : Exit → Act → World → Prop} (hK : Cont ds E H w rest e A' H' K) : o.wp P a w K Q := by
  rw [doPlain_def] at h
  split at h
  · rename_i r hop
    obtain ⟨v, H1⟩ := r
    obtain ⟨A1, hp, hrest⟩ := put1_ok h
    obtain ⟨E1, v', w1, n, h1, h2, h3, h4, h5⟩ := opF_ok hT A H v H1 hop E a w ha hr
    have ha1 := (ha.mono h3.ag h3.le).put hp h4
    unfold Oper.wp
    rw [h1]
    rcases h2 with rfl | ⟨rfl, rfl⟩
    · exact hK E1 A1 H1 _ _ hrest h3 ha1 h5
    · exact hK E1 A1 H1 _ _ hrest h3 ha1 h5
  · cases h
theorem call_run {P : Program} {fid : FuncId} {fn : Func} {args : Array Value} {w : World} (hf : P.funcs[fid]? = some fn) (hn : (fn.name == "runtime.NumGoroutine") = false) (hb : fn.body.isNone = false) :
    (callFunc fid args).run P w = .ok (.enter fid args) w := by
  have hn2 : fn.name ≠ "runtime.NumGoroutine" := by simpa using hn
  have hb2 : fn.body ≠ none := fun e => by rw [e] at hb; cases hb
  simp [callFunc, hf, hn2, hb2]
theorem doCall_ok {P : Program} {T : Cx} {ih : Cmd → Out} (hih : CallsOk P T ih) {o : Oper} {f : Operand} {args : List Operand} (hk : kdOf o.op = .call f args) {rest : Rest} {A A' : AA} {H H' : Hp} {e : Ex}
    (h : doCall T ih o rest A H (ev A f) (evL A args) = .code e A' H') {E : Env} {a : Act} {w : World} (ha : AR ds E H.next A a) (hr : HRel E H w)
    {K : Act → World → Prop} {Q : Exit → Act → World → Prop} (hK : Cont ds E H w rest e A' H' K) : o.wp P a w K Q := by
  unfold doCall at h
  split at h
  · rename_i fid x1 x2 hf
    split at h
    · rename_i vs hvs
      obtain ⟨hg, h⟩ : Nat.beq A.g T.g = true ∧ doCall2 o rest A (ih (.call fid (addCap (addFirst x1.toList vs) x2.toList) H)) = .code e A' H' := by
        cases hb : Nat.beq A.g T.g with
        | true => rw [hb] at h; exact ⟨rfl, h⟩
        | false => rw [hb] at h; cases h
      have hg2 := Nat.eq_of_beq_eq_true hg
      unfold doCall2 at h
      split at h
      · rename_i v H1 hcall
        obtain ⟨A1, hp, hrest⟩ := put1_ok h
        obtain ⟨⟨fn, q1, q2, q3⟩, hc⟩ := hih fid _ H v H1 hcall
        obtain ⟨tys, ho⟩ := kdOf_call hk
        obtain ⟨l', m', e3, r1, r2⟩ := (ev_ok ha hf).fn
        have hvl := addCap_vl r2 (addFirst_vl r1 (evL_ok ha hvs))
        have hC := hc E _ w hvl hr (fun g hgg => ha.gl g (by rw [hg2]; exact hgg))
        unfold Oper.wp
        have hrun : (execOp a.eval o).run P w = .ok (.enter fid ((l' ++ args.map a.eval) ++ m').toArray) w := by
          simp [execOp, ho, resolve, Deferred.ofValue, e3, invoke, call_run q1 q2 q3]
        rw [hrun, Oper.upon_enter]
        refine hC.mono fun en w1 hh => ?_
        obtain ⟨E1, v', rfl, g1, g2, g3⟩ := hh
        exact hK E1 A1 H1 _ _ hrest g1 ((ha.mono g1.ag g1.le).put hp g2) g3
      · cases h
      · cases h
    · cases h
  · cases h
theorem kdOf_inv {o : Op} {x : Operand} {m : String} {args : List Operand} (h : kdOf o = .inv x m args) : ∃ tys, o = .call ⟨.invoke x m, args.toArray, tys⟩ := by
  unfold kdOf at h
  split at h
  · rename_i c
    split at h
    · cases h
    · rename_i y k hc
      cases h
      obtain ⟨callee, ⟨as⟩, tys⟩ := c
      simp only at hc; subst hc
      exact ⟨tys, rfl⟩
    · cases h
  · cases h
theorem method_run {P : Program} {T : Cx} (hT : Fits P T) {t : TypeId} {u : Value} {m : String} {f : FuncId} {u2 : Value} (h : methV T (some (.iface t u)) m = some (f, u2)) : u2 = u ∧ ∀ (v : Value) (w : World), (method (P.types.size + Made.depth) t v m).run P w = .ok (f, v) w := by
  unfold methV at h
  dsimp only at h
  split at h
  · rename_i i hi
    split at h
    · rename_i q hq
      have hq2 : i.methods.find? (fun x => x.name == m) = some q := by rw [← Array.find?_toList]; exact hq
      unfold rowV at h
      split at h
      · rename_i hp
        have hp2 : q.path = #[] := by
          have := congrArg List.toArray hp
          simpa using this
        split at h
        · rename_i g pr hf
          unfold recvV at h
          split at h
          · rename_i e hd
            obtain ⟨h1, h2⟩ := ite'_some h
            cases h2
            refine ⟨rfl, fun v w => ?_⟩
            show (method (P.types.size + 99 + 1) _ v m).run P w = _
            unfold method
            subst h1
            simp [typeInfo, hT.ty _ i hi, hq2, hp2, follow, hf, receiverAt, run_underlying (hT.und hd), Place.get]
          · rename_i d hne hd
            obtain ⟨h1, h2⟩ := ite'_none h
            cases h2
            refine ⟨rfl, fun v w => ?_⟩
            show (method (P.types.size + 99 + 1) _ v m).run P w = _
            unfold method
            subst h1
            have hu2 := run_underlying (P := P) (hT.und hd) w
            cases d <;> first | (exact absurd rfl (hne _)) | simp [typeInfo, hT.ty _ i hi, hq2, hp2, follow, hf, receiverAt, hu2, Place.get]
          · cases h
        · cases h
      · cases h
    · cases h
  · cases h
theorem inv_run {P : Program} {T : Cx} (hT : Fits P T) {ih : Cmd → Out} (hih : CallsOk P T ih) {o : Oper} {x : Operand} {m : String} {args : List Operand} (hk : kdOf o.op = .inv x m args) {A : AA} {H H1 : Hp} {f : FuncId} {u : Value} {vs : List Value} {v : Value} (hm : methV T (ev A x) m = some (f, u)) (hvs : evL A args = some vs) (hcall : ih (.call f (u :: vs) H) = .call v H1)
    (hg2 : A.g = T.g) {E : Env} {a : Act} {w : World} (ha : AR ds E H.next A a) (hr : HRel E H w) :
    ∃ as', (execOp a.eval o).run P w = .ok (.enter f as') w ∧ Calls P f as' w fun e w' => ∃ E' v', e = .returned v' ∧ Gd E E' H H1 w w' ∧ VR E' H1.next v v' ∧ HRel E' H1 w' := by
  obtain ⟨⟨fn, q1, q2, q3⟩, hc⟩ := hih f _ H v H1 hcall
  obtain ⟨tys, ho⟩ := kdOf_inv hk
  cases hx : ev A x with
  | none => rw [hx] at hm; cases hm
  | some y =>
    rw [hx] at hm
    cases y with
    | iface t z =>
      obtain ⟨rfl, hmr⟩ := method_run (P := P) hT hm
      obtain ⟨z', e1, r1⟩ := (ev_ok ha hx).ifc
      have hC := hc E (z' :: args.map a.eval) w (.cons r1 (evL_ok ha hvs)) hr (fun g hgg => ha.gl g (by rw [hg2]; exact hgg))
      refine ⟨_, ?_, hC⟩
      have hmr2 := hmr z' w
      have htk : List.take args.length (args.map a.eval) = args.map a.eval := List.take_of_length_le (by simp)
      simp [execOp, ho, resolve, invoke, callMethod, e1, htk, hmr2, call_run q1 q2 q3]
    | _ => cases hm
theorem doInv_ok {P : Program} {T : Cx} (hT : Fits P T) {ih : Cmd → Out} (hih : CallsOk P T ih) {o : Oper} {x : Operand} {m : String} {args : List Operand} (hk : kdOf o.op = .inv x m args) {rest : Rest} {A A' : AA} {H H' : Hp} {e : Ex}
    (h : doInv T ih o rest A H (methV T (ev A x) m) (evL A args) = .code e A' H') {E : Env} {a : Act} {w : World} (ha : AR ds E H.next A a) (hr : HRel E H w)
    {K : Act → World → Prop} {Q : Exit → Act → World → Prop} (hK : Cont ds E H w rest e A' H' K) : o.wp P a w K Q := by
  unfold doInv at h
  split at h
  · rename_i f u hm
    split at h
    · rename_i vs hvs
      obtain ⟨hg, h⟩ : Nat.beq A.g T.g = true ∧ doCall2 o rest A (ih (.call f (u :: vs) H)) = .code e A' H' := by
        cases hb : Nat.beq A.g T.g with
        | true => rw [hb] at h; exact ⟨rfl, h⟩
        | false => rw [hb] at h; cases h
      unfold doCall2 at h
      split at h
      · rename_i v H1 hcall
        obtain ⟨A1, hp, hrest⟩ := put1_ok h
        obtain ⟨as', hrun, hC⟩ := inv_run hT hih hk hm hvs hcall (Nat.eq_of_beq_eq_true hg) ha hr
        unfold Oper.wp
        rw [hrun, Oper.upon_enter]
        refine hC.mono fun en w1 hh => ?_
        obtain ⟨E1, v', rfl, g1, g2, g3⟩ := hh
        exact hK E1 A1 H1 _ _ hrest g1 ((ha.mono g1.ag g1.le).put hp g2) g3
      · cases h
      · cases h
    · cases h
  · cases h
theorem doOp0_ok {P : Program} {T : Cx} (hT : Fits P T) {ih : Cmd → Out} (hih : CallsOk P T ih) {id : Nat} {o : Oper} {rest : Rest} {A A' : AA} {H H' : Hp} {e : Ex} (h : doOp0 T ih id o rest A H = .code e A' H') {E : Env} {a : Act} {w : World} (ha : AR ds E H.next A a) (hr : HRel E H w)
    {K : Act → World → Prop} {Q : Exit → Act → World → Prop} (hK : Cont ds E H w rest e A' H' K) : o.wp P a w K Q := by
  unfold doOp0 at h
  cases hk : kdOf o.op with
  | call f args => rw [hk] at h; exact doCall_ok hih hk h ha hr hK
  | inv x m args => rw [hk] at h; exact doInv_ok hT hih hk h ha hr hK
  | plain => rw [hk] at h; exact doPlain_ok hT h ha hr hK
theorem cntB_eq (c : Nat) (hc : c ≤ 255) : ∀ (l : List UInt8), cntB c l = Lib.countByte l c.toUInt8
  | [] => rfl
  | b :: l => by
    have ih := cntB_eq c hc l
    unfold Lib.countByte at *
    rw [List.count_cons]
    show ite' (Nat.beq b.toNat c) (Nat.succ (cntB c l)) (cntB c l) = _
    rw [ih]
    have hcn : (Nat.toUInt8 c).toNat = c := by simp [UInt8.toNat_ofNat]; omega
    cases hb : Nat.beq b.toNat c with
    | true =>
      have e : b = Nat.toUInt8 c := UInt8.toNat_inj.1 (by rw [hcn]; exact Nat.eq_of_beq_eq_true hb)
      rw [e]; simp
    | false =>
      have e : ¬ b = Nat.toUInt8 c := fun e => by
        rw [e, hcn, Nat.beq_refl] at hb; cases hb
      simp [e]
theorem beqB_iff (b : UInt8) (c : Nat) (hc : c ≤ 255) : Nat.beq b.toNat c = (b == Nat.toUInt8 c) := by
  have hcn : (Nat.toUInt8 c).toNat = c := by simp [UInt8.toNat_ofNat]; omega
  cases hb : Nat.beq b.toNat c with
  | true =>
    have e : b = Nat.toUInt8 c := UInt8.toNat_inj.1 (by rw [hcn]; exact Nat.eq_of_beq_eq_true hb)
    rw [e]; simp
  | false =>
    have e : ¬ b = Nat.toUInt8 c := fun e => by
      rw [e, hcn, Nat.beq_refl] at hb; cases hb
    simp [e]
theorem fstB_eq (c : Nat) (hc : c ≤ 255) : ∀ (l : List UInt8), fstB c l = Lib.indexByte l c.toUInt8
  | [] => rfl
  | b :: l => by
    have ih := fstB_eq c hc l
    show ite' (Nat.beq b.toNat c) (Int.ofNat 0) (sucI (fstB c l)) = _
    unfold Lib.indexByte
    rw [ih, beqB_iff b c hc]
    have hge := Lib.indexByte_ge l (Nat.toUInt8 c)
    cases hb : (b == Nat.toUInt8 c) with
    | true => rfl
    | false =>
      show sucI (Lib.indexByte l (Nat.toUInt8 c)) = if (false = true) then _ else _
      rw [if_neg (by simp)]
      generalize Lib.indexByte l (Nat.toUInt8 c) = r at *
      cases r with
      | ofNat n =>
        rw [if_neg (by simp)]
        rfl
      | negSucc n =>
        have : n = 0 := by omega
        subst this
        rfl
theorem ext_okV {P : Program} {T : Cx} (hT : Fits P T) {E : Env} {N : Nat} {A : AA} {a : Act} (ha : AR ds E N A a) {o : Oper} {v : Value} (h : xcallV T A o.op = some v) (w : World) : (execOp a.eval o).run P w = .ok (.value v) w ∧ plainV v = true := by
  unfold xcallV at h
  cases hk : kdOf o.op with
  | plain => rw [hk] at h; cases h
  | inv x m args => rw [hk] at h; cases h
  | call f args =>
    rw [hk] at h
    change extF T A args (ev A f) = some v at h
    unfold extF at h
    split at h
    · rename_i fid x1 x2 hf
      split at h
      · rename_i q hq
        obtain ⟨h0, h⟩ := ite'_some h
        obtain ⟨hab, h⟩ := ite'_some h
        obtain ⟨fn, e, k1, k2, k3, k4, k5, k6⟩ : ExtAt1 P fid q.1 := by
          rcases hT.ext fid q hq (Nat.eq_of_beq_eq_true h0) with ⟨_, h1⟩ | ⟨h2, _⟩ | ⟨T0, h2, _⟩ | ⟨T0, h2, _⟩
          · exact h1
          · rw [h2] at h
            unfold extV at h
            split at h
            · obtain ⟨_, h⟩ := ite'_some h
              cases h
            · cases h
          · rw [h2] at h
            unfold extV at h
            split at h
            · obtain ⟨_, h⟩ := ite'_some h
              cases h
            · cases h
          · rw [h2] at h
            unfold extV at h
            split at h
            · obtain ⟨_, h⟩ := ite'_some h
              cases h
            · cases h
        unfold extV at h
        split at h
        · rename_i s c hvs
          obtain ⟨hc, hv⟩ := ite'_some h
          clear h
          have hc2 := Nat.le_of_ble_eq_true hc
          obtain ⟨tys, ho⟩ := kdOf_call hk
          obtain ⟨l', m', e3, r1, r2⟩ := (ev_ok ha hf).fn
          have hx1 : x1 = #[] := by
            have : x1.isEmpty = true := by rw [Bool.and_eq_true] at hab; exact hab.1
            simpa using this
          have hx2 : x2 = #[] := by
            have : x2.isEmpty = true := by rw [Bool.and_eq_true] at hab; exact hab.2
            simpa using this
          subst hx1 hx2
          have hl : l' = [] := by cases r1; rfl
          have hm : m' = [] := by cases r2; rfl
          subst hl hm
          have hargs : args.map a.eval = [.string s, .int .u8 (c : Int)] := by
            have := evL_ok ha hvs
            generalize args.map a.eval = vs at *
            cases this with
            | cons h1 t1 =>
              cases t1 with
              | cons h2 t2 =>
                cases t2
                rw [h1.string, h2.int]
                rfl
          have hun : ((c : Int).toNat).toUInt8 = Nat.toUInt8 c := rfl
          have hrun := run_callFunc_extern k1 k2 k3 k4 k5 #[.string s, .int .u8 (c : Int)] w
          cases hq1 : q.1 with
          | zero =>
            rw [hq1] at hv k6
            cases hv
            cases k6
            refine ⟨?_, rfl⟩
            have hcs := Lib.run_countString (P := P) s (c : Int) w
            rw [hun, ← cntB_eq c hc2 s.data.toList] at hcs
            rw [hcs] at hrun
            have hrun2 : (callFunc fid #[.string s, .int .u8 (c : Int)]).run P w = .ok (.value (.int .i64 (Int.ofNat (cntB c s.data.toList)))) w := hrun
            simp [execOp, ho, resolve, Deferred.ofValue, e3, invoke, hargs, hrun2]
          | succ n =>
            cases n with
            | succ n => rw [hq1] at hv; cases hv
            | zero =>
              rw [hq1] at hv k6
              cases hv
              cases k6
              refine ⟨?_, rfl⟩
              have hcs := Lib.run_indexByteString (P := P) s (c : Int) w
              rw [hun, ← fstB_eq c hc2 s.data.toList] at hcs
              rw [hcs] at hrun
              have hrun2 : (callFunc fid #[.string s, .int .u8 (c : Int)]).run P w = .ok (.value (.int .i64 (fstB c s.data.toList))) w := hrun
              simp [execOp, ho, resolve, Deferred.ofValue, e3, invoke, hargs, hrun2]
        · cases h
      · cases h
    · cases h
theorem odd_ne (n : Nat) (h : (2 * n + 3) % 2 = 0) : False := by omega
theorem mnz_ok {P : Program} {T : Cx} (hT : Fits P T) {E : Env} {A : AA} {a : Act} {H H1 : Hp} (ha : AR ds E H.next A a) {o : Oper} {v : Value} (h : xcallM T A H o.op = some (v, H1)) {w : World} (hr : HRel E H w) :
    ∃ E1 v' w', (execOp a.eval o).run P w = .ok (.value v') w' ∧ Gd E E1 H H1 w w' ∧ VR E1 H1.next v v' ∧ HRel E1 H1 w' := by
  unfold xcallM at h
  cases hk : kdOf o.op with
  | plain => rw [hk] at h; cases h
  | inv x m args => rw [hk] at h; cases h
  | call f args =>
    rw [hk] at h
    change mnzF T A H args (ev A f) = some (v, H1) at h
    unfold mnzF at h
    split at h
    · rename_i fid x1 x2 hf
      split at h
      · rename_i q hq
        obtain ⟨h0, h1⟩ := ite'_some h
        clear h
        obtain ⟨hab, h⟩ := ite'_some h1
        clear h1
        unfold mnzV at h
        obtain ⟨h4, h1⟩ := ite'_some h
        clear h
        obtain ⟨h5, h⟩ := ite'_some h1
        clear h1
        replace h4 := Nat.le_of_ble_eq_true h4
        replace h5 : q.1 % 2 = 0 := Nat.eq_of_beq_eq_true h5
        split at h
        · rename_i n hvs
          obtain ⟨h6, h1⟩ := ite'_some h
          cases h1
          clear h
          replace h6 := Nat.le_of_ble_eq_true h6
          obtain ⟨e, he, fn, ps, t, k1, k2, k3, k4, k5, k6⟩ : ∃ e : Nat, q.1 = 2 * e + 4 ∧ MnzAt P fid e := by
            rcases hT.ext fid q hq (Nat.eq_of_beq_eq_true h0) with ⟨_, fn, ee, _, _, _, _, _, h7⟩ | ⟨h7, _⟩ | ⟨T0, h7, _⟩ | h7
            · exfalso
              obtain ⟨k, hk⟩ : ∃ k : Nat, q.1 = k + 4 := ⟨Nat.sub q.1 4, (Nat.sub_add_cancel h4).symm⟩
              rw [hk] at h7
              cases h7
            · rw [h7] at h4; exact absurd h4 (by decide)
            · rw [h7] at h5; exact (odd_ne T0 h5).elim
            · exact h7
          have hdv : Nat.div (Nat.sub q.1 4) 2 = e := by
            rw [he]
            show (2 * e + 4 - 4) / 2 = e
            omega
          rw [hdv]
          obtain ⟨tys, ho⟩ := kdOf_call hk
          obtain ⟨l', m', e3, r1, r2⟩ := (ev_ok ha hf).fn
          have hx1 : x1 = #[] := by
            have : x1.isEmpty = true := by rw [Bool.and_eq_true] at hab; exact hab.1
            simpa using this
          have hx2 : x2 = #[] := by
            have : x2.isEmpty = true := by rw [Bool.and_eq_true] at hab; exact hab.2
            simpa using this
          subst hx1 hx2
          have hl : l' = [] := by cases r1; rfl
          have hm : m' = [] := by cases r2; rfl
          subst hl hm
          have hargs : args.map a.eval = [.int .i64 (n : Int)] := by
            have := evL_ok ha hvs
            generalize args.map a.eval = vs at *
            cases this with
            | cons h1 t1 =>
              cases t1
              rw [h1.int]
              rfl
          obtain ⟨cs, hrun, hle, _⟩ := Lib.run_makeNoZero (P := P) w ps t e k6 n h6
          have hcall := run_callFunc_extern k1 k2 k3 k4 k5 #[.int .i64 (n : Int)] w
          rw [hrun] at hcall
          have hcall2 : (callFunc fid #[.int .i64 (n : Int)]).run P w = .ok (.value (.slice (some ⟨w.heap.size, 0, none⟩) n cs.size)) (w.drew.drew.alloc (.cells cs e)) := hcall
          have hrd : HRel E H w.drew.drew := hr.heap rfl
          obtain ⟨g1, g2⟩ := hrd.new (x := .row .nil n e true) (o := .cells cs e) (k := cs.size)
            ⟨_, (0, 0), rfl, ⟨fun i _ hh => by omega, fun _ => rfl⟩, hle, by simp [Env.add], fun i v hi hv => by
              have : (Tr.nil : Tr Value).get i = none := by cases i <;> rfl
              rw [this] at hv; cases hv⟩
          refine ⟨_, .slice (some ⟨w.heap.size, 0, none⟩) n cs.size, _, ?_, ⟨g2.le, g2.ag, g2.dom, g2.os, g2.tape, g2.output, g2.size, g2.frame⟩, ?_, g1⟩
          · simp [execOp, ho, resolve, Deferred.ofValue, e3, invoke, hargs, hcall2]
          · have z1 := VR.open_ (E := E.add H.next w.heap.size cs.size) (N := H.next + 1) (b := H.next) (o := 0) (l := n) (c := OPN + 1) (c' := cs.size) (Nat.lt_succ_self _) (by omega) hle (by simp [Env.add, Nat.add_sub_cancel_left])
            have hs : (E.add H.next w.heap.size cs.size).s H.next = w.heap.size := by simp [Env.add]
            rw [hs] at z1
            exact z1
        · cases h
      · cases h
    · cases h
theorem ext_ok {P : Program} {T : Cx} (hT : Fits P T) {E : Env} {A : AA} {a : Act} {H H1 : Hp} (ha : AR ds E H.next A a) {o : Oper} {v : Value} (h : xcallOf T A H o.op = some (v, H1)) {w : World} (hr : HRel E H w) :
    ∃ E1 v' w', (execOp a.eval o).run P w = .ok (.value v') w' ∧ Gd E E1 H H1 w w' ∧ VR E1 H1.next v v' ∧ HRel E1 H1 w' := by
  unfold xcallOf at h
  cases hx : xcallV T A o.op with
  | none => rw [hx] at h; exact mnz_ok hT ha h hr
  | some u =>
    rw [hx] at h
    cases h
    obtain ⟨h1, h2⟩ := ext_okV (P := P) hT ha hx w
    exact ⟨E, v, w, h1, Gd.refl _ _ _, .same h2, hr⟩
theorem doOp_ok {P : Program} {T : Cx} (hT : Fits P T) {ih : Cmd → Out} (hih : CallsOk P T ih) {id : Nat} {o : Oper} {rest : Rest} {A A' : AA} {H H' : Hp} {e : Ex} (h : doOp T ih id o rest A H = .code e A' H') {E : Env} {a : Act} {w : World} (ha : AR ds E H.next A a) (hr : HRel E H w)
    {K : Act → World → Prop} {Q : Exit → Act → World → Prop} (hK : Cont ds E H w rest e A' H' K) : o.wp P a w K Q := by
  unfold doOp at h
  cases hx : xcallOf T A H o.op with
  | none => rw [hx] at h; exact doOp0_ok hT hih h ha hr hK
  | some r =>
    obtain ⟨v, H1⟩ := r
    rw [hx] at h
    obtain ⟨A1, hp, hrest⟩ := put1_ok h
    obtain ⟨E1, v', w', h1, h2, h3, h4⟩ := ext_ok (P := P) hT ha hx hr
    unfold Oper.wp
    rw [h1]
    exact hK E1 A1 H1 _ _ hrest h2 ((ha.mono h2.ag h2.le).put hp h3) h4
/-- what a piece of code comes to. -/
def Post (ds : List Deferred) (e : Ex) (A' : AA) (H' : Hp) (E : Env) (H : Hp) (w : World) : Exit → Act → World → Prop := fun x a' w' => x = e.out ∧ ∃ E', Gd E E' H H' w w' ∧ AR ds E' H'.next A' a' ∧ HRel E' H' w'
theorem Post.trans {e : Ex} {A' : AA} {E E1 : Env} {H H1 H' : Hp} {w w1 : World} (g : Gd E E1 H H1 w w1) {x : Exit} {a' : Act} {w' : World} (h : Post ds e A' H' E1 H1 w1 x a' w') : Post ds e A' H' E H w x a' w' := by
  obtain ⟨h1, E', g2, h3, h4⟩ := h
  exact ⟨h1, E', g.trans g2, h3, h4⟩
theorem runOps_nil (T : Cx) (ih : Cmd → Out) (ops : List Oper) (id : Nat) (A : AA) (H : Hp) : runOps T ih ops id [] A H = .code .normal A H := rfl
theorem runOps_cons (T : Cx) (ih : Cmd → Out) (ops : List Oper) (id : Nat) (o : Oper) (l : List Oper) (A : AA) (H : Hp) : runOps T ih ops id (o :: l) A H = stepOp T ih id o (runOps T ih ops id l) A H (wantedA ops A o) := rfl
theorem runOps_ok {P : Program} {T : Cx} (hT : Fits P T) {ih : Cmd → Out} (hih : CallsOk P T ih) {ops : Array Oper} {id : Nat} {A' : AA} {H' : Hp} {e : Ex} : ∀ (k : Nat) {A : AA} {H : Hp}, runOps T ih ops.toList id (ops.toList.drop k) A H = .code e A' H' → ∀ {E : Env} {a : Act} {w : World}, AR ds E H.next A a → HRel E H w →
    ∀ {Q : Exit → Act → World → Prop}, (∀ E1 a1 w1, e = .normal → Gd E E1 H H' w w1 → AR ds E1 H'.next A' a1 → HRel E1 H' w1 → Q .normal a1 w1) → k ≤ ops.size → wpOps P ops Q (List.range' k (ops.size - k)) a w := by
  intro k
  induction hn : ops.size - k generalizing k with
  | zero =>
    intro A H h E a w ha hr Q hQ hk
    rw [List.drop_eq_nil_of_le (by simp; omega), runOps_nil] at h
    cases h
    exact hQ E a w rfl (Gd.refl _ _ _) ha hr
  | succ n ihn =>
    intro A H h E a w ha hr Q hQ hk
    have hlt : k < ops.size := by omega
    rw [List.drop_eq_getElem_cons (by simpa using hlt), runOps_cons] at h
    simp only [Array.getElem_toList] at h
    rw [List.range'_succ]
    unfold wpOps
    rw [Array.getElem?_eq_getElem hlt]
    simp only
    cases hw : wantedA ops.toList A ops[k] with
    | none => rw [hw] at h; cases h
    | some b =>
      rw [hw] at h
      have hwant := wantedA_ok ha hw
      have next : ∀ E1 A1 H1 a1 w1, runOps T ih ops.toList id (ops.toList.drop (k + 1)) A1 H1 = .code e A' H' → Gd E E1 H H1 w w1 → AR ds E1 H1.next A1 a1 → HRel E1 H1 w1 → wpOps P ops Q (List.range' (k + 1) n) a1 w1 := fun E1 A1 H1 a1 w1 hh g ha1 hr1 =>
        ihn (k + 1) (by omega) hh ha1 hr1 (fun E2 a2 w2 he g2 ha2 hr2 => hQ E2 a2 w2 he (g.trans g2) ha2 hr2) (by omega)
      cases b with
      | true =>
        rw [hwant, if_pos rfl]
        exact .inl (doOp_ok hT hih h ha hr next)
      | false =>
        rw [hwant, if_neg (by simp)]
        obtain ⟨A1, hp, hrest⟩ := put1_ok h
        exact next E A1 H _ _ hrest (Gd.refl _ _ _) (ha.put hp VR.undef) hr
theorem region_ops {P : Program} {T : Cx} (hT : Fits P T) {ih : Cmd → Out} (hih : CallsOk P T ih) {ops : Array Oper} {id : Nat} {A A' : AA} {H H' : Hp} {e : Ex} (h : runOps T ih ops.toList id ops.toList A H = .code e A' H') {E : Env} {a : Act} {w : World} (ha : AR ds E H.next A a) (hr : HRel E H w) :
    e = .normal ∧ wpOps P ops (Post ds e A' H' E H w) (List.range ops.size) a w := by
  have he : ∀ (l : List Oper) (A : AA) (H : Hp), runOps T ih ops.toList id l A H = .code e A' H' → e = .normal := by
    intro l
    induction l with
    | nil => intro A H h; rw [runOps_nil] at h; cases h; rfl
    | cons o l ihl =>
      intro A H h
      rw [runOps_cons] at h
      rw [stepOp_def] at h
      split at h
      · unfold doOp at h
        cases hx : xcallOf T A H o.op with
        | some r =>
          obtain ⟨v, Hx⟩ := r
          rw [hx] at h
          obtain ⟨A1, _, h1⟩ := put1_ok h
          exact ihl _ _ h1
        | none =>
        rw [hx] at h
        change doOp0 T ih id o (runOps T ih ops.toList id l) A H = .code e A' H' at h
        unfold doOp0 at h
        cases hk : kdOf o.op with
        | call f args =>
          rw [hk] at h
          change doCall T ih o (runOps T ih ops.toList id l) A H (ev A f) (evL A args) = .code e A' H' at h
          unfold doCall at h
          split at h
          · split at h
            · cases hb : Nat.beq A.g T.g with
              | false => rw [hb] at h; cases h
              | true =>
                rw [hb, ite'_true] at h
                unfold doCall2 at h
                split at h
                · obtain ⟨A1, _, h1⟩ := put1_ok h; exact ihl _ _ h1
                · cases h
                · cases h
            · cases h
          · cases h
        | inv x m args =>
          rw [hk] at h
          change doInv T ih o (runOps T ih ops.toList id l) A H (methV T (ev A x) m) (evL A args) = .code e A' H' at h
          unfold doInv at h
          split at h
          · split at h
            · cases hb : Nat.beq A.g T.g with
              | false => rw [hb] at h; cases h
              | true =>
                rw [hb, ite'_true] at h
                unfold doCall2 at h
                split at h
                · obtain ⟨A1, _, h1⟩ := put1_ok h; exact ihl _ _ h1
                · cases h
                · cases h
            · cases h
          · cases h
        | plain =>
          rw [hk] at h
          change doPlain T id o (runOps T ih ops.toList id l) A H = .code e A' H' at h
          rw [doPlain_def] at h
          split at h
          · obtain ⟨A1, _, h1⟩ := put1_ok h; exact ihl _ _ h1
          · cases h
      · obtain ⟨A1, _, h1⟩ := put1_ok h; exact ihl _ _ h1
      · cases h
  have hen := he _ _ _ h
  subst hen
  refine ⟨rfl, ?_⟩
  have := runOps_ok hT hih (ops := ops) (id := id) 0 (by simpa using h) ha hr (Q := Post ds .normal A' H' E H w) (fun E1 a1 w1 _ g ha1 hr1 => ⟨rfl, E1, g, ha1, hr1⟩) (Nat.zero_le _)
  rw [Nat.sub_zero, ← List.range_eq_range'] at this
  exact this
end
end Go.Proofs.YtdkfimejabanlaaDoor
