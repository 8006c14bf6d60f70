import Derived.Test.YtanhkchpffkloaaGreatDoorEjs
import Derived.Laws.BytesArg
import Derived.Laws.MakeOwn
namespace Go.Proofs.YtanhkchpffkloaaGreatDoor
open Go
set_option linter.unusedVariables false
set_option linter.unusedSimpArgs false
noncomputable section
variable {ds : List Deferred}
/-! ### a text of a row of bytes -/
def u8s (l : List Value) : Option (List Int) := List.rec (motive := fun _ => Option (List Int)) (some []) (fun v _ ih => match v with
  | .int .u8 n => (match ih with
    | some l => some (n :: l)
    | none => none)
  | _ => none) l
theorem u8s_cons (v : Value) (l : List Value) : u8s (v :: l) = (match v with
  | .int .u8 n => (match u8s l with
    | some l => some (n :: l)
    | none => none)
  | _ => none) := rfl
theorem u8s_ok {E : Env} {N : Nat} : ∀ {l l' : List Value} {xs : List Int}, u8s l = some xs → VL E N l l' → l' = xs.map (.int .u8) ∧ xs.length = l.length
  | [], _, xs, h, k => by cases h; cases k; exact ⟨rfl, rfl⟩
  | v :: l, l', xs, h, k => by
    rw [u8s_cons] at h
    split at h
    · rename_i n
      split at h
      · rename_i l2 h2
        cases h
        cases k with
        | cons hv ht =>
          obtain ⟨e1, e2⟩ := u8s_ok h2 ht
          rw [hv.int, e1]
          exact ⟨rfl, by simp [e2]⟩
      · cases h
    · cases h
def pushAll (xs : List Int) : List UInt8 := List.rec (motive := fun _ => List UInt8) [] (fun n _ ih => UInt8.ofNat n.toNat :: ih) xs
theorem pushAll_eq : ∀ xs : List Int, pushAll xs = xs.map fun n => UInt8.ofNat n.toNat
  | [] => rfl
  | n :: xs => by
    show _ :: pushAll xs = _
    rw [pushAll_eq xs]; rfl
/-- is this a conversion of bytes to a text? -/
def b2s (T : Cx) (s d : TypeId) : Bool := match T.und s with
  | some (.slice e) => (match T.und e with
    | some (.int .u8) => (match T.und d with
      | some .string => true
      | _ => false)
    | _ => false)
  | _ => false
theorem b2s_ok {P : Program} {T : Cx} (hT : Fits P T) {s d : TypeId} (h : b2s T s d = true) : ∃ e, P.underlying s = some (.slice e) ∧ P.underlying e = some (.int .u8) ∧ P.underlying d = some .string := by
  unfold b2s at h
  split at h
  · rename_i e h1
    split at h
    · rename_i h2
      split at h
      · rename_i h3; exact ⟨e, hT.und h1, hT.und h2, hT.und h3⟩
      · cases h
    · cases h
  · cases h
def textOf (l : List Value) : Option Value := match u8s l with
  | some xs => some (.string ⟨(pushAll xs).toArray⟩)
  | none => none
theorem textOf_run {P : Program} {E : Env} {N : Nat} {s d e : TypeId} (hs : P.underlying s = some (.slice e)) (he : P.underlying e = some (.int .u8)) (hd : P.underlying d = some .string) {l l' : List Value} {v : Value} (ht : textOf l = some v) (hl : VL E N l l') {b off n c : Nat} (hn : l.length = n) {w : World}
    (hc : ∀ i u, l'[i]? = some u → w.cell? ⟨b, off + i, none⟩ = some u) : (convert s d (.slice (some ⟨b, off, none⟩) n c)).run P w = .ok v w ∧ plainV v = true := by
  unfold textOf at ht
  split at ht
  · rename_i xs hx
    cases ht
    obtain ⟨e1, e2⟩ := u8s_ok hx hl
    refine ⟨?_, rfl⟩
    rw [run_convert_bytes_arg w s e hs he b off n c xs (by omega) (fun i hi => hc i _ (by
      have hix : i < xs.length := by omega
      rw [e1]; simp [List.getD, hix])) d hd]
    simp [strOfNums, pushAll_eq]
  · cases ht
def memConv (T : Cx) (H : Hp) (s d : TypeId) (x : Option Value) : Option Value := match x with
  | some (.slice none _ _) => ite' (b2s T s d) (some (.string ByteArray.empty)) none
  | some (.slice (some p) n c) => (match H.cells p.block p.off n with
    | some l => ite' (b2s T s d) (textOf l) none
    | none => none)
  | some (.chan none) => ite' (b2s T s d) (some (.string ByteArray.empty)) none
  | _ => none
/-- a text's bytes: a row that is only read (how many cells there are is not known). -/
def s2b (T : Cx) (s d : TypeId) : Bool := match T.und s with
  | some .string => (match T.und d with
    | some (.slice e) => (match T.und e with
      | some (.int .u8) => true
      | _ => false)
    | _ => false)
  | _ => false
def o_bytesOf (s d : TypeId) (x : Operand) : OpF := fun T A H => match ev A x with
  | some (.string b) => ite' (s2b T s d) (some (.slice (some ⟨H.next, 0, none⟩) b.data.toList.length (Nat.succ OPN), H.new (.rom (Tr.lay (byteCells b.data.toList) 0 .nil)))) none
  | _ => none
def convOr (s d : TypeId) (x : Operand) (T : Cx) (A : AA) (H : Hp) (r : Option (Value × Hp)) : Option (Value × Hp) := match r with
  | some r => some r
  | none => o_bytesOf s d x T A H
def o_convM (s d : TypeId) (x : Operand) : OpF := fun T A H => match memConv T H s d (ev A x) with
  | some v => some (v, H)
  | none => convOr s d x T A H (o_conv s d x T A H)
theorem bytesOf_ok {P : Program} {T : Cx} (hT : Fits P T) {o : Oper} {s d : TypeId} {x : Operand} (h : o.op = .convert s d x) : Sound ds P T o (o_bytesOf s d x) := fun A H v H' hf E a w ha hr => by
  unfold o_bytesOf at hf
  split at hf
  · rename_i b hx
    obtain ⟨h1, h2⟩ := ite'_some hf
    cases h2
    unfold s2b at h1
    split at h1
    · rename_i hs
      split at h1
      · rename_i e hd
        split at h1
        · rename_i he
          have e1 := (ev_ok ha hx).string
          have hrun := run_bytes_of_string (P := P) w s d e b (hT.und hs) (hT.und hd) (hT.und he)
          have hsz : b.size = b.data.toList.length := by rw [Array.length_toList]; rfl
          obtain ⟨C, hC⟩ : ∃ C, bytesRow b (grownCap w b.size 0 e) = C := ⟨_, rfl⟩
          rw [hC] at hrun
          have hat : ∀ i v, (byteCells b.data.toList)[i]? = some v → ∃ v', C[i]? = some v' ∧ VR (E.add H.next w.heap.size (grownCap w b.size 0 e)) (H.next + 1) v v' := fun i v hv => by
            rw [byteCells_eq] at hv
            rw [List.getElem?_map] at hv
            obtain ⟨u, hu, rfl⟩ := Option.map_eq_some_iff.1 hv
            obtain ⟨hi, hu2⟩ := List.getElem?_eq_some_iff.1 hu
            have hi2 : i < b.data.size := by simpa using hi
            refine ⟨_, by rw [← hC]; exact bytesRow_at b _ i hi2, ?_⟩
            have : b.data[i] = u := by rw [← hu2]; simp
            rw [this]; exact .same rfl
          have hn := HRel.new (hr.heap (w' := w.drew) rfl) (x := .rom (Tr.lay (byteCells b.data.toList) 0 .nil)) (o := .cells C e (C.size, C.size + 1)) (k := grownCap w b.size 0 e) ⟨C, e, _, rfl, fun i v hv => by
            rw [Tr.get_lay] at hv
            split at hv
            · exact hat i v (by simpa using hv)
            · cases hv⟩
          obtain ⟨n1, n2⟩ := hn
          refine ⟨_, .slice (some ⟨w.heap.size, 0, none⟩) b.size (grownCap w b.size 0 e), _, _, ?_, .inl rfl, ⟨n2.le, n2.ag, n2.dom, n2.os, n2.tape, n2.output, n2.size, n2.frame⟩, ?_, n1⟩
          · simp [execOp, h, e1, hrun]
          · rw [hsz]
            have hh : (E.add H.next w.heap.size (grownCap w b.data.toList.length 0 e)).s H.next = w.heap.size := by simp [Env.add]
            rw [← hh]
            refine .open_ (Nat.lt_succ_self _) (Nat.lt_succ_self _) ?_ ?_
            · rw [← hsz]; exact grownCap_ge _ _ _ _
            · simp [Env.add, OPN]
        · cases h1
      · cases h1
    · cases h1
  · cases hf
theorem memConv_ok {P : Program} {T : Cx} (hT : Fits P T) {E : Env} {A : AA} {a : Act} {H : Hp} {w : World} (ha : AR ds E H.next A a) (hr : HRel E H w) {s d : TypeId} {x : Operand} {v : Value} (h : memConv T H s d (ev A x) = some v) : (convert s d (a.eval x)).run P w = .ok v w ∧ plainV v = true := by
  unfold memConv at h
  split at h
  · rename_i l c hx
    obtain ⟨hb, h⟩ := ite'_some h
    cases h
    obtain ⟨e, h1, h2, h3⟩ := b2s_ok hT hb
    obtain ⟨_, _, e1⟩ := (ev_ok ha hx).snil
    rw [e1]
    exact ⟨run_convert_bytes_nil w s e h1 h2 0 0 d h3, rfl⟩
  · rename_i p n c hx
    split at h
    · rename_i l hl
      obtain ⟨hb, h⟩ := ite'_some h
      obtain ⟨e, h1, h2, h3⟩ := b2s_ok hT hb
      obtain ⟨_, hpb, c', e1, _⟩ := (ev_ok ha hx).sl
      obtain ⟨hn, l', r, hc⟩ := hr.cells hl
      rw [e1]
      exact textOf_run h1 h2 h3 h r hn (fun i u hu => by
        rw [hc i (by have := (List.getElem?_eq_some_iff.1 hu).1; rw [← r.length, hn] at this; exact this)]; exact hu)
    · cases h
  · rename_i hx
    obtain ⟨hb, h⟩ := ite'_some h
    cases h
    obtain ⟨e, h1, h2, h3⟩ := b2s_ok hT hb
    obtain ⟨⟨qb, qo, qs⟩, c, e1⟩ := (ev_ok ha hx).tl
    rw [e1]
    refine ⟨?_, rfl⟩
    have hl : (loadCells ⟨qb, qo, qs⟩ 0).run P w = .ok (([] : List Int).map (Value.int .u8)).toArray w := run_loadCells_list (P := P) w ⟨qb, qo, qs⟩ [] (fun j v hj => by simp at hj)
    rw [run_convert_bytes_string w s d e _ 0 c h1 h2 h3, run_bytesToString w _ 0 c [] hl]
    rfl
  · cases h
theorem convM_ok {P : Program} {T : Cx} (hT : Fits P T) {o : Oper} {s d : TypeId} {x : Operand} (h : o.op = .convert s d x) : Sound ds P T o (o_convM s d x) := fun A H v H' hf E a w ha hr => by
  unfold o_convM at hf
  split at hf
  · rename_i u hu
    cases hf
    obtain ⟨h1, h2⟩ := memConv_ok (P := P) hT ha hr hu
    exact sound_pure hr (by simp [execOp, h, h1]) (.same h2)
  · unfold convOr at hf
    split at hf
    · rename_i r hc
      cases hf
      exact (SoundP.sound (conv_ok hT h)) A H _ _ hc E a w ha hr
    · exact bytesOf_ok hT h A H v H' hf E a w ha hr
/-! ### all operations -/
def o_pick2 (mx : Bool) (x y : Operand) : OpF := fun _ A H => match ev A x with
  | some (.int k a) => (match ev A y with
    | some (.int _ b) => some (.int k (ite' (ite' mx (ltF a b) (ltF b a)) b a), H)
    | _ => none)
  | _ => none
theorem min2_ok {P : Program} {T : Cx} {o : Oper} {x y : Operand} {tys : Array TypeId} (h : o.op = .call ⟨.builtin .min, #[x, y], tys⟩) : SoundP ds P T o (o_pick2 false x y) := fun A H v H' hf E a ha => by
  unfold o_pick2 at hf
  split at hf
  · rename_i k p hx
    split at hf
    · rename_i k2 q hy
      cases hf
      refine pure_ok (v' := .int k (if q < p then q else p)) (fun w => ?_) ?_
      · simp [execOp, h, resolve, invoke, builtin, (ev_ok ha hx).int, (ev_ok ha hy).int, Builtin.min_, Builtin.min2, Builtin.max_, Builtin.max2]
      · have : ite' (ite' false (ltF p q) (ltF q p)) q p = if q < p then q else p := by
          show ite' (ltF q p) q p = _
          rw [ltF_eq]
          by_cases hq : q < p <;> simp [hq]
        rw [this]; exact .same rfl
    · cases hf
  · cases hf
theorem max2_ok {P : Program} {T : Cx} {o : Oper} {x y : Operand} {tys : Array TypeId} (h : o.op = .call ⟨.builtin .max, #[x, y], tys⟩) : SoundP ds P T o (o_pick2 true x y) := fun A H v H' hf E a ha => by
  unfold o_pick2 at hf
  split at hf
  · rename_i k p hx
    split at hf
    · rename_i k2 q hy
      cases hf
      refine pure_ok (v' := .int k (if q > p then q else p)) (fun w => ?_) ?_
      · simp [execOp, h, resolve, invoke, builtin, (ev_ok ha hx).int, (ev_ok ha hy).int, Builtin.min_, Builtin.min2, Builtin.max_, Builtin.max2]
      · have : ite' (ite' true (ltF p q) (ltF q p)) q p = if q > p then q else p := by
          show ite' (ltF p q) q p = _
          rw [ltF_eq]
          by_cases hq : p < q <;> simp [hq]
        rw [this]; exact .same rfl
    · cases hf
  · cases hf
def o_field (s : TypeId) (x : Operand) (f : Nat) : OpF := fun T A H => match ev A x with
  | some (.agg xs) => (match T.und s with
    | some (.struct fs) => (match fs.toList[f]? with
      | some fd => withH (partA T fd.type xs.toList fd.offset) H
      | none => none)
    | _ => none)
  | _ => none
theorem field_ok {P : Program} {T : Cx} (hT : Fits P T) {o : Oper} {s : TypeId} {x : Operand} {f : Nat} (h : o.op = .field s x f) : SoundP ds P T o (o_field s x f) := fun A H v H' hf E a ha => by
  unfold o_field at hf
  split at hf
  · rename_i xs hx
    split at hf
    · rename_i fs hfs
      split at hf
      · rename_i fd hfd
        obtain ⟨h1, e0⟩ := withH_some hf
        subst e0
        obtain ⟨l', e1, r1⟩ := (ev_ok ha hx).ag
        obtain ⟨v', r, hrun⟩ := partA_ok (P := P) hT h1 r1
        have hfd2 : fs[f]? = some fd := by simpa using hfd
        refine pure_ok (v' := v') (fun w => ?_) r
        simp [execOp, h, Instr.field, run_underlying (hT.und hfs), hfd2, asAgg, e1, hrun w]
      · cases hf
    · cases hf
  · cases hf
def mmD (mx : Bool) (args : List Operand) : OpF := match args with
  | [x, y] => o_pick2 mx x y
  | _ => noF
def callE (c : Call) : OpF := match c.callee with
  | .builtin .min => mmD false c.args.toList
  | .builtin .max => mmD true c.args.toList
  | _ => callD c
theorem callE_ok {P : Program} {T : Cx} (hT : Fits P T) {o : Oper} {c : Call} (h : o.op = .call c) : Sound ds P T o (callE c) := by
  unfold callE
  split
  · rename_i hc
    obtain ⟨callee, ⟨args⟩, tys⟩ := c
    simp only at hc; subst hc
    show Sound ds P T o (mmD false args)
    unfold mmD
    split
    · exact (SoundP.sound (min2_ok h))
    · exact (SoundP.sound noF_ok)
  · rename_i hc
    obtain ⟨callee, ⟨args⟩, tys⟩ := c
    simp only at hc; subst hc
    show Sound ds P T o (mmD true args)
    unfold mmD
    split
    · exact (SoundP.sound (max2_ok h))
    · exact (SoundP.sound noF_ok)
  · have := opD_ok (ds := ds) (P := P) hT (o := o); rw [h] at this; exact this
/-! ### a new slice of one-cell elements -/
def repl (u : Value) (n : Nat) : List Value := Nat.rec (motive := fun _ => List Value) [] (fun _ ih => u :: ih) n
theorem repl_eq (u : Value) : ∀ n, repl u n = List.replicate n u
  | 0 => rfl
  | n + 1 => by
    show u :: repl u n = _
    rw [repl_eq u n]; rfl
theorem repl_vl {E : Env} {N : Nat} {u : Value} (h : plainV u = true) : ∀ n, VL E N (repl u n) (repl u n)
  | 0 => .nil
  | n + 1 => .cons (.same h) (repl_vl h n)
def mkSl (T : Cx) (H : Hp) (e : TypeId) (n m : Nat) : Option (Value × Hp) := match T.ty.get e with
  | some i => (match i.zero with
    | some z => (match z.cells.toList with
      | [u] => ite' (plainV u) (ite' (Nat.beq i.size 1) (ite' (Nat.ble n m) (ite' (Nat.ble m 1000000000) (ite' (Nat.ble (Nat.mul i.bytes m) 281474976710656) (some (.slice (some ⟨H.next, 0, none⟩) n m, newRowB H e (repl u m))) none) none) none) none) none
      | _ => none)
    | none => none)
  | none => none
def o_makeSlice (t : TypeId) (l c : Operand) : OpF := fun T A H => match T.und t with
  | some (.slice e) => (match ev A l with
    | some (.int _ (.ofNat n)) => (match ev A c with
      | some (.int _ (.ofNat m)) => mkSl T H e n m
      | _ => none)
    | _ => none)
  | _ => none
theorem makeSlice_ok {P : Program} {T : Cx} (hT : Fits P T) {o : Oper} {t : TypeId} {l c : Operand} (h : o.op = .makeSlice t l c) : Sound ds P T o (o_makeSlice t l c) := fun A H v H' hf E a w ha hr => by
  unfold o_makeSlice at hf
  split at hf
  · rename_i e ht
    split at hf
    · rename_i kl n hl
      split at hf
      · rename_i kc m hc
        unfold mkSl at hf
        split at hf
        · rename_i i hi
          split at hf
          · rename_i z hz
            split at hf
            · rename_i u hu
              obtain ⟨h1, f1⟩ := ite'_some hf
              obtain ⟨h2, f2⟩ := ite'_some f1
              obtain ⟨h3, f3⟩ := ite'_some f2
              obtain ⟨h4, f4⟩ := ite'_some f3
              obtain ⟨h5, f5⟩ := ite'_some f4
              cases f5
              have e2 := Nat.eq_of_beq_eq_true h2
              have e3 := Nat.le_of_ble_eq_true h3
              have e4 := Nat.le_of_ble_eq_true h4
              have e5 : i.bytes * m ≤ 281474976710656 := Nat.le_of_ble_eq_true h5
              have hrun := run_make (P := P) (w := w) t e i z (hT.und ht) (hT.ty e i hi) hz kl kc (Int.ofNat n) (Int.ofNat m) (by simp) (by simpa using e3) (by show (i.bytes : Int) * (m : Int) ≤ _; rw [← Int.natCast_mul]; omega) (by simp; omega)
              have hcell : madeCells z.cells ((Int.ofNat m).toNat * i.size) = (repl u m).toArray := by
                rw [e2, repl_eq]
                have hz2 : z.cells = #[u] := Array.toList_inj.1 (by simpa using hu)
                rw [hz2]
                apply Array.ext
                · simp [madeCells]
                · intro j h1 h2
                  simp [madeCells, Nat.mod_one]
              rw [hcell] at hrun
              obtain ⟨g1, g2, g3⟩ := newRow_ok hr (repl_vl (E := E) (N := H.next) h1 m) e
              have hrun2 : (Instr.makeSlice t (.int kl (n : Int)) (.int kc (m : Int))).run P w = .ok (.slice (some ⟨w.heap.size, 0, none⟩) n m) (w.alloc (.cells (repl u m).toArray e)) := hrun
              have e6 : a.eval l = .int kl (n : Int) := (ev_ok ha hl).int
              have e7 : a.eval c = .int kc (m : Int) := (ev_ok ha hc).int
              refine ⟨_, .slice (some ⟨w.heap.size, 0, none⟩) n m, _, _, ?_, .inl rfl, g2, new_slice g3 n m (by show m < 9223372036854775808; omega), g1⟩
              simp [execOp, h, e6, e7, hrun2]
            · cases hf
          · cases hf
        · cases hf
      · cases hf
    · cases hf
  · cases hf
def mkMapD (r : Option Operand) : OpF := match r with
  | none => o_makeMap
  | some _ => noF
def opE (o : Op) : OpF := match o with
  | .convert s d x => o_convM s d x
  | .call c => callE c
  | .field s x f => o_field s x f
  | .lookup t m k ok => o_lookupX t m k ok
  | .mapUpdate t m k x => o_mapUpdateX t m k x
  | .insert t m k x => o_mapUpdateX t m k x
  | .makeMap t r => mkMapD r
  | .range t x => o_range t x
  | .makeSlice t l c => o_makeSlice t l c
  | .next x s => nextD s x
  | o => opD o
theorem opE_ok {P : Program} {T : Cx} (hT : Fits P T) {o : Oper} : Sound ds P T o (opE o.op) := by
  cases ho : o.op with
  | convert s d x => exact convM_ok hT ho
  | call c => exact callE_ok hT ho
  | field s x f => exact (SoundP.sound (field_ok hT ho))
  | lookup t m k ok => exact lookupX_ok hT ho
  | mapUpdate t m k x => exact mapUpdateX_ok hT (.inl ho)
  | insert t m k x => exact mapUpdateX_ok hT (.inr ho)
  | range t x => exact range_ok hT ho
  | makeSlice t l c => exact makeSlice_ok hT ho
  | next x s =>
    cases s with
    | true => exact next_ok ho
    | false => exact (SoundP.sound noF_ok)
  | makeMap t r =>
    show Sound ds P T o (mkMapD r)
    unfold mkMapD
    split
    · exact makeMap_ok ho
    · exact (SoundP.sound noF_ok)
  | _ => rw [← ho]; have := opD_ok (ds := ds) (P := P) hT (o := o); rw [ho] at this ⊢; exact this
end
end Go.Proofs.YtanhkchpffkloaaGreatDoor
