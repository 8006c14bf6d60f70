import Derived.Test.YtanhkchpffkloaaGreatDoorEf
import Derived.Laws.StructEq
namespace Go.Proofs.YtanhkchpffkloaaGreatDoor
open Go
set_option linter.unusedVariables false
set_option linter.unusedSimpArgs false
noncomputable section
variable {ds : List Deferred}
theorem guard_run {P : Program} {w : World} {op : BinOp} {t : TypeId} {x y : Operand} {a b : Value} (ha : a ≠ .nilIface) (hb : ∀ cs, a ≠ .agg cs) : (eqGuard op t x y a b).run P w = .ok () w := by
  unfold eqGuard
  cases op <;> simp <;> (split <;> first | (exact absurd rfl ha) | (exact absurd rfl (hb _)) | simp)
theorem equal_nil {P : Program} {w : World} {t : TypeId} {d : TypeDesc} {x y : Value} {b : Bool} (hd : P.underlying t = some d)
    (h : (∃ e, d = .pointer e ∧ ((x = .pointer none ∧ ∃ q, y = .pointer q ∧ b = q.isNone) ∨ (y = .pointer none ∧ ∃ q, x = .pointer (some q) ∧ b = false))) ∨
      (∃ e, d = .slice e ∧ ((∃ l c, x = .slice none l c ∧ ∃ q l' c', y = .slice q l' c' ∧ b = q.isNone) ∨ (∃ l c, y = .slice none l c ∧ ∃ q l' c', x = .slice (some q) l' c' ∧ b = false))) ∨
      (d = .bool ∧ ∃ p q, x = .bool p ∧ y = .bool q ∧ b = (p == q))) : ∀ n, (Op.equalIn (n + 1) t x y).run P w = .ok b w := by
  intro n
  unfold Op.equalIn
  rcases h with ⟨e, rfl, ⟨rfl, q, rfl, rfl⟩ | ⟨rfl, q, rfl, rfl⟩⟩ | ⟨e, rfl, ⟨l, c, rfl, q, l', c', rfl, rfl⟩ | ⟨l, c, rfl, q, l', c', rfl, rfl⟩⟩ | ⟨rfl, p, q, rfl, rfl, rfl⟩
  · simp [run_underlying hd]
  · simp [run_underlying hd]
  · simp [run_underlying hd]
  · simp [run_underlying hd]
  · simp [run_underlying hd]
def cmpV (op : BinOp) (b : Bool) : Option Value := match op with
  | .eql => some (.bool b)
  | .neq => some (.bool (Bool.not b))
  | _ => none
theorem cmpV_ok {P : Program} {w : World} {op : BinOp} {t : TypeId} {x y : Value} {b : Bool} {v : Value} (h : cmpV op b = some v) (he : (Op.equal t x y).run P w = .ok b w)
    (hx : (∃ p, x = .pointer p ∧ ∃ q, y = .pointer q) ∨ (∃ p l c, x = .slice p l c) ∨ (∃ p, x = .bool p)) : (binOp op t x y).run P w = .ok v w ∧ plainV v = true := by
  cases op <;> simp only [cmpV] at h <;> (try (cases h; done)) <;> cases h <;> refine ⟨?_, rfl⟩ <;>
    rcases hx with ⟨p, rfl, q, rfl⟩ | ⟨p, l, c, rfl⟩ | ⟨p, rfl⟩ <;> simp [binOp, he]
/-- the answer of a comparison that is none of whole numbers or texts. -/
def cmpD (d : TypeDesc) (x y : Value) : Option Bool := match d with
  | .pointer _ => (match x with
    | .pointer none => (match y with
      | .pointer none => some true
      | .pointer (some _) => some false
      | _ => none)
    | .pointer (some _) => (match y with
      | .pointer none => some false
      | _ => none)
    | _ => none)
  | .slice _ => (match x with
    | .slice none _ _ => (match y with
      | .slice none _ _ => some true
      | .slice (some _) _ _ => some false
      | _ => none)
    | .slice (some _) _ _ => (match y with
      | .slice none _ _ => some false
      | _ => none)
    | _ => none)
  | .bool => (match x with
    | .bool a => (match y with
      | .bool b => some (ite' a b (Bool.not b))
      | _ => none)
    | _ => none)
  | _ => none
theorem cmpD_ok {P : Program} {w : World} {E : Env} {N : Nat} {t : TypeId} {d : TypeDesc} {x y x' y' : Value} {b : Bool} (hd : P.underlying t = some d) (h : cmpD d x y = some b) (hx : VR E N x x') (hy : VR E N y y') :
    (∀ n, (Op.equalIn (n + 1) t x' y').run P w = .ok b w) ∧ ((∃ p, x' = .pointer p ∧ ∃ q, y' = .pointer q) ∨ (∃ p l c, x' = .slice p l c) ∨ (∃ p, x' = .bool p)) := by
  unfold cmpD at h
  split at h
  · split at h
    · split at h
      · cases h; cases hx.pnil; cases hy.pnil
        exact ⟨equal_nil hd (.inl ⟨_, rfl, .inl ⟨rfl, _, rfl, rfl⟩⟩), .inl ⟨_, rfl, _, rfl⟩⟩
      · cases h; cases hx.pnil
        obtain ⟨_, _, e⟩ := hy.pptr
        subst e
        exact ⟨equal_nil hd (.inl ⟨_, rfl, .inl ⟨rfl, _, rfl, rfl⟩⟩), .inl ⟨_, rfl, _, rfl⟩⟩
      · cases h
    · split at h
      · cases h; cases hy.pnil
        obtain ⟨_, _, e⟩ := hx.pptr
        subst e
        exact ⟨equal_nil hd (.inl ⟨_, rfl, .inr ⟨rfl, _, rfl, rfl⟩⟩), .inl ⟨_, rfl, _, rfl⟩⟩
      · cases h
    · cases h
  · split at h
    · split at h
      · cases h
        obtain ⟨_, _, e⟩ := hx.snil
        obtain ⟨_, _, e2⟩ := hy.snil
        subst e e2
        exact ⟨equal_nil hd (.inr (.inl ⟨_, rfl, .inl ⟨_, _, rfl, _, _, _, rfl, rfl⟩⟩)), .inr (.inl ⟨_, _, _, rfl⟩)⟩
      · cases h
        obtain ⟨_, _, e⟩ := hx.snil
        obtain ⟨_, _, c', e2, _⟩ := hy.sl
        subst e e2
        exact ⟨equal_nil hd (.inr (.inl ⟨_, rfl, .inl ⟨_, _, rfl, _, _, _, rfl, rfl⟩⟩)), .inr (.inl ⟨_, _, _, rfl⟩)⟩
      · cases h
    · split at h
      · cases h
        obtain ⟨_, _, c', e, _⟩ := hx.sl
        obtain ⟨_, _, e2⟩ := hy.snil
        subst e e2
        exact ⟨equal_nil hd (.inr (.inl ⟨_, rfl, .inr ⟨_, _, rfl, _, _, _, rfl, rfl⟩⟩)), .inr (.inl ⟨_, _, _, rfl⟩)⟩
      · cases h
    · cases h
  · split at h
    · split at h
      · cases h; cases hx.bool; cases hy.bool
        rename_i p _ q
        exact ⟨equal_nil hd (.inr (.inr ⟨rfl, _, _, rfl, rfl, by cases p <;> cases q <;> rfl⟩)), .inr (.inr ⟨_, rfl⟩)⟩
      · cases h
    · cases h
  · cases h
def withH (v : Option Value) (H : Hp) : Option (Value × Hp) := match v with
  | some v => some (v, H)
  | none => none
theorem withH_some {v : Option Value} {H H' : Hp} {u : Value} (h : withH v H = some (u, H')) : v = some u ∧ H' = H := by
  cases v with
  | none => cases h
  | some x => cases h; exact ⟨rfl, rfl⟩
def binCmp (op : BinOp) (t : TypeId) (T : Cx) (x y : Value) : Option Value := match T.und t with
  | some d => (match cmpD d x y with
    | some b => cmpV op b
    | none => none)
  | none => none
/-! ### structs -/
def partA (T : Cx) (t : TypeId) (l : List Value) (off : Nat) : Option Value := match T.ty.get t with
  | some i => (match T.und t with
    | some d => ite' (isAggD d) (some (.agg ((l.drop off).take i.size).toArray)) (l[off]?)
    | none => none)
  | none => none
theorem partA_ok {P : Program} {T : Cx} (hT : Fits P T) {E : Env} {N : Nat} {t : TypeId} {l l' : List Value} {off : Nat} {v : Value} (h : partA T t l off = some v) (hl : VL E N l l') : ∃ v', VR E N v v' ∧ ∀ w : World, (part t l'.toArray off).run P w = .ok v' w := by
  unfold partA at h
  split at h
  · rename_i i hi
    split at h
    · rename_i d hd
      have e1 := hT.ty t i hi
      have e2 := hT.und hd
      cases hag : isAggD d with
      | true =>
        rw [hag, ite'_true] at h
        cases h
        refine ⟨.agg ((l'.drop off).take i.size).toArray, .agg ((hl.drop off).take i.size), fun w => ?_⟩
        have hu := run_underlying (P := P) e2 w
        cases d <;> simp [isAggD] at hag <;> simp [part, isAgg, hu, sizeOf, typeInfo, e1, List.extract_eq_take_drop]
      | false =>
        rw [hag, ite'_false] at h
        obtain ⟨v', e3, r⟩ := hl.get h
        refine ⟨v', r, fun w => ?_⟩
        have hu := run_underlying (P := P) e2 w
        cases d <;> simp [isAggD] at hag <;> simp [part, isAgg, hu, e3]
    · cases h
  · cases h
def eqFs (ih : TypeId → Value → Value → Option Bool) (T : Cx) (l m : List Value) (fs : List Field) : Option Bool := List.rec (motive := fun _ => Option Bool) (some true) (fun f _ rest => ite' (f.name == "_") none (match partA T f.type l f.offset with
  | some a => (match partA T f.type m f.offset with
    | some b => (match ih f.type a b with
      | some true => rest
      | some false => some false
      | none => none)
    | none => none)
  | none => none)) fs
theorem eqFs_cons (ih : TypeId → Value → Value → Option Bool) (T : Cx) (l m : List Value) (f : Field) (fs : List Field) : eqFs ih T l m (f :: fs) = ite' (f.name == "_") none (match partA T f.type l f.offset with
  | some a => (match partA T f.type m f.offset with
    | some b => (match ih f.type a b with
      | some true => eqFs ih T l m fs
      | some false => some false
      | none => none)
    | none => none)
  | none => none) := rfl
def eqStep (T : Cx) (ih : TypeId → Value → Value → Option Bool) (t : TypeId) (x y : Value) : Option Bool := match T.und t with
  | some (.struct fs) => (match x with
    | .agg xs => (match y with
      | .agg ys => (match T.eq.get t with
        | some true => eqFs ih T xs.toList ys.toList fs.toList
        | _ => none)
      | _ => none)
    | _ => none)
  | some (.int _) => (match x with
    | .int k a => (match y with
      | .int k' b => ite' (kindEq k k') (some (eqF a b)) none
      | _ => none)
    | _ => none)
  | some .string => (match x with
    | .string a => (match y with
      | .string b => some (bytesEq a.data.toList b.data.toList)
      | _ => none)
    | _ => none)
  | some d => cmpD d x y
  | none => none
def eqN (T : Cx) (n : Nat) : TypeId → Value → Value → Option Bool := Nat.rec (motive := fun _ => TypeId → Value → Value → Option Bool) (fun _ _ _ => none) (fun _ ih => eqStep T ih) n
theorem eqN_ok {P : Program} {T : Cx} (hT : Fits P T) {E : Env} {N : Nat} {w : World} : ∀ (n : Nat) {t : TypeId} {x y x' y' : Value} {b : Bool}, eqN T n t x y = some b → VR E N x x' → VR E N y y' → ∀ d, n ≤ d → (Op.equalIn d t x' y').run P w = .ok b w
  | 0, _, _, _, _, _, _, h, _, _, _, _ => by cases h
  | n + 1, t, x, y, x', y', b, h, hx, hy, 0, hd => absurd hd (by omega)
  | n + 1, t, x, y, x', y', b, h, hx, hy, d + 1, hd => by
    change eqStep T (eqN T n) t x y = some b at h
    unfold eqStep at h
    split at h
    · rename_i fs hu
      split at h
      · rename_i xs
        split at h
        · rename_i ys
          split at h
          · rename_i he
            obtain ⟨l', e1, r1⟩ := hx.ag
            obtain ⟨m', e2, r2⟩ := hy.ag
            subst e1 e2
            have hP := hT.und hu
            have hF : P.fieldsOf t = fs := by simp [Program.fieldsOf, hP]
            rw [run_equalIn_agg w d t _ _ (by rw [hF]; exact hP) (hT.eq t he).1, hF]
            have key : ∀ (l : List Field) (b : Bool), eqFs (eqN T n) T xs.toList ys.toList l = some b → (Op.eqFields d l'.toArray m'.toArray l).run P w = .ok b w := by
              intro l
              induction l with
              | nil => intro b h; cases h; simp [Op.eqFields]
              | cons f l ih =>
                intro b h
                rw [eqFs_cons] at h
                obtain ⟨hn, h⟩ := ite'_none h
                have hn2 : f.name ≠ "_" := by simpa using hn
                unfold Op.eqFields
                rw [if_pos hn2]
                split at h
                · rename_i u hu2
                  obtain ⟨u', ru, eu⟩ := partA_ok (P := P) hT hu2 r1
                  split at h
                  · rename_i v hv2
                    obtain ⟨v', rv, ev'⟩ := partA_ok (P := P) hT hv2 r2
                    split at h
                    · rename_i hq
                      have := eqN_ok (P := P) (w := w) hT n hq ru rv d (by omega)
                      simp [eu, ev', this]
                      exact ih b h
                    · rename_i hq
                      cases h
                      have := eqN_ok (P := P) (w := w) hT n hq ru rv d (by omega)
                      simp [eu, ev', this]
                    · cases h
                  · cases h
                · cases h
            exact key fs.toList b h
          · cases h
        · cases h
      · cases h
    · rename_i k0 hu
      split at h
      · split at h
        · obtain ⟨h1, h2⟩ := ite'_some h
          cases h2
          rw [hx.int, hy.int, kindEq_eq h1, eqF_eq]
          exact run_equalIn_int w d t _ _ _ _ (hT.und hu)
        · cases h
      · cases h
    · rename_i hu
      split at h
      · split at h
        · cases h
          rw [hx.string, hy.string, bytesEq_eq]
          rw [run_equalIn_string w d t _ _ (hT.und hu), ByteArray.toList_eq, ByteArray.toList_eq]
        · cases h
      · cases h
    · rename_i hu
      exact (cmpD_ok (P := P) (w := w) (hT.und hu) h hx hy).1 d
    · cases h
def structCmp (op : BinOp) (T : Cx) (t : TypeId) (xs ys : Array Value) : Option Value := match T.eq.get t with
  | some true => (match eqN T 6 t (.agg xs) (.agg ys) with
    | some b => cmpV op b
    | none => none)
  | _ => none
def binX (op : BinOp) (t : TypeId) (T : Cx) (x y : Value) : Option Value := match x with
  | .int k a => (match y with
    | .int k' b => ite' (ite' (isShift op) true (kindEq k k')) (intBin op k a b) none
    | _ => none)
  | .string a => (match y with
    | .string b => strBin op a b
    | _ => none)
  | .agg xs => (match y with
    | .agg ys => structCmp op T t xs ys
    | _ => none)
  | x => binCmp op t T x y
def o_bin0 (op : BinOp) (t : TypeId) (x y : Operand) : OpF := fun T A H => match ev A x with
  | some u => (match ev A y with
    | some v => withH (binX op t T u v) H
    | none => none)
  | none => none
theorem bin0_ok {P : Program} {T : Cx} (hT : Fits P T) {o : Oper} {op : BinOp} {t t' : TypeId} {x y : Operand} (h : o.op = .binOp op t x y t') : SoundP ds P T o (o_bin0 op t x y) := fun A H v H' hf E a ha => by
  unfold o_bin0 at hf
  split at hf
  · rename_i u hu
    split at hf
    · rename_i u2 hu2
      obtain ⟨hf2, e0⟩ := withH_some hf
      subst e0
      clear hf
      have hf := hf2
      clear hf2
      have hx := ev_ok ha hu
      have hy := ev_ok ha hu2
      have key : ∀ w, ∃ n1, (eqGuard op t x y (a.eval x) (a.eval y)).run P w = .ok n1 w ∧ (binOp op t (a.eval x) (a.eval y)).run P w = .ok v w ∧ plainV v = true := fun w => by
        unfold binX at hf
        split at hf
        · rename_i k p
          split at hf
          · rename_i k' q
            obtain ⟨h1, h2⟩ := ite'_some hf
            rw [hx.int, hy.int]
            have h3 : isShift op = true ∨ k = k' := by
              cases hs : isShift op with
              | true => exact .inl rfl
              | false => rw [hs] at h1; exact .inr (kindEq_eq h1)
            obtain ⟨h4, h5⟩ := intBin_ok (P := P) (w := w) (t := t) h2 h3
            exact ⟨(), guard_run (by simp) (by simp), h4, h5⟩
          · cases hf
        · split at hf
          · rw [hx.string, hy.string]
            obtain ⟨h4, h5⟩ := strBin_ok (P := P) (w := w) (t := t) hf
            exact ⟨(), guard_run (by simp) (by simp), h4, h5⟩
          · cases hf
        · split at hf
          · rename_i xs _ ys
            unfold structCmp at hf
            split at hf
            · rename_i he
              split at hf
              · rename_i b hb
                have hq := eqN_ok (P := P) (w := w) hT 6 hb hx hy 10000 (by omega)
                obtain ⟨l', e1, r1⟩ := hx.ag
                obtain ⟨m', e2, r2⟩ := hy.ag
                rw [e1, e2] at hq ⊢
                refine ⟨(), run_eqGuard_agg w op t x y _ _ (hT.eq t he).2, ?_⟩
                cases op <;> simp only [cmpV] at hf <;> (try (cases hf; done)) <;> cases hf <;> refine ⟨?_, rfl⟩
                · rw [run_eql_struct, hq]; rfl
                · rw [run_neq_struct, hq]; rfl
              · cases hf
            · cases hf
          · cases hf
        · unfold binCmp at hf
          split at hf
          · rename_i d hd
            split at hf
            · rename_i b hb
              obtain ⟨h1, h2⟩ := cmpD_ok (P := P) (w := w) (hT.und hd) hb hx hy
              obtain ⟨h3, h4⟩ := cmpV_ok (P := P) (w := w) hf (h1 9999) h2
              refine ⟨(), ?_, h3, h4⟩
              rcases h2 with ⟨p, e, _⟩ | ⟨p, l, c, e⟩ | ⟨p, e⟩ <;> rw [e] <;> exact guard_run (by simp) (by simp)
            · cases hf
          · cases hf
      refine pure_ok (v' := v) (fun w => ?_) (.same (key default).choose_spec.2.2)
      obtain ⟨n1, h1, h2, h3⟩ := key w
      simp [execOp, h, h1, h2]
    · cases hf
  · cases hf
/-! ### interfaces -/
def isConstX (x : Operand) : Bool := match x with
  | .const _ => true
  | _ => false
def ifSame (T : Cx) (t : TypeId) (x y : Value) : Option Bool := match T.ty.get t with
  | some i => ite' i.comparable (match T.und t with
    | some (.int _) => (match x with
      | .int k a => (match y with
        | .int k' b => ite' (kindEq k k') (some (eqF a b)) none
        | _ => none)
      | _ => none)
    | _ => none) none
  | none => none
def ifCmp (T : Cx) (t : TypeId) (cx : Bool) (x y : Value) : Option Bool := match T.und t with
  | some (.interface _) => (match x with
    | .nilIface => (match y with
      | .nilIface => ite' cx (some true) none
      | .iface _ _ => some false
      | _ => none)
    | .iface tx vx => (match y with
      | .nilIface => some false
      | .iface ty vy => ite' (Nat.beq tx ty) (ifSame T tx vx vy) (some false)
      | _ => none)
    | _ => none)
  | _ => none
def ifBin (op : BinOp) (T : Cx) (t : TypeId) (cx : Bool) (x y : Value) : Option Value := match ifCmp T t cx x y with
  | some b => cmpV op b
  | none => none
def o_ifBin (op : BinOp) (t : TypeId) (x y : Operand) : OpF := fun T A H => match ev A x with
  | some u => (match ev A y with
    | some v => withH (ifBin op T t (ite' (isConstX x) true (isConstX y)) u v) H
    | none => none)
  | none => none
theorem VR.ifc {E : Env} {N : Nat} {t : TypeId} {v v' : Value} (h : VR E N (.iface t v) v') : ∃ u, v' = .iface t u ∧ VR E N v u := by
  cases h with
  | same h => cases h
  | iface h => exact ⟨_, rfl, h⟩
theorem ifCmp_ok {P : Program} {T : Cx} (hT : Fits P T) {E : Env} {N : Nat} {t : TypeId} {cx : Bool} {x y x' y' : Value} {b : Bool} (h : ifCmp T t cx x y = some b) (hx : VR E N x x') (hy : VR E N y y') (w : World) :
    (Op.equal t x' y').run P w = .ok b w ∧ (x' = .nilIface ∨ ∃ t u, x' = .iface t u) ∧ (y' = .nilIface ∨ ∃ t u, y' = .iface t u) ∧ (x' = .nilIface → y' = .nilIface → cx = true) := by
  unfold ifCmp at h
  split at h
  · rename_i ms hu
    have hu2 := run_underlying (P := P) (hT.und hu) w
    split at h
    · cases hx.niface
      split at h
      · cases hy.niface
        obtain ⟨h1, h2⟩ := ite'_some h
        cases h2
        refine ⟨?_, .inl rfl, .inl rfl, fun _ _ => h1⟩
        show (Op.equalIn (9999 + 1) t _ _).run P w = _
        unfold Op.equalIn
        simp [hu2]
      · cases h
        obtain ⟨u, rfl, _⟩ := hy.ifc
        refine ⟨?_, .inl rfl, .inr ⟨_, _, rfl⟩, fun _ e => by cases e⟩
        show (Op.equalIn (9999 + 1) t _ _).run P w = _
        unfold Op.equalIn
        simp [hu2]
      · cases h
    · rename_i tx vx
      obtain ⟨ux, rfl, hux⟩ := hx.ifc
      split at h
      · cases hy.niface
        cases h
        refine ⟨?_, .inr ⟨_, _, rfl⟩, .inl rfl, fun e => by cases e⟩
        show (Op.equalIn (9999 + 1) t _ _).run P w = _
        unfold Op.equalIn
        simp [hu2]
      · rename_i ty vy
        obtain ⟨uy, rfl, huy⟩ := hy.ifc
        refine ⟨?_, .inr ⟨_, _, rfl⟩, .inr ⟨_, _, rfl⟩, fun e => by cases e⟩
        show (Op.equalIn (9999 + 1) t _ _).run P w = _
        unfold Op.equalIn
        cases hb : Nat.beq tx ty with
        | false =>
          rw [hb] at h; cases h
          have : tx ≠ ty := fun e => by subst e; rw [Nat.beq_refl] at hb; cases hb
          simp [hu2, this]
        | true =>
          have := Nat.eq_of_beq_eq_true hb
          subst this
          rw [hb, ite'_true] at h
          unfold ifSame at h
          split at h
          · rename_i i hi
            obtain ⟨h1, h⟩ := ite'_some h
            split at h
            · rename_i k0 hk
              split at h
              · rename_i k1 p1
                split at h
                · rename_i k2 p2
                  obtain ⟨h2, h3⟩ := ite'_some h
                  cases h3
                  have e1 := hux.int
                  have e2 := huy.int
                  subst e1 e2
                  have e3 := kindEq_eq h2
                  subst e3
                  have hq := fun (kk : IntKind) (aa bb : Int) => run_equalIn_int (P := P) w 9998 tx kk k0 aa bb (hT.und hk)
                  rw [eqF_eq]
                  simp [hu2, typeInfo, hT.ty tx i hi, h1, hq]
                · cases h
              · cases h
            · cases h
          · cases h
      · cases h
    · cases h
  · cases h
theorem guard_nil {P : Program} {w : World} {op : BinOp} {t : TypeId} {x y : Operand} (hc : ite' (isConstX x) true (isConstX y) = true) : (eqGuard op t x y .nilIface .nilIface).run P w = .ok () w := by
  unfold eqGuard
  cases x <;> cases y <;> first | (cases hc; done) | (cases op <;> simp)
theorem guard_if {P : Program} {w : World} {op : BinOp} {t : TypeId} {x y : Operand} {u v : Value} (hu : u = .nilIface ∨ ∃ t u1, u = .iface t u1) (hv : v = .nilIface ∨ ∃ t u1, v = .iface t u1) (hc : u = .nilIface → v = .nilIface → ite' (isConstX x) true (isConstX y) = true) : (eqGuard op t x y u v).run P w = .ok () w := by
  rcases hu with rfl | ⟨_, _, rfl⟩ <;> rcases hv with rfl | ⟨_, _, rfl⟩
  · exact guard_nil (hc rfl rfl)
  · unfold eqGuard; cases op <;> simp
  · unfold eqGuard; cases op <;> simp
  · unfold eqGuard; cases op <;> simp
theorem ifBin_ok {P : Program} {T : Cx} (hT : Fits P T) {o : Oper} {op : BinOp} {t t' : TypeId} {x y : Operand} (h : o.op = .binOp op t x y t') : SoundP ds P T o (o_ifBin op t x y) := fun A H v H' hf E a ha => by
  unfold o_ifBin at hf
  split at hf
  · rename_i u hu
    split at hf
    · rename_i u2 hu2
      obtain ⟨hf, e0⟩ := withH_some hf
      subst e0
      unfold ifBin at hf
      split at hf
      · rename_i b hb
        have key := ifCmp_ok (P := P) hT hb (ev_ok ha hu) (ev_ok ha hu2)
        have hg : ∀ w, (eqGuard op t x y (a.eval x) (a.eval y)).run P w = .ok () w := fun w => by
          obtain ⟨_, k1, k2, k3⟩ := key w
          exact guard_if k1 k2 k3
        refine pure_ok (v' := v) (fun w => ?_) (.same ?_)
        · obtain ⟨k0, k1, k2, k3⟩ := key w
          have hb2 : (binOp op t (a.eval x) (a.eval y)).run P w = .ok v w := by
            cases op <;> simp only [cmpV] at hf <;> (try (cases hf; done)) <;> cases hf <;>
              rcases k1 with k1 | ⟨_, _, k1⟩ <;> rcases k2 with k2 | ⟨_, _, k2⟩ <;> rw [k1, k2] at k0 ⊢ <;> simp [binOp, k0]
          simp [execOp, h, hg w, hb2]
        · cases op <;> simp only [cmpV] at hf <;> (try (cases hf; done)) <;> cases hf <;> rfl
      · cases hf
    · cases hf
  · cases hf
def orF (f g : OpF) : OpF := fun T A H => Option.rec (motive := fun _ => Option (Value × Hp)) (g T A H) (fun r => some r) (f T A H)
def o_bin (op : BinOp) (t : TypeId) (x y : Operand) : OpF := orF (o_bin0 op t x y) (o_ifBin op t x y)
theorem orF_ok {P : Program} {T : Cx} {o : Oper} {f g : OpF} (hf : SoundP ds P T o f) (hg : SoundP ds P T o g) : SoundP ds P T o (orF f g) := fun A H v H' h E a ha => by
  unfold orF at h
  cases hh : f T A H with
  | none => rw [hh] at h; exact hg A H v H' h E a ha
  | some r => rw [hh] at h; cases h; exact hf A H _ _ hh E a ha
theorem bin_ok {P : Program} {T : Cx} (hT : Fits P T) {o : Oper} {op : BinOp} {t t' : TypeId} {x y : Operand} (h : o.op = .binOp op t x y t') : SoundP ds P T o (o_bin op t x y) := orF_ok (bin0_ok hT h) (ifBin_ok hT h)
def o_mkIface (t : TypeId) (x : Operand) : OpF := fun T A H => match ev A x with
  | some v => (match T.und t with
    | some (.interface _) => none
    | some _ => some (.iface t v, H)
    | none => none)
  | none => none
theorem mkIface_ok {P : Program} {T : Cx} (hT : Fits P T) {o : Oper} {t : TypeId} {x : Operand} (h : o.op = .makeInterface t x) : SoundP ds P T o (o_mkIface t x) := fun A H v H' hf E a ha => by
  unfold o_mkIface at hf
  split at hf
  · rename_i u hu
    split at hf
    · cases hf
    · rename_i d hd hne
      cases hf
      refine pure_ok (v' := .iface t (a.eval x)) (fun w => ?_) (.iface (ev_ok ha hu))
      have hu2 := run_underlying (P := P) (hT.und hne) w
      cases d <;> first | (exact absurd rfl (hd _)) | simp [execOp, h, Instr.makeInterface, hu2]
    · cases hf
  · cases hf
end
end Go.Proofs.YtanhkchpffkloaaGreatDoor
