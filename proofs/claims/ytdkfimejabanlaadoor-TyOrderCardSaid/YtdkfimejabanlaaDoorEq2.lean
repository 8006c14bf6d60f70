import Derived.Test.YtdkfimejabanlaaDoorEq1
import Derived.Laws.StructEq
import Derived.Laws.Tables
import Derived.Laws.MakeOwn
import Derived.Laws.BytesArg
import Derived.Great.BuildSlice
import Derived.Laws.AppendOwn
namespace Go.Proofs.YtdkfimejabanlaaDoor
open Go
set_option linter.unusedVariables false
set_option linter.unusedSimpArgs false
noncomputable section
variable {ds : List Deferred}
theorem guard_run {P : Program} {w : World} {op : BinOp} {t : TypeId} {x y : Operand} {a b : Value} (ha : a ≠ .nilIface) (hb : ∀ cs, a ≠ .agg cs) : (eqGuard op t x y a b).run P w = .ok () w := by
  unfold eqGuard
  cases op <;> simp <;> (split <;> first | (exact absurd rfl ha) | (exact absurd rfl (hb _)) | simp)
theorem equal_nil {P : Program} {w : World} {t : TypeId} {d : TypeDesc} {x y : Value} {b : Bool} (hd : P.underlying t = some d)
    (h : (∃ e, d = .pointer e ∧ ((x = .pointer none ∧ ∃ q, y = .pointer q ∧ b = q.isNone) ∨ (y = .pointer none ∧ ∃ q, x = .pointer (some q) ∧ b = false))) ∨
      (∃ e, d = .slice e ∧ ((∃ l c, x = .slice none l c ∧ ∃ q l' c', y = .slice q l' c' ∧ b = q.isNone) ∨ (∃ l c, y = .slice none l c ∧ ∃ q l' c', x = .slice (some q) l' c' ∧ b = false))) ∨
      (d = .bool ∧ ∃ p q, x = .bool p ∧ y = .bool q ∧ b = (p == q))) : ∀ n, (Op.equalIn (n + 1) t x y).run P w = .ok b w := by
  intro n
  unfold Op.equalIn
  rcases h with ⟨e, rfl, ⟨rfl, q, rfl, rfl⟩ | ⟨rfl, q, rfl, rfl⟩⟩ | ⟨e, rfl, ⟨l, c, rfl, q, l', c', rfl, rfl⟩ | ⟨l, c, rfl, q, l', c', rfl, rfl⟩⟩ | ⟨rfl, p, q, rfl, rfl, rfl⟩
  · simp [run_underlying hd]
  · simp [run_underlying hd]
  · simp [run_underlying hd]
  · simp [run_underlying hd]
  · simp [run_underlying hd]
def cmpV (op : BinOp) (b : Bool) : Option Value := match op with
  | .eql => some (.bool b)
  | .neq => some (.bool (Bool.not b))
  | _ => none
theorem cmpV_ok {P : Program} {w : World} {op : BinOp} {t : TypeId} {x y : Value} {b : Bool} {v : Value} (h : cmpV op b = some v) (he : (Op.equal t x y).run P w = .ok b w)
    (hx : (∃ p, x = .pointer p ∧ ∃ q, y = .pointer q) ∨ (∃ p l c, x = .slice p l c) ∨ (∃ p, x = .bool p)) : (binOp op t x y).run P w = .ok v w ∧ plainV v = true := by
  cases op <;> simp only [cmpV] at h <;> (try (cases h; done)) <;> cases h <;> refine ⟨?_, rfl⟩ <;>
    rcases hx with ⟨p, rfl, q, rfl⟩ | ⟨p, l, c, rfl⟩ | ⟨p, rfl⟩ <;> simp [binOp, he]
/-- the answer of a comparison that is none of whole numbers or texts. -/
def cmpD (d : TypeDesc) (x y : Value) : Option Bool := match d with
  | .pointer _ => (match x with
    | .pointer none => (match y with
      | .pointer none => some true
      | .pointer (some _) => some false
      | _ => none)
    | .pointer (some _) => (match y with
      | .pointer none => some false
      | _ => none)
    | _ => none)
  | .slice _ => (match x with
    | .slice none _ _ => (match y with
      | .slice none _ _ => some true
      | .slice (some _) _ _ => some false
      | _ => none)
    | .slice (some _) _ _ => (match y with
      | .slice none _ _ => some false
      | _ => none)
    | _ => none)
  | .bool => (match x with
    | .bool a => (match y with
      | .bool b => some (ite' a b (Bool.not b))
      | _ => none)
    | _ => none)
  | _ => none
theorem cmpD_ok {P : Program} {w : World} {E : Env} {N : Nat} {t : TypeId} {d : TypeDesc} {x y x' y' : Value} {b : Bool} (hd : P.underlying t = some d) (h : cmpD d x y = some b) (hx : VR E N x x') (hy : VR E N y y') :
    (∀ n, (Op.equalIn (n + 1) t x' y').run P w = .ok b w) ∧ ((∃ p, x' = .pointer p ∧ ∃ q, y' = .pointer q) ∨ (∃ p l c, x' = .slice p l c) ∨ (∃ p, x' = .bool p)) := by
  unfold cmpD at h
  split at h
  · split at h
    · split at h
      · cases h; cases hx.pnil; cases hy.pnil
        exact ⟨equal_nil hd (.inl ⟨_, rfl, .inl ⟨rfl, _, rfl, rfl⟩⟩), .inl ⟨_, rfl, _, rfl⟩⟩
      · cases h; cases hx.pnil
        obtain ⟨_, _, e⟩ := hy.pptr
        subst e
        exact ⟨equal_nil hd (.inl ⟨_, rfl, .inl ⟨rfl, _, rfl, rfl⟩⟩), .inl ⟨_, rfl, _, rfl⟩⟩
      · cases h
    · split at h
      · cases h; cases hy.pnil
        obtain ⟨_, _, e⟩ := hx.pptr
        subst e
        exact ⟨equal_nil hd (.inl ⟨_, rfl, .inr ⟨rfl, _, rfl, rfl⟩⟩), .inl ⟨_, rfl, _, rfl⟩⟩
      · cases h
    · cases h
  · split at h
    · split at h
      · cases h
        obtain ⟨_, _, e⟩ := hx.snil
        obtain ⟨_, _, e2⟩ := hy.snil
        subst e e2
        exact ⟨equal_nil hd (.inr (.inl ⟨_, rfl, .inl ⟨_, _, rfl, _, _, _, rfl, rfl⟩⟩)), .inr (.inl ⟨_, _, _, rfl⟩)⟩
      · cases h
        obtain ⟨_, _, e⟩ := hx.snil
        obtain ⟨_, _, c', e2, _⟩ := hy.sl
        subst e e2
        exact ⟨equal_nil hd (.inr (.inl ⟨_, rfl, .inl ⟨_, _, rfl, _, _, _, rfl, rfl⟩⟩)), .inr (.inl ⟨_, _, _, rfl⟩)⟩
      · cases h
    · split at h
      · cases h
        obtain ⟨_, _, c', e, _⟩ := hx.sl
        obtain ⟨_, _, e2⟩ := hy.snil
        subst e e2
        exact ⟨equal_nil hd (.inr (.inl ⟨_, rfl, .inr ⟨_, _, rfl, _, _, _, rfl, rfl⟩⟩)), .inr (.inl ⟨_, _, _, rfl⟩)⟩
      · cases h
    · cases h
  · split at h
    · split at h
      · cases h; cases hx.bool; cases hy.bool
        rename_i p _ q
        exact ⟨equal_nil hd (.inr (.inr ⟨rfl, _, _, rfl, rfl, by cases p <;> cases q <;> rfl⟩)), .inr (.inr ⟨_, rfl⟩)⟩
      · cases h
    · cases h
  · cases h
def withH (v : Option Value) (H : Hp) : Option (Value × Hp) := match v with
  | some v => some (v, H)
  | none => none
theorem withH_some {v : Option Value} {H H' : Hp} {u : Value} (h : withH v H = some (u, H')) : v = some u ∧ H' = H := by
  cases v with
  | none => cases h
  | some x => cases h; exact ⟨rfl, rfl⟩
def binCmp (op : BinOp) (t : TypeId) (T : Cx) (x y : Value) : Option Value := match T.und t with
  | some d => (match cmpD d x y with
    | some b => cmpV op b
    | none => none)
  | none => none
/-! ### structs -/
def partA (T : Cx) (t : TypeId) (l : List Value) (off : Nat) : Option Value := match T.ty.get t with
  | some i => (match T.und t with
    | some d => ite' (isAggD d) (some (.agg ((l.drop off).take i.size).toArray)) (l[off]?)
    | none => none)
  | none => none
theorem partA_ok {P : Program} {T : Cx} (hT : Fits P T) {E : Env} {N : Nat} {t : TypeId} {l l' : List Value} {off : Nat} {v : Value} (h : partA T t l off = some v) (hl : VL E N l l') : ∃ v', VR E N v v' ∧ ∀ w : World, (part t l'.toArray off).run P w = .ok v' w := by
  unfold partA at h
  split at h
  · rename_i i hi
    split at h
    · rename_i d hd
      have e1 := hT.ty t i hi
      have e2 := hT.und hd
      cases hag : isAggD d with
      | true =>
        rw [hag, ite'_true] at h
        cases h
        refine ⟨.agg ((l'.drop off).take i.size).toArray, .agg ((hl.drop off).take i.size), fun w => ?_⟩
        have hu := run_underlying (P := P) e2 w
        cases d <;> simp [isAggD] at hag <;> simp [part, isAgg, hu, sizeOf, typeInfo, e1, List.extract_eq_take_drop]
      | false =>
        rw [hag, ite'_false] at h
        obtain ⟨v', e3, r⟩ := hl.get h
        refine ⟨v', r, fun w => ?_⟩
        have hu := run_underlying (P := P) e2 w
        cases d <;> simp [isAggD] at hag <;> simp [part, isAgg, hu, e3]
    · cases h
  · cases h
def eqFs (ih : TypeId → Value → Value → Option Bool) (T : Cx) (l m : List Value) (fs : List Field) : Option Bool := List.rec (motive := fun _ => Option Bool) (some true) (fun f _ rest => ite' (f.name == "_") none (match partA T f.type l f.offset with
  | some a => (match partA T f.type m f.offset with
    | some b => (match ih f.type a b with
      | some true => rest
      | some false => some false
      | none => none)
    | none => none)
  | none => none)) fs
theorem eqFs_cons (ih : TypeId → Value → Value → Option Bool) (T : Cx) (l m : List Value) (f : Field) (fs : List Field) : eqFs ih T l m (f :: fs) = ite' (f.name == "_") none (match partA T f.type l f.offset with
  | some a => (match partA T f.type m f.offset with
    | some b => (match ih f.type a b with
      | some true => eqFs ih T l m fs
      | some false => some false
      | none => none)
    | none => none)
  | none => none) := rfl
def eqStep (T : Cx) (ih : TypeId → Value → Value → Option Bool) (t : TypeId) (x y : Value) : Option Bool := match T.und t with
  | some (.struct fs) => (match x with
    | .agg xs => (match y with
      | .agg ys => (match T.eq.get t with
        | some true => eqFs ih T xs.toList ys.toList fs.toList
        | _ => none)
      | _ => none)
    | _ => none)
  | some (.int _) => (match x with
    | .int k a => (match y with
      | .int k' b => ite' (kindEq k k') (some (eqF a b)) none
      | _ => none)
    | _ => none)
  | some .string => (match x with
    | .string a => (match y with
      | .string b => some (bytesEq a.data.toList b.data.toList)
      | _ => none)
    | _ => none)
  | some d => cmpD d x y
  | none => none
def eqN (T : Cx) (n : Nat) : TypeId → Value → Value → Option Bool := Nat.rec (motive := fun _ => TypeId → Value → Value → Option Bool) (fun _ _ _ => none) (fun _ ih => eqStep T ih) n
theorem eqN_ok {P : Program} {T : Cx} (hT : Fits P T) {E : Env} {N : Nat} {w : World} : ∀ (n : Nat) {t : TypeId} {x y x' y' : Value} {b : Bool}, eqN T n t x y = some b → VR E N x x' → VR E N y y' → ∀ d, n ≤ d → (Op.equalIn d t x' y').run P w = .ok b w
  | 0, _, _, _, _, _, _, h, _, _, _, _ => by cases h
  | n + 1, t, x, y, x', y', b, h, hx, hy, 0, hd => absurd hd (by omega)
  | n + 1, t, x, y, x', y', b, h, hx, hy, d + 1, hd => by
    change eqStep T (eqN T n) t x y = some b at h
    unfold eqStep at h
    split at h
    · rename_i fs hu
      split at h
      · rename_i xs
        split at h
        · rename_i ys
          split at h
          · rename_i he
            obtain ⟨l', e1, r1⟩ := hx.ag
            obtain ⟨m', e2, r2⟩ := hy.ag
            subst e1 e2
            have hP := hT.und hu
            have hF : P.fieldsOf t = fs := by simp [Program.fieldsOf, hP]
            rw [run_equalIn_agg w d t _ _ (by rw [hF]; exact hP) (hT.eq t he).1, hF]
            have key : ∀ (l : List Field) (b : Bool), eqFs (eqN T n) T xs.toList ys.toList l = some b → (Op.eqFields d l'.toArray m'.toArray l).run P w = .ok b w := by
              intro l
              induction l with
              | nil => intro b h; cases h; simp [Op.eqFields]
              | cons f l ih =>
                intro b h
                rw [eqFs_cons] at h
                obtain ⟨hn, h⟩ := ite'_none h
                have hn2 : f.name ≠ "_" := by simpa using hn
                unfold Op.eqFields
                rw [if_pos hn2]
                split at h
                · rename_i u hu2
                  obtain ⟨u', ru, eu⟩ := partA_ok (P := P) hT hu2 r1
                  split at h
                  · rename_i v hv2
                    obtain ⟨v', rv, ev'⟩ := partA_ok (P := P) hT hv2 r2
                    split at h
                    · rename_i hq
                      have := eqN_ok (P := P) (w := w) hT n hq ru rv d (by omega)
                      simp [eu, ev', this]
                      exact ih b h
                    · rename_i hq
                      cases h
                      have := eqN_ok (P := P) (w := w) hT n hq ru rv d (by omega)
                      simp [eu, ev', this]
                    · cases h
                  · cases h
                · cases h
            exact key fs.toList b h
          · cases h
        · cases h
      · cases h
    · rename_i k0 hu
      split at h
      · split at h
        · obtain ⟨h1, h2⟩ := ite'_some h
          cases h2
          rw [hx.int, hy.int, kindEq_eq h1, eqF_eq]
          exact run_equalIn_int w d t _ _ _ _ (hT.und hu)
        · cases h
      · cases h
    · rename_i hu
      split at h
      · split at h
        · cases h
          rw [hx.string, hy.string, bytesEq_eq]
          rw [run_equalIn_string w d t _ _ (hT.und hu), ByteArray.toList_eq, ByteArray.toList_eq]
        · cases h
      · cases h
    · rename_i hu
      exact (cmpD_ok (P := P) (w := w) (hT.und hu) h hx hy).1 d
    · cases h
def structCmp (op : BinOp) (T : Cx) (t : TypeId) (xs ys : Array Value) : Option Value := match T.eq.get t with
  | some true => (match eqN T 6 t (.agg xs) (.agg ys) with
    | some b => cmpV op b
    | none => none)
  | _ => none
def binX (op : BinOp) (t : TypeId) (T : Cx) (x y : Value) : Option Value := match x with
  | .int k a => (match y with
    | .int k' b => ite' (ite' (isShift op) true (kindEq k k')) (intBin op k a b) none
    | _ => none)
  | .string a => (match y with
    | .string b => strBin op a b
    | _ => none)
  | .agg xs => (match y with
    | .agg ys => structCmp op T t xs ys
    | _ => none)
  | x => binCmp op t T x y
def o_bin0 (op : BinOp) (t : TypeId) (x y : Operand) : OpF := fun T A H => match ev A x with
  | some u => (match ev A y with
    | some v => withH (binX op t T u v) H
    | none => none)
  | none => none
theorem bin0_ok {P : Program} {T : Cx} (hT : Fits P T) {o : Oper} {op : BinOp} {t t' : TypeId} {x y : Operand} (h : o.op = .binOp op t x y t') : SoundP ds P T o (o_bin0 op t x y) := fun A H v H' hf E a ha => by
  unfold o_bin0 at hf
  split at hf
  · rename_i u hu
    split at hf
    · rename_i u2 hu2
      obtain ⟨hf2, e0⟩ := withH_some hf
      subst e0
      clear hf
      have hf := hf2
      clear hf2
      have hx := ev_ok ha hu
      have hy := ev_ok ha hu2
      have key : ∀ w, ∃ n1, (eqGuard op t x y (a.eval x) (a.eval y)).run P w = .ok n1 w ∧ (binOp op t (a.eval x) (a.eval y)).run P w = .ok v w ∧ plainV v = true := fun w => by
        unfold binX at hf
        split at hf
        · rename_i k p
          split at hf
          · rename_i k' q
            obtain ⟨h1, h2⟩ := ite'_some hf
            rw [hx.int, hy.int]
            have h3 : isShift op = true ∨ k = k' := by
              cases hs : isShift op with
              | true => exact .inl rfl
              | false => rw [hs] at h1; exact .inr (kindEq_eq h1)
            obtain ⟨h4, h5⟩ := intBin_ok (P := P) (w := w) (t := t) h2 h3
            exact ⟨(), guard_run (by simp) (by simp), h4, h5⟩
          · cases hf
        · split at hf
          · rw [hx.string, hy.string]
            obtain ⟨h4, h5⟩ := strBin_ok (P := P) (w := w) (t := t) hf
            exact ⟨(), guard_run (by simp) (by simp), h4, h5⟩
          · cases hf
        · split at hf
          · rename_i xs _ ys
            unfold structCmp at hf
            split at hf
            · rename_i he
              split at hf
              · rename_i b hb
                have hq := eqN_ok (P := P) (w := w) hT 6 hb hx hy 10000 (by omega)
                obtain ⟨l', e1, r1⟩ := hx.ag
                obtain ⟨m', e2, r2⟩ := hy.ag
                rw [e1, e2] at hq ⊢
                refine ⟨(), run_eqGuard_agg w op t x y _ _ (hT.eq t he).2, ?_⟩
                cases op <;> simp only [cmpV] at hf <;> (try (cases hf; done)) <;> cases hf <;> refine ⟨?_, rfl⟩
                · rw [run_eql_struct, hq]; rfl
                · rw [run_neq_struct, hq]; rfl
              · cases hf
            · cases hf
          · cases hf
        · unfold binCmp at hf
          split at hf
          · rename_i d hd
            split at hf
            · rename_i b hb
              obtain ⟨h1, h2⟩ := cmpD_ok (P := P) (w := w) (hT.und hd) hb hx hy
              obtain ⟨h3, h4⟩ := cmpV_ok (P := P) (w := w) hf (h1 9999) h2
              refine ⟨(), ?_, h3, h4⟩
              rcases h2 with ⟨p, e, _⟩ | ⟨p, l, c, e⟩ | ⟨p, e⟩ <;> rw [e] <;> exact guard_run (by simp) (by simp)
            · cases hf
          · cases hf
      refine pure_ok (v' := v) (fun w => ?_) (.same (key default).choose_spec.2.2)
      obtain ⟨n1, h1, h2, h3⟩ := key w
      simp [execOp, h, h1, h2]
    · cases hf
  · cases hf
/-! ### interfaces -/
def isConstX (x : Operand) : Bool := match x with
  | .const _ => true
  | _ => false
def ifSame (T : Cx) (t : TypeId) (x y : Value) : Option Bool := match T.ty.get t with
  | some i => ite' i.comparable (match T.und t with
    | some (.int _) => (match x with
      | .int k a => (match y with
        | .int k' b => ite' (kindEq k k') (some (eqF a b)) none
        | _ => none)
      | _ => none)
    | _ => none) none
  | none => none
def ifCmp (T : Cx) (t : TypeId) (cx : Bool) (x y : Value) : Option Bool := match T.und t with
  | some (.interface _) => (match x with
    | .nilIface => (match y with
      | .nilIface => ite' cx (some true) none
      | .iface _ _ => some false
      | _ => none)
    | .iface tx vx => (match y with
      | .nilIface => some false
      | .iface ty vy => ite' (Nat.beq tx ty) (ifSame T tx vx vy) (some false)
      | _ => none)
    | _ => none)
  | _ => none
def ifBin (op : BinOp) (T : Cx) (t : TypeId) (cx : Bool) (x y : Value) : Option Value := match ifCmp T t cx x y with
  | some b => cmpV op b
  | none => none
def o_ifBin (op : BinOp) (t : TypeId) (x y : Operand) : OpF := fun T A H => match ev A x with
  | some u => (match ev A y with
    | some v => withH (ifBin op T t (ite' (isConstX x) true (isConstX y)) u v) H
    | none => none)
  | none => none
theorem VR.ifc {E : Env} {N : Nat} {t : TypeId} {v v' : Value} (h : VR E N (.iface t v) v') : ∃ u, v' = .iface t u ∧ VR E N v u := by
  cases h with
  | same h => cases h
  | iface h => exact ⟨_, rfl, h⟩
theorem ifCmp_ok {P : Program} {T : Cx} (hT : Fits P T) {E : Env} {N : Nat} {t : TypeId} {cx : Bool} {x y x' y' : Value} {b : Bool} (h : ifCmp T t cx x y = some b) (hx : VR E N x x') (hy : VR E N y y') (w : World) :
    (Op.equal t x' y').run P w = .ok b w ∧ (x' = .nilIface ∨ ∃ t u, x' = .iface t u) ∧ (y' = .nilIface ∨ ∃ t u, y' = .iface t u) ∧ (x' = .nilIface → y' = .nilIface → cx = true) := by
  unfold ifCmp at h
  split at h
  · rename_i ms hu
    have hu2 := run_underlying (P := P) (hT.und hu) w
    split at h
    · cases hx.niface
      split at h
      · cases hy.niface
        obtain ⟨h1, h2⟩ := ite'_some h
        cases h2
        refine ⟨?_, .inl rfl, .inl rfl, fun _ _ => h1⟩
        show (Op.equalIn (9999 + 1) t _ _).run P w = _
        unfold Op.equalIn
        simp [hu2]
      · cases h
        obtain ⟨u, rfl, _⟩ := hy.ifc
        refine ⟨?_, .inl rfl, .inr ⟨_, _, rfl⟩, fun _ e => by cases e⟩
        show (Op.equalIn (9999 + 1) t _ _).run P w = _
        unfold Op.equalIn
        simp [hu2]
      · cases h
    · rename_i tx vx
      obtain ⟨ux, rfl, hux⟩ := hx.ifc
      split at h
      · cases hy.niface
        cases h
        refine ⟨?_, .inr ⟨_, _, rfl⟩, .inl rfl, fun e => by cases e⟩
        show (Op.equalIn (9999 + 1) t _ _).run P w = _
        unfold Op.equalIn
        simp [hu2]
      · rename_i ty vy
        obtain ⟨uy, rfl, huy⟩ := hy.ifc
        refine ⟨?_, .inr ⟨_, _, rfl⟩, .inr ⟨_, _, rfl⟩, fun e => by cases e⟩
        show (Op.equalIn (9999 + 1) t _ _).run P w = _
        unfold Op.equalIn
        cases hb : Nat.beq tx ty with
        | false =>
          rw [hb] at h; cases h
          have : tx ≠ ty := fun e => by subst e; rw [Nat.beq_refl] at hb; cases hb
          simp [hu2, this]
        | true =>
          have := Nat.eq_of_beq_eq_true hb
          subst this
          rw [hb, ite'_true] at h
          unfold ifSame at h
          split at h
          · rename_i i hi
            obtain ⟨h1, h⟩ := ite'_some h
            split at h
            · rename_i k0 hk
              split at h
              · rename_i k1 p1
                split at h
                · rename_i k2 p2
                  obtain ⟨h2, h3⟩ := ite'_some h
                  cases h3
                  have e1 := hux.int
                  have e2 := huy.int
                  subst e1 e2
                  have e3 := kindEq_eq h2
                  subst e3
                  have hq := fun (kk : IntKind) (aa bb : Int) => run_equalIn_int (P := P) w 9998 tx kk k0 aa bb (hT.und hk)
                  rw [eqF_eq]
                  simp [hu2, typeInfo, hT.ty tx i hi, h1, hq]
                · cases h
              · cases h
            · cases h
          · cases h
      · cases h
    · cases h
  · cases h
theorem guard_nil {P : Program} {w : World} {op : BinOp} {t : TypeId} {x y : Operand} (hc : ite' (isConstX x) true (isConstX y) = true) : (eqGuard op t x y .nilIface .nilIface).run P w = .ok () w := by
  unfold eqGuard
  cases x <;> cases y <;> first | (cases hc; done) | (cases op <;> simp)
theorem guard_if {P : Program} {w : World} {op : BinOp} {t : TypeId} {x y : Operand} {u v : Value} (hu : u = .nilIface ∨ ∃ t u1, u = .iface t u1) (hv : v = .nilIface ∨ ∃ t u1, v = .iface t u1) (hc : u = .nilIface → v = .nilIface → ite' (isConstX x) true (isConstX y) = true) : (eqGuard op t x y u v).run P w = .ok () w := by
  rcases hu with rfl | ⟨_, _, rfl⟩ <;> rcases hv with rfl | ⟨_, _, rfl⟩
  · exact guard_nil (hc rfl rfl)
  · unfold eqGuard; cases op <;> simp
  · unfold eqGuard; cases op <;> simp
  · unfold eqGuard; cases op <;> simp
theorem ifBin_ok {P : Program} {T : Cx} (hT : Fits P T) {o : Oper} {op : BinOp} {t t' : TypeId} {x y : Operand} (h : o.op = .binOp op t x y t') : SoundP ds P T o (o_ifBin op t x y) := fun A H v H' hf E a ha => by
  unfold o_ifBin at hf
  split at hf
  · rename_i u hu
    split at hf
    · rename_i u2 hu2
      obtain ⟨hf, e0⟩ := withH_some hf
      subst e0
      unfold ifBin at hf
      split at hf
      · rename_i b hb
        have key := ifCmp_ok (P := P) hT hb (ev_ok ha hu) (ev_ok ha hu2)
        have hg : ∀ w, (eqGuard op t x y (a.eval x) (a.eval y)).run P w = .ok () w := fun w => by
          obtain ⟨_, k1, k2, k3⟩ := key w
          exact guard_if k1 k2 k3
        refine pure_ok (v' := v) (fun w => ?_) (.same ?_)
        · obtain ⟨k0, k1, k2, k3⟩ := key w
          have hb2 : (binOp op t (a.eval x) (a.eval y)).run P w = .ok v w := by
            cases op <;> simp only [cmpV] at hf <;> (try (cases hf; done)) <;> cases hf <;>
              rcases k1 with k1 | ⟨_, _, k1⟩ <;> rcases k2 with k2 | ⟨_, _, k2⟩ <;> rw [k1, k2] at k0 ⊢ <;> simp [binOp, k0]
          simp [execOp, h, hg w, hb2]
        · cases op <;> simp only [cmpV] at hf <;> (try (cases hf; done)) <;> cases hf <;> rfl
      · cases hf
    · cases hf
  · cases hf
def orF (f g : OpF) : OpF := fun T A H => Option.rec (motive := fun _ => Option (Value × Hp)) (g T A H) (fun r => some r) (f T A H)
def o_bin (op : BinOp) (t : TypeId) (x y : Operand) : OpF := orF (o_bin0 op t x y) (o_ifBin op t x y)
theorem orF_ok {P : Program} {T : Cx} {o : Oper} {f g : OpF} (hf : SoundP ds P T o f) (hg : SoundP ds P T o g) : SoundP ds P T o (orF f g) := fun A H v H' h E a ha => by
  unfold orF at h
  cases hh : f T A H with
  | none => rw [hh] at h; exact hg A H v H' h E a ha
  | some r => rw [hh] at h; cases h; exact hf A H _ _ hh E a ha
theorem bin_ok {P : Program} {T : Cx} (hT : Fits P T) {o : Oper} {op : BinOp} {t t' : TypeId} {x y : Operand} (h : o.op = .binOp op t x y t') : SoundP ds P T o (o_bin op t x y) := orF_ok (bin0_ok hT h) (ifBin_ok hT h)
def o_mkIface (t : TypeId) (x : Operand) : OpF := fun T A H => match ev A x with
  | some v => (match T.und t with
    | some (.interface _) => none
    | some _ => some (.iface t v, H)
    | none => none)
  | none => none
theorem mkIface_ok {P : Program} {T : Cx} (hT : Fits P T) {o : Oper} {t : TypeId} {x : Operand} (h : o.op = .makeInterface t x) : SoundP ds P T o (o_mkIface t x) := fun A H v H' hf E a ha => by
  unfold o_mkIface at hf
  split at hf
  · rename_i u hu
    split at hf
    · cases hf
    · rename_i d hd hne
      cases hf
      refine pure_ok (v' := .iface t (a.eval x)) (fun w => ?_) (.iface (ev_ok ha hu))
      have hu2 := run_underlying (P := P) (hT.und hne) w
      cases d <;> first | (exact absurd rfl (hd _)) | simp [execOp, h, Instr.makeInterface, hu2]
    · cases hf
  · cases hf
/-! ### type assertions -/
def zeroK (T : Cx) (t : TypeId) : Option Value := match T.ty.get t with
  | some i => (match i.zero with
    | some z => ite' (constOk z) (some z) none
    | none => none)
  | none => none
theorem zeroK_ok {P : Program} {T : Cx} (hT : Fits P T) {t : TypeId} {z : Value} (h : zeroK T t = some z) : constOk z = true ∧ ∀ w, (zeroValue t).run P w = .ok z w := by
  unfold zeroK at h
  split at h
  · rename_i i hi
    split at h
    · rename_i z' hz
      obtain ⟨h1, h2⟩ := ite'_some h
      cases h2
      exact ⟨h1, fun w => by simp [zeroValue, typeInfo, hT.ty t i hi, hz]⟩
    · cases h
  · cases h
def asNo (z : Option Value) : Option Value := match z with
  | some z => some (.tuple #[z, .bool false])
  | none => none
def asYes (ok : Bool) (v : Value) : Value := ite' ok (.tuple #[v, .bool true]) v
def ifNone (o : Option String) (v : Option Value) : Option Value := match o with
  | none => v
  | some _ => none
def tasV (T : Cx) (x : Value) (t : TypeId) (ok : Bool) : Option Value := match T.und t with
  | some (.interface want) => (match x with
    | .iface u v => (match T.ty.get u with
      | some i => ifNone (Instr.missingMethod want i.methods) (some (asYes ok (.iface u v)))
      | none => none)
    | .nilIface => ite' ok (asNo (zeroK T t)) none
    | _ => none)
  | some _ => (match x with
    | .iface u v => ite' (Nat.beq u t) (some (asYes ok v)) (ite' ok (asNo (zeroK T t)) none)
    | .nilIface => ite' ok (asNo (zeroK T t)) none
    | _ => none)
  | none => none
def o_tassert (x : Operand) (t : TypeId) (ok : Bool) : OpF := fun T A H => match ev A x with
  | some v => withH (tasV T v t ok) H
  | none => none
theorem asYes_vr {E : Env} {N : Nat} {v v' : Value} (ok : Bool) (h : VR E N v v') : VR E N (asYes ok v) (if ok then .tuple #[v', .bool true] else v') := by
  cases ok with
  | false => exact h
  | true => exact .tuple (l := [v, .bool true]) (l' := [v', .bool true]) (.cons h (.cons (.same rfl) .nil))
theorem asNo_ok {P : Program} {T : Cx} (hT : Fits P T) {t : TypeId} {v : Value} {ok : Bool} (h : ite' ok (asNo (zeroK T t)) none = some v) {E : Env} {N : Nat} : ok = true ∧ ∃ z, v = .tuple #[z, .bool false] ∧ (∀ w, (zeroValue t).run P w = .ok z w) ∧ VR E N v v := by
  obtain ⟨h1, h⟩ := ite'_some h
  unfold asNo at h
  split at h
  · rename_i z hz
    cases h
    obtain ⟨k1, k2⟩ := zeroK_ok (P := P) hT hz
    exact ⟨h1, z, rfl, k2, .tuple (l := [z, .bool false]) (l' := [z, .bool false]) (.cons (constOk_ok k1) (.cons (.same rfl) .nil))⟩
  · cases h
theorem tassert_ok {P : Program} {T : Cx} (hT : Fits P T) {o : Oper} {x : Operand} {xt t : TypeId} {ok : Bool} (h : o.op = .typeAssert x xt t ok) : SoundP ds P T o (o_tassert x t ok) := fun A H v H' hf E a ha => by
  unfold o_tassert at hf
  split at hf
  · rename_i u hu
    obtain ⟨hv, e0⟩ := withH_some hf
    subst e0
    have hx := ev_ok ha hu
    unfold tasV at hv
    split at hv
    · rename_i want hd
      split at hv
      · rename_i q v0
        obtain ⟨v', e1, r1⟩ := hx.ifc
        split at hv
        · rename_i i hi
          unfold ifNone at hv
          split at hv
          · rename_i hm
            cases hv
            refine pure_ok (v' := if ok then .tuple #[.iface q v', .bool true] else .iface q v') (fun w => ?_) (asYes_vr ok (.iface r1))
            cases ok <;> simp [execOp, h, e1, Instr.typeAssert, run_underlying (hT.und hd), typeInfo, hT.ty q i hi, hm]
          · cases hv
        · cases hv
      · have e1 := hx.niface
        obtain ⟨rfl, z, rfl, k1, k2⟩ := asNo_ok (P := P) hT hv (E := E) (N := H'.next)
        refine pure_ok (v' := .tuple #[z, .bool false]) (fun w => ?_) k2
        simp [execOp, h, e1, Instr.typeAssert, run_underlying (hT.und hd), k1]
      · cases hv
    · rename_i d hne hd
      have hu2 : ∀ w, (underlying t).run P w = .ok d w := fun w => run_underlying (P := P) (hT.und hd) w
      split at hv
      · rename_i q v0
        obtain ⟨v', e1, r1⟩ := hx.ifc
        cases hb : Nat.beq q t with
        | true =>
          rw [hb, ite'_true] at hv
          cases hv
          have e2 := Nat.eq_of_beq_eq_true hb
          subst e2
          refine pure_ok (v' := if ok then .tuple #[v', .bool true] else v') (fun w => ?_) (asYes_vr ok r1)
          cases d <;> first | (exact absurd rfl (hne _)) | (cases ok <;> simp [execOp, h, e1, Instr.typeAssert, hu2])
        | false =>
          rw [hb, ite'_false] at hv
          have e2 : q ≠ t := fun e => by rw [e, Nat.beq_refl] at hb; cases hb
          obtain ⟨rfl, z, rfl, k1, k2⟩ := asNo_ok (P := P) hT hv (E := E) (N := H'.next)
          refine pure_ok (v' := .tuple #[z, .bool false]) (fun w => ?_) k2
          cases d <;> first | (exact absurd rfl (hne _)) | simp [execOp, h, e1, e2, Instr.typeAssert, hu2, k1]
      · have e1 := hx.niface
        obtain ⟨rfl, z, rfl, k1, k2⟩ := asNo_ok (P := P) hT hv (E := E) (N := H'.next)
        refine pure_ok (v' := .tuple #[z, .bool false]) (fun w => ?_) k2
        cases d <;> first | (exact absurd rfl (hne _)) | simp [execOp, h, e1, Instr.typeAssert, hu2, k1]
      · cases hv
    · cases hv
  · cases hf
end
end Go.Proofs.YtdkfimejabanlaaDoor
namespace Go.Proofs.YtdkfimejabanlaaDoor
open Go
set_option linter.unusedVariables false
set_option linter.unusedSimpArgs false
noncomputable section
variable {ds : List Deferred}
def isLenD : TypeDesc → Bool
  | .slice _ => true
  | _ => false
def o_len (t : TypeId) (x : Operand) : OpF := fun T A H => match ev A x with
  | some (.slice _ n _) => (match T.und t with
    | some (.slice _) => some (.int .i64 (Int.ofNat n), H)
    | _ => none)
  | some (.string s) => (match T.und t with
    | some .string => some (.int .i64 (Int.ofNat s.data.toList.length), H)
    | _ => none)
  | some (.chan none) => (match T.und t with
    | some (.slice _) => some (.int .i64 (Int.ofNat 0), H)
    | _ => none)
  | _ => none
theorem len_ok {P : Program} {T : Cx} (hT : Fits P T) {o : Oper} {t : TypeId} {x : Operand} (h : o.op = .call ⟨.builtin .len, #[x], #[t]⟩) : SoundP ds P T o (o_len t x) := fun A H v H' hf E a ha => by
  unfold o_len at hf
  split at hf
  · rename_i p n c hb
    split at hf
    · rename_i e ht; cases hf
      refine pure_ok (v' := .int .i64 n) (fun w => ?_) (.same rfl)
      have hs : ∃ p' c', a.eval x = .slice p' n c' := by
        cases p with
        | none => obtain ⟨e1, e2, e3⟩ := (ev_ok ha hb).snil; rw [e3, e1]; exact ⟨_, _, rfl⟩
        | some p => obtain ⟨_, _, c', e3, _⟩ := (ev_ok ha hb).sl; exact ⟨_, _, e3⟩
      obtain ⟨p', c', e3⟩ := hs
      simp [execOp, h, resolve, invoke, builtin, Builtin.len_, run_underlying (hT.und ht), e3, goInt]
    · cases hf
  · rename_i s hb
    split at hf
    · rename_i ht; cases hf
      refine pure_ok (v' := .int .i64 s.size) (fun w => ?_) (.same rfl)
      simp [execOp, h, resolve, invoke, builtin, Builtin.len_, run_underlying (hT.und ht), (ev_ok ha hb).string, goInt]
    · cases hf
  · rename_i hb
    split at hf
    · rename_i e ht; cases hf
      refine pure_ok (v' := .int .i64 (Int.ofNat 0)) (fun w => ?_) (.same rfl)
      obtain ⟨q, c, e3⟩ := (ev_ok ha hb).tl
      simp [execOp, h, resolve, invoke, builtin, Builtin.len_, run_underlying (hT.und ht), e3, goInt]
    · cases hf
  · cases hf
def o_conv (s d : TypeId) (x : Operand) : OpF := fun T A H => match ev A x with
  | some (.int _ n) => (match T.und s with
    | some _ => (match T.und d with
      | some (.int k) => some (.int k (wrapF k n), H)
      | _ => none)
    | none => none)
  | some (.string b) => (match T.und s with
    | some _ => (match T.und d with
      | some .string => some (.string b, H)
      | _ => none)
    | none => none)
  | _ => none
theorem conv_ok {P : Program} {T : Cx} (hT : Fits P T) {o : Oper} {s d : TypeId} {x : Operand} (h : o.op = .convert s d x) : SoundP ds P T o (o_conv s d x) := fun A H v H' hf E a ha => by
  unfold o_conv at hf
  split at hf
  · rename_i q n hb
    split at hf
    · rename_i ds hs
      split at hf
      · rename_i k hd; cases hf
        refine pure_ok (v' := .int k (wrapF k n)) (fun w => ?_) (.same rfl)
        simp [execOp, h, convert, run_underlying (hT.und hs), run_underlying (hT.und hd), (ev_ok ha hb).int, Conv.intToInt, wrapF_eq]
      · cases hf
    · cases hf
  · rename_i b hb
    split at hf
    · rename_i ds hs
      split at hf
      · rename_i hd; cases hf
        refine pure_ok (v' := .string b) (fun w => ?_) (.same rfl)
        simp [execOp, h, convert, run_underlying (hT.und hs), run_underlying (hT.und hd), (ev_ok ha hb).string]
      · cases hf
    · cases hf
  · cases hf
theorem VL.set {E : Env} {N : Nat} : ∀ {l l' : List Value} (h : VL E N l l') (i : Nat) {v v' : Value} (hv : VR E N v v'), VL E N (l.set i v) (l'.set i v')
  | _, _, .nil, _, _, _, _ => .nil
  | _, _, .cons h t, 0, _, _, hv => .cons hv t
  | _, _, .cons h t, i + 1, _, _, hv => .cons h (t.set i hv)
theorem fold_set {E : Env} {N : Nat} (off : Nat) : ∀ {vs vs' : List Value} (h : VL E N vs vs') (j : Nat) {cs cs' : Array Value} (hc : VL E N cs.toList cs'.toList),
    VL E N ((vs.zipIdx j).foldl (fun cs (p : Value × Nat) => cs.setIfInBounds (off + p.2) p.1) cs).toList ((vs'.zipIdx j).foldl (fun cs (p : Value × Nat) => cs.setIfInBounds (off + p.2) p.1) cs').toList
  | _, _, .nil, _, _, _, hc => hc
  | _, _, .cons h t, j, cs, cs', hc => by
    simp only [List.zipIdx_cons, List.foldl_cons]
    exact fold_set off t (j + 1) (by simp only [Array.toList_setIfInBounds]; exact hc.set _ h)
inductive PL (E : Env) (N : Nat) : List (Nat × Value) → List (Nat × Value) → Prop
  | nil : PL E N [] []
  | cons {i : Nat} {v v' : Value} {l l' : List (Nat × Value)} (h : VR E N v v') (t : PL E N l l') : PL E N ((i, v) :: l) ((i, v') :: l')
theorem foldl_zip {α β : Type} (f : α → β × Nat → α) (i : α) (arr : Array β) : Array.foldl f i arr.zipIdx 0 arr.size = List.foldl f i (arr.toList.zipIdx 0) := by
  have e : arr.size = arr.zipIdx.size := by simp
  rw [e, ← Array.foldl_toList, Array.toList_zipIdx]
theorem fill_rel {E : Env} {N : Nat} (place : Nat → Option (Nat × Nat)) : ∀ {ps ps' : List (Nat × Value)} (h : PL E N ps ps') {cs cs' r : Array Value}, VL E N cs.toList cs'.toList → Instr.fill place cs ps = some r → ∃ r', Instr.fill place cs' ps' = some r' ∧ VL E N r.toList r'.toList
  | _, _, .nil, cs, cs', r, hc, hf => by
    simp only [Instr.fill, Option.some.injEq] at hf ⊢
    subst hf; exact ⟨_, rfl, hc⟩
  | _, _, .cons (i := i) (v := v) (v' := v') h t, cs, cs', r, hc, hf => by
    unfold Instr.fill at hf ⊢
    cases hp : place i with
    | none => rw [hp] at hf; cases hf
    | some q =>
      rw [hp] at hf
      obtain ⟨off, size⟩ := q
      simp only at hf ⊢
      have hsz : v'.cells.size = v.cells.size := by have := h.cells.length; simpa using this.symm
      have hcs : cs'.size = cs.size := by have := hc.length; simpa using this.symm
      rw [hsz, hcs]
      split at hf
      · cases hf
      · rename_i hn
        rw [if_neg hn]
        refine fill_rel place t ?_ hf
        have := fold_set (E := E) (N := N) off h.cells 0 hc
        have e1 := foldl_zip (fun (cs : Array Value) (p : Value × Nat) => cs.setIfInBounds (off + p.2) p.1) cs v.cells
        have e2 := foldl_zip (fun (cs : Array Value) (p : Value × Nat) => cs.setIfInBounds (off + p.2) p.1) cs' v'.cells
        rw [← e1, ← e2] at this
        simpa using this
def evP (A : AA) (l : List (Nat × Operand)) : Option (List (Nat × Value)) := List.rec (motive := fun _ => Option (List (Nat × Value))) (some []) (fun p _ ih => match ev A p.2 with
  | some v => (match ih with
    | some l => some ((p.1, v) :: l)
    | none => none)
  | none => none) l
theorem evP_ok {E : Env} {N : Nat} {A : AA} {a : Act} (h : AR ds E N A a) : ∀ {l : List (Nat × Operand)} {vs : List (Nat × Value)}, evP A l = some vs → PL E N vs (l.map fun p => (p.1, a.eval p.2))
  | [], vs, hv => by cases hv; exact .nil
  | x :: l, vs, hv => by
    change (match ev A x.2 with
      | some v => (match evP A l with
        | some l => some ((x.1, v) :: l)
        | none => none)
      | none => none) = some vs at hv
    cases h1 : ev A x.2 with
    | none => rw [h1] at hv; cases hv
    | some v =>
      cases h2 : evP A l with
      | none => rw [h1, h2] at hv; cases hv
      | some l2 =>
        rw [h1, h2] at hv; cases hv
        exact .cons (ev_ok h h1) (evP_ok h h2)
def placesA (T : Cx) (l : List Field) : Option (List (Nat × Nat)) := List.rec (motive := fun _ => Option (List (Nat × Nat))) (some []) (fun f _ ih => match T.ty.get f.type with
  | some i => (match ih with
    | some l => some ((f.offset, i.size) :: l)
    | none => none)
  | none => none) l
theorem placesA_ok {P : Program} {T : Cx} (hT : Fits P T) : ∀ {l : List Field} {r : List (Nat × Nat)}, placesA T l = some r → l.mapM (fun f => (P.info? f.type).map fun i => (f.offset, i.size)) = some r
  | [], r, h => by cases h; rfl
  | f :: l, r, h => by
    change (match T.ty.get f.type with
      | some i => (match placesA T l with
        | some l => some ((f.offset, i.size) :: l)
        | none => none)
      | none => none) = some r at h
    cases h1 : T.ty.get f.type with
    | none => rw [h1] at h; cases h
    | some i =>
      cases h2 : placesA T l with
      | none => rw [h1, h2] at h; cases h
      | some r2 =>
        rw [h1, h2] at h; cases h
        simp [List.mapM_cons, hT.ty _ i h1, placesA_ok hT h2]
/-- what a composite of type t is, of these parts. -/
def builtA (T : Cx) (t : TypeId) (parts : List (Nat × Value)) : Option (Array Value) := match T.ty.get t with
  | some it => (match it.zero with
    | some z => ite' (plainL z.cells.toList) (match T.und t with
      | some (.array _ e) => (match T.ty.get e with
        | some ie => Instr.fill (fun i => some (i * ie.size, ie.size)) z.cells parts
        | none => none)
      | some (.struct fields) => (match placesA T fields.toList with
        | some places => Instr.fill (places.toArray[·]?) z.cells parts
        | none => none)
      | _ => none) none
    | none => none)
  | none => none
theorem builtA_ok {P : Program} {T : Cx} (hT : Fits P T) {E : Env} {N : Nat} {t : TypeId} {ps ps' : List (Nat × Value)} {r : Array Value} (h : builtA T t ps = some r) (hp : PL E N ps ps') : ∃ r', P.built t ps' = some r' ∧ VL E N r.toList r'.toList := by
  unfold builtA at h
  unfold Program.built
  split at h
  · rename_i it hit
    split at h
    · rename_i z hz
      obtain ⟨h1, h⟩ := ite'_some h
      have hz2 := plainL_ok (E := E) (N := N) h1
      rw [hT.ty t it hit]
      split at h
      · rename_i n e hu
        split at h
        · rename_i ie hie
          obtain ⟨r', e1, e2⟩ := fill_rel _ hp hz2 h
          refine ⟨r', ?_, e2⟩
          simp only [hT.und hu, hz, hT.ty e ie hie]
          exact e1
        · cases h
      · rename_i fields hu
        split at h
        · rename_i places hpl
          obtain ⟨r', e1, e2⟩ := fill_rel _ hp hz2 h
          refine ⟨r', ?_, e2⟩
          simp only [hT.und hu, hz, placesA_ok hT hpl]
          exact e1
        · cases h
      · cases h
    · cases h
  · cases h
def o_build (t : TypeId) (parts : List (Nat × Operand)) : OpF := fun T A H => match evP A parts with
  | some ps => (match builtA T t ps with
    | some r => some (.agg r, H)
    | none => none)
  | none => none
theorem parts_map (a : Act) (parts : Array (Nat × Operand)) : (parts.map fun (p : Nat × Operand) => (p.1, a.eval p.2)).toList = parts.toList.map fun p => (p.1, a.eval p.2) := by simp
theorem build_ok {P : Program} {T : Cx} (hT : Fits P T) {o : Oper} {t : TypeId} {parts : Array (Nat × Operand)} (h : o.op = .build t parts) : SoundP ds P T o (o_build t parts.toList) := fun A H v H' hf E a ha => by
  unfold o_build at hf
  split at hf
  · rename_i ps hps
    split at hf
    · rename_i r hb; cases hf
      obtain ⟨r', e1, e2⟩ := builtA_ok hT hb (evP_ok ha hps)
      refine pure_ok (v' := .agg r') (fun w => ?_) (by have z := VR.agg e2; simpa using z)
      have hrun := run_build (P := P) w t (parts.map fun (p : Nat × Operand) => (p.1, a.eval p.2)) r' (by rw [parts_map]; exact e1)
      simp [execOp, h, hrun]
    · cases hf
  · cases hf
def o_buildSlice (t : TypeId) (len : Nat) (parts : List (Nat × Operand)) : OpF := fun T A H => match T.und t with
  | some (.slice e) => (match T.ty.get e with
    | some ie => (match ie.zero with
      | some z => ite' (plainL ((Array.range (len * ie.size)).map (z.cells[· % z.cells.size]!)).toList) (ite' (Nat.ble (len * ie.size) 16777216) (ite' (Nat.beq (len * ie.size) 0) (match parts with
        | [] => ite' (Nat.beq len 0) (some (.slice (some ⟨H.next, 0, none⟩) 0 0, newRowB H e [])) none
        | _ => none) (match evP A parts with
        | some ps => (match Instr.fill (fun i => some (i * ie.size, ie.size)) ((Array.range (len * ie.size)).map (z.cells[· % z.cells.size]!)) ps with
          | some r => some (.slice (some ⟨H.next, 0, none⟩) len len, newRowB H e r.toList)
          | none => none)
        | none => none)) none) none
      | none => none)
    | none => none)
  | _ => none
theorem new_slice {E : Env} {H : Hp} {w : World} (hn : (E.add H.next w.heap.size 0).s H.next = w.heap.size) (l c : Nat) (hc : c < OPN) : VR (E.add H.next w.heap.size 0) (H.next + 1) (.slice (some ⟨H.next, 0, none⟩) l c) (.slice (some ⟨w.heap.size, 0, none⟩) l c) := by
  have z := VR.slice (E := E.add H.next w.heap.size 0) (N := H.next + 1) (o := 0) (l := l) (Nat.lt_succ_self H.next) hc
  rw [hn] at z; exact z
theorem buildSlice_ok {P : Program} {T : Cx} (hT : Fits P T) {o : Oper} {t : TypeId} {len : Nat} {parts : Array (Nat × Operand)} (h : o.op = .buildSlice t len parts) : Sound ds P T o (o_buildSlice t len parts.toList) := fun A H v H' hf E a w ha hr => by
  unfold o_buildSlice at hf
  split at hf
  · rename_i e hu
    split at hf
    · rename_i ie hie
      split at hf
      · rename_i z hz
        obtain ⟨h1, hf⟩ := ite'_some hf
        obtain ⟨h2, hf⟩ := ite'_some hf
        cases h3 : Nat.beq (len * ie.size) 0 with
        | true =>
          rw [h3, ite'_true] at hf
          split at hf
          · rename_i hps
            obtain ⟨h4, hf3⟩ := ite'_some hf
            have hl0 := Nat.eq_of_beq_eq_true h4
            clear hf
            cases hf3
            have hps2 : parts = #[] := by
              apply Array.ext'; simpa using hps
            subst hl0
            obtain ⟨g1, g2, g3⟩ := newRow_ok hr (VL.nil (E := E) (N := H.next)) e
            refine ⟨_, .slice (some ⟨w.heap.size, 0, none⟩) 0 0, _, _, ?_, .inl rfl, g2, new_slice g3 0 0 (by decide), g1⟩
            have hr0 : Array.range 0 = #[] := rfl
            simp [execOp, h, hps2, Instr.buildSlice, run_underlying (hT.und hu), sizeOf, typeInfo, hT.ty e ie hie, Instr.fill, newRow, hr0]
          · cases hf
        | false =>
        rw [h3, ite'_false] at hf
        split at hf
        · rename_i ps hps
          split at hf
          · rename_i r hfl; cases hf
            obtain ⟨r', e1, e2⟩ := fill_rel _ (evP_ok ha hps) (plainL_ok (E := E) (N := H.next) h1) hfl
            obtain ⟨g1, g2, g3⟩ := newRow_ok hr e2 e
            have h0 : ¬ len * ie.size = 0 := fun h0 => by rw [h0] at h3; cases h3
            have hle := Nat.le_of_ble_eq_true h2
            have hlen : len < OPN := by
              have : len ≤ len * ie.size := Nat.le_mul_of_pos_right _ (Nat.pos_of_ne_zero fun e0 => h0 (by rw [e0]; rfl))
              unfold OPN; omega
            refine ⟨_, .slice (some ⟨w.heap.size, 0, none⟩) len len, _, _, ?_, .inl rfl, g2, new_slice g3 len len hlen, g1⟩
            have hrun := run_buildSlice (P := P) w t e len (parts.map fun (p : Nat × Operand) => (p.1, a.eval p.2)) r' ie z (hT.und hu) (hT.ty e ie hie) hz (by omega) h0 (by rw [parts_map]; exact e1)
            simp [execOp, h, hrun]
          · cases hf
        · cases hf
      · cases hf
    · cases hf
  · cases hf
def optB (x : Option Value) (d : Nat) : Option Nat := match x with
  | none => some d
  | some (.int _ (.ofNat n)) => some n
  | _ => none
/-- an operand that may lack. -/
def evO (A : AA) (x : Option Operand) : Option (Option Value) := match x with
  | none => some none
  | some x => (match ev A x with
    | some v => some (some v)
    | none => none)
def hmOk (hi mx : Option Value) : Bool := match mx with
  | none => true
  | some _ => (match hi with
    | none => false
    | some _ => true)
def sliceV (v : Value) (e : Nat) (lo hi mx : Option Value) : Option Value := match v with
  | .slice none _ _ => (match optB mx 0 with
    | some m => (match optB hi 0 with
      | some h => (match optB lo 0 with
        | some l => ite' (Nat.beq m 0) (ite' (Nat.beq h 0) (ite' (Nat.beq l 0) (some (.slice none 0 0)) none) none) none
        | none => none)
      | none => none)
    | none => none)
  | .slice (some p) len cap => ite' (Nat.ble cap OPN)
    (match optB mx cap with
    | some m => (match optB hi len with
      | some h => (match optB lo 0 with
        | some l => ite' (Nat.ble l h) (ite' (Nat.ble h m) (ite' (Nat.ble m cap) (some (.slice (some ⟨p.block, ite' (Nat.beq m l) p.off (Nat.add p.off (Nat.mul l e)), none⟩) (Nat.sub h l) (Nat.sub m l))) none) none) none
        | none => none)
      | none => none)
    | none => none)
    (match mx with
    | none => (match optB hi len with
      | some h => (match optB lo 0 with
        | some l => ite' (Nat.ble l h) (ite' (Nat.ble h len) (ite' (ite' (Nat.beq l 0) true (Nat.ble (Nat.succ l) len)) (ite' (Nat.beq cap (Nat.add OPN e)) (some (.slice (some ⟨p.block, Nat.add p.off (Nat.mul l e), none⟩) (Nat.sub h l) cap)) none) (some (.chan none))) none) none
        | none => none)
      | none => none)
    | some _ => (match optB mx 0 with
      | some m => (match optB hi len with
        | some h => (match optB lo 0 with
          | some l => ite' (Nat.ble l h) (ite' (Nat.ble h m) (ite' (Nat.ble m len) (ite' (Nat.ble (Nat.succ m) OPN) (some (.slice (some ⟨p.block, ite' (Nat.beq m l) p.off (Nat.add p.off (Nat.mul l e)), none⟩) (Nat.sub h l) (Nat.sub m l))) none) none) none) none
          | none => none)
        | none => none)
      | none => none))
  | _ => none
def o_slice (t : TypeId) (x : Operand) (lo hi mx : Option Operand) : OpF := fun T A H => match ev A x with
  | some v => (match evO A lo with
    | some lo => (match evO A hi with
      | some hi => (match evO A mx with
        | some mx => (match T.und t with
          | some (.slice e) => (match T.ty.get e with
            | some i => ite' (hmOk hi mx) (withH (sliceV v i.size lo hi mx) H) none
            | none => none)
          | _ => none)
        | none => none)
      | none => none)
    | none => none)
  | none => none
theorem evO_ok {E : Env} {N : Nat} {A : AA} {a : Act} (h : AR ds E N A a) {x : Option Operand} {v : Option Value} (hv : evO A x = some v) : (x = none ∧ v = none) ∨ ∃ y u, x = some y ∧ v = some u ∧ VR E N u (a.eval y) := by
  unfold evO at hv
  split at hv
  · cases hv; exact .inl ⟨rfl, rfl⟩
  · split at hv
    · rename_i u hu; cases hv; exact .inr ⟨_, _, rfl, rfl, ev_ok h hu⟩
    · cases hv
theorem optB_ok {E : Env} {N : Nat} {A : AA} {a : Act} (h : AR ds E N A a) {x : Option Operand} {v : Option Value} (hv : evO A x = some v) {d n : Nat} (hb : optB v d = some n) : (x.map a.eval = none ∧ v = none ∧ n = d) ∨ ∃ k, x.map a.eval = some (.int k n) := by
  rcases evO_ok h hv with ⟨rfl, rfl⟩ | ⟨y, u, rfl, rfl, r⟩
  · cases hb; exact .inl ⟨rfl, rfl, rfl⟩
  · right
    unfold optB at hb
    split at hb
    · rename_i e; cases e
    · rename_i k m e
      cases e; cases hb
      exact ⟨k, by simp [r.int]⟩
    · cases hb
theorem bound_run {P : Program} {w : World} {k : IntKind} {n y : Nat} {code : BoundsCode} (h : n ≤ y) : (Instr.sliceBound (.int k n) y code).run P w = .ok n w := by
  simp [Instr.sliceBound, asIntOf, h]
theorem bounds_run {P : Program} {w : World} {len cap l h m : Nat} {lo hi mx : Option Value} (hm : (mx = none ∧ m = cap) ∨ ∃ k, mx = some (.int k m)) (hh : (hi = none ∧ h = len ∧ mx = none) ∨ ∃ k, hi = some (.int k h)) (hl : (lo = none ∧ l = 0) ∨ ∃ k, lo = some (.int k l)) (h1 : l ≤ h) (h2 : h ≤ m) (h3 : m ≤ cap) :
    (Instr.sliceBounds true len cap lo hi mx).run P w = .ok (l, h, m) w := by
  unfold Instr.sliceBounds
  rcases hm with ⟨rfl, rfl⟩ | ⟨k1, rfl⟩ <;> rcases hh with ⟨rfl, rfl, e⟩ | ⟨k2, rfl⟩ <;> rcases hl with ⟨rfl, rfl⟩ | ⟨k3, rfl⟩ <;> (try cases e) <;> simp [bound_run, h1, h2, h3]
theorem slice_ok {P : Program} {T : Cx} (hT : Fits P T) {o : Oper} {t : TypeId} {x : Operand} {lo hi mx : Option Operand} (h : o.op = .slice t x lo hi mx) : SoundP ds P T o (o_slice t x lo hi mx) := fun A H v H' hf E a ha => by
  unfold o_slice at hf
  split at hf
  · rename_i u hu
    split at hf
    · rename_i lo' hlo
      split at hf
      · rename_i hi' hhi
        split at hf
        · rename_i mx' hmx
          split at hf
          · rename_i e ht
            split at hf
            · rename_i i hi2
              obtain ⟨hhm, hf1⟩ := ite'_some hf
              clear hf
              obtain ⟨hf2, e0⟩ := withH_some hf1
              subst e0
              clear hf1
              have hhi2 : ∀ {h0 len : Nat}, optB hi' len = some h0 → (hi.map a.eval = none ∧ h0 = len ∧ mx.map a.eval = none) ∨ ∃ k, hi.map a.eval = some (.int k h0) := fun {h0 len} hh => by
                rcases optB_ok ha hhi hh with z | z
                · refine .inl ⟨z.1, z.2.2, ?_⟩
                  unfold hmOk at hhm
                  rcases evO_ok ha hmx with ⟨rfl, rfl⟩ | ⟨y, u2, rfl, rfl, _⟩
                  · rfl
                  · rw [z.2.1] at hhm; cases hhm
                · exact .inr z
              have hv := ev_ok ha hu
              have hP := hT.und ht
              have hI := hT.ty e i hi2
              unfold sliceV at hf2
              split at hf2
              · obtain ⟨q1, q2, q3⟩ := hv.snil
                subst q1 q2
                split at hf2
                · rename_i m hm
                  split at hf2
                  · rename_i h0 hh
                    split at hf2
                    · rename_i l hl
                      obtain ⟨z1, f1⟩ := ite'_some hf2
                      obtain ⟨z2, f2⟩ := ite'_some f1
                      obtain ⟨z3, f3⟩ := ite'_some f2
                      cases f3
                      have m0 := Nat.eq_of_beq_eq_true z1
                      have hh0 := Nat.eq_of_beq_eq_true z2
                      have l0 := Nat.eq_of_beq_eq_true z3
                      subst m0 hh0 l0
                      refine pure_ok (v' := .slice none 0 0) (fun w => ?_) (.same rfl)
                      have hb := bounds_run (P := P) (w := w) (len := 0) (cap := 0) (l := 0) (h := 0) (m := 0) (lo := lo.map a.eval) (hi := hi.map a.eval) (mx := mx.map a.eval)
                        ((optB_ok ha hmx hm).imp (fun z => ⟨z.1, rfl⟩) id) (hhi2 hh) ((optB_ok ha hlo hl).imp (fun z => ⟨z.1, rfl⟩) id) (Nat.le_refl _) (Nat.le_refl _) (Nat.le_refl _)
                      simp [execOp, h, Instr.sliceAt, Instr.slice, run_underlying hP, q3, hb, sizeOf, typeInfo, hI]
                    · cases hf2
                  · cases hf2
                · cases hf2
              · rename_i p len cap
                obtain ⟨hsp, hpb, c', q3, hc⟩ := hv.sl
                cases hcb : Nat.ble cap OPN with
                | true =>
                  rw [hcb, ite'_true] at hf2
                  have hle := Nat.le_of_ble_eq_true hcb
                  obtain ⟨hc1, hc2⟩ : cap < OPN ∧ c' = cap := by
                    rcases hc with z | z
                    · exact z
                    · omega
                  subst hc2
                  split at hf2
                  · rename_i m hm
                    split at hf2
                    · rename_i h0 hh
                      split at hf2
                      · rename_i l hl
                        obtain ⟨z1, f1⟩ := ite'_some hf2
                        obtain ⟨z2, f2⟩ := ite'_some f1
                        obtain ⟨z3, f3⟩ := ite'_some f2
                        cases f3
                        have k1 := Nat.le_of_ble_eq_true z1
                        have k2 := Nat.le_of_ble_eq_true z2
                        have k3 := Nat.le_of_ble_eq_true z3
                        have hb := fun w => bounds_run (P := P) (w := w) (len := len) (cap := c') (l := l) (h := h0) (m := m) (lo := lo.map a.eval) (hi := hi.map a.eval) (mx := mx.map a.eval)
                          ((optB_ok ha hmx hm).imp (fun z => ⟨z.1, z.2.2⟩) id) (hhi2 hh) ((optB_ok ha hlo hl).imp (fun z => ⟨z.1, z.2.2⟩) id) k1 k2 k3
                        have hoff : ite' (Nat.beq m l) p.off (Nat.add p.off (Nat.mul l i.size)) = if m = l then p.off else p.off + l * i.size := by
                          rw [beq_dec]
                          by_cases e1 : m = l
                          · rw [if_pos e1, decide_eq_true e1]
                          · rw [if_neg e1, decide_eq_false e1]; rfl
                        rw [hoff]
                        refine pure_ok (v' := .slice (some ⟨E.s p.block, if m = l then p.off else p.off + l * i.size, none⟩) (h0 - l) (m - l)) (fun w => ?_) (.slice hpb (show m - l < OPN by omega))
                        by_cases e1 : m = l
                        · simp [execOp, h, Instr.sliceAt, Instr.slice, run_underlying hP, q3, hb w, sizeOf, typeInfo, hI, e1]
                        · simp [execOp, h, Instr.sliceAt, Instr.slice, run_underlying hP, q3, hb w, sizeOf, typeInfo, hI, e1, add_plain']
                      · cases hf2
                    · cases hf2
                  · cases hf2
                | false =>
                  rw [hcb, ite'_false] at hf2
                  have hgt := ble_false hcb
                  obtain ⟨hc1, hc2, hc3⟩ : OPN < cap ∧ len ≤ c' ∧ p.off + c' * (cap - OPN) = E.k p.block := by
                    rcases hc with z | z
                    · omega
                    · exact z
                  split at hf2
                  · split at hf2
                    · rename_i h0 hh
                      split at hf2
                      · rename_i l hl
                        obtain ⟨z1, f1⟩ := ite'_some hf2
                        obtain ⟨z2, f2⟩ := ite'_some f1
                        have k1 := Nat.le_of_ble_eq_true z1
                        have k2 := Nat.le_of_ble_eq_true z2
                        have hmx0 : mx.map a.eval = none := by
                          rcases evO_ok ha hmx with ⟨rfl, _⟩ | ⟨y, u2, rfl, e1, _⟩
                          · rfl
                          · cases e1
                        have hb := fun w => bounds_run (P := P) (w := w) (len := len) (cap := c') (l := l) (h := h0) (m := c') (lo := lo.map a.eval) (hi := hi.map a.eval) (mx := mx.map a.eval)
                          (.inl ⟨hmx0, rfl⟩) (hhi2 hh) ((optB_ok ha hlo hl).imp (fun z => ⟨z.1, z.2.2⟩) id) k1 (Nat.le_trans k2 hc2) (Nat.le_refl _)
                        cases z3 : ite' (Nat.beq l 0) true (Nat.ble (Nat.succ l) len) with
                        | false =>
                          rw [z3, ite'_false] at f2
                          cases f2
                          have hll : h0 - l = 0 := by
                            cases hb0 : Nat.beq l 0 with
                            | true => rw [hb0] at z3; cases z3
                            | false =>
                              rw [hb0, ite'_false] at z3
                              have := ble_false z3
                              omega
                          refine pure_ok (v' := .slice (some ⟨E.s p.block, if c' = l then p.off else p.off + l * i.size, none⟩) 0 (c' - l)) (fun w => ?_) .tail
                          by_cases e1 : c' = l
                          · have hbw := hb w
                            rw [e1] at hbw
                            simp [execOp, h, Instr.sliceAt, Instr.slice, run_underlying hP, q3, hbw, sizeOf, typeInfo, hI, e1, hll]
                          · simp [execOp, h, Instr.sliceAt, Instr.slice, run_underlying hP, q3, hb w, sizeOf, typeInfo, hI, e1, add_plain', hll]
                        | true =>
                        rw [z3, ite'_true] at f2
                        obtain ⟨z4, f4⟩ := ite'_some f2
                        cases f4
                        have k4 : cap = OPN + i.size := Nat.eq_of_beq_eq_true z4
                        have k3 : l = 0 ∨ l < len := by
                          cases hb0 : Nat.beq l 0 with
                          | true => exact .inl (Nat.eq_of_beq_eq_true hb0)
                          | false => rw [hb0, ite'_false] at z3; exact .inr (ble_lt z3)
                        rw [k4, Nat.add_sub_cancel_left] at hc3
                        have hoff : (if c' = l then p.off else p.off + l * i.size) = p.off + l * i.size := by
                          split
                          · rename_i e1
                            have : l = 0 := by omega
                            rw [this]; simp
                          · rfl
                        refine pure_ok (v' := .slice (some ⟨E.s p.block, p.off + l * i.size, none⟩) (h0 - l) (c' - l)) (fun w => ?_) ?_
                        · by_cases e1 : c' = l
                          · have e2 : p.off + l * i.size = p.off := by rw [if_pos e1] at hoff; exact hoff.symm
                            have hbw := hb w
                            rw [e1] at hbw
                            simp [execOp, h, Instr.sliceAt, Instr.slice, run_underlying hP, q3, hbw, sizeOf, typeInfo, hI, e1, e2]
                          · simp [execOp, h, Instr.sliceAt, Instr.slice, run_underlying hP, q3, hb w, sizeOf, typeInfo, hI, e1, add_plain']
                        · refine .open_ hpb hc1 (show h0 - l ≤ c' - l by omega) ?_
                          show p.off + l * i.size + (c' - l) * (cap - OPN) = _
                          rw [k4, Nat.add_sub_cancel_left, ← hc3, Nat.add_assoc, ← Nat.add_mul]
                          congr 2; omega
                      · cases hf2
                    · cases hf2
                  · split at hf2
                    · rename_i m hm
                      split at hf2
                      · rename_i h0 hh
                        split at hf2
                        · rename_i l hl
                          obtain ⟨z1, f1⟩ := ite'_some hf2
                          obtain ⟨z2, f2⟩ := ite'_some f1
                          obtain ⟨z3, f3⟩ := ite'_some f2
                          obtain ⟨z4, f4⟩ := ite'_some f3
                          cases f4
                          have k1 := Nat.le_of_ble_eq_true z1
                          have k2 := Nat.le_of_ble_eq_true z2
                          have k3 := Nat.le_of_ble_eq_true z3
                          have k4 : m + 1 ≤ OPN := Nat.le_of_ble_eq_true z4
                          have hb := fun w => bounds_run (P := P) (w := w) (len := len) (cap := c') (l := l) (h := h0) (m := m) (lo := lo.map a.eval) (hi := hi.map a.eval) (mx := mx.map a.eval)
                            ((optB_ok ha hmx hm).elim (fun z => by cases z.2.1) fun z => .inr z) (hhi2 hh) ((optB_ok ha hlo hl).imp (fun z => ⟨z.1, z.2.2⟩) id) k1 k2 (Nat.le_trans k3 hc2)
                          have hoff : ite' (Nat.beq m l) p.off (Nat.add p.off (Nat.mul l i.size)) = if m = l then p.off else p.off + l * i.size := by
                            rw [beq_dec]
                            by_cases e1 : m = l
                            · rw [if_pos e1, decide_eq_true e1]
                            · rw [if_neg e1, decide_eq_false e1]; rfl
                          rw [hoff]
                          refine pure_ok (v' := .slice (some ⟨E.s p.block, if m = l then p.off else p.off + l * i.size, none⟩) (h0 - l) (m - l)) (fun w => ?_) (.slice hpb (show m - l < OPN by omega))
                          by_cases e1 : m = l
                          · simp [execOp, h, Instr.sliceAt, Instr.slice, run_underlying hP, q3, hb w, sizeOf, typeInfo, hI, e1]
                          · simp [execOp, h, Instr.sliceAt, Instr.slice, run_underlying hP, q3, hb w, sizeOf, typeInfo, hI, e1, add_plain']
                        · cases hf2
                      · cases hf2
                    · cases hf2
              · cases hf2
            · cases hf
          · cases hf
        · cases hf
      · cases hf
    · cases hf
  · cases hf
end
end Go.Proofs.YtdkfimejabanlaaDoor
namespace Go.Proofs.YtdkfimejabanlaaDoor
open Go
set_option linter.unusedVariables false
set_option linter.unusedSimpArgs false
noncomputable section
variable {ds : List Deferred}
theorem HRel.congr {E : Env} {H H' : Hp} {w : World} (h : HRel E H w) (hb : ∀ b, H'.b.get b = H.b.get b) (hn : H'.next = H.next) : HRel E H' w :=
  ⟨fun b x hx => by rw [hn]; exact h.lt b x (by rw [← hb]; exact hx), fun b x hx => by rw [hn]; exact h.rel b x (by rw [← hb]; exact hx), fun b b' x x' h1 h2 he => h.inj b b' x x' (by rw [← hb]; exact h1) (by rw [← hb]; exact h2) he⟩
theorem Gd.congr {E E' : Env} {H H1 H2 : Hp} {w w' : World} (h : Gd E E' H H1 w w') (hb : ∀ b, H2.b.get b = H1.b.get b) (hn : H2.next = H1.next) : Gd E E' H H2 w w' :=
  ⟨by rw [hn]; exact h.le, h.ag, fun b x hx => h.dom b x (by rw [← hb]; exact hx), h.os, h.tape, h.output, h.size, h.frame⟩
theorem HRel.drop {E : Env} {H : Hp} {w : World} (h : HRel E H w) (b0 : Nat) : HRel E ⟨H.b.put b0 none, H.next⟩ w ∧ Gd E E H ⟨H.b.put b0 none, H.next⟩ w w := by
  have key : ∀ b x, (H.b.put b0 none).get b = some x → H.b.get b = some x := fun b x hx => by
    rw [Tr.get_put] at hx
    split at hx
    · cases hx
    · exact hx
  exact ⟨⟨fun b x hx => h.lt b x (key b x hx), fun b x hx => h.rel b x (key b x hx), fun b b' x x' h1 h2 he => h.inj b b' x x' (key b x h1) (key b' x' h2) he⟩,
    ⟨Nat.le_refl _, Agree.refl _ _, fun b x hx => .inl ⟨b, x, key b x hx, id, rfl⟩, rfl, rfl, rfl, Nat.le_refl _, fun _ _ _ => rfl⟩⟩
/-- a block gets a new number. -/
theorem HRel.renum {E : Env} {H : Hp} {w : World} (h : HRel E H w) {b0 : Nat} {x0 : Blk} (hb : H.b.get b0 = some x0) :
    HRel (E.add H.next (E.s b0) (E.k b0)) ⟨(H.b.put b0 none).put H.next (some x0), H.next + 1⟩ w ∧ Gd E (E.add H.next (E.s b0) (E.k b0)) H ⟨(H.b.put b0 none).put H.next (some x0), H.next + 1⟩ w w := by
  have hlt := h.lt _ _ hb
  have hs : (E.add H.next (E.s b0) (E.k b0)).s H.next = E.s b0 := by simp [Env.add]
  have hk : (E.add H.next (E.s b0) (E.k b0)).k H.next = E.k b0 := by simp [Env.add]
  have hne : ∀ b, b < H.next → (E.add H.next (E.s b0) (E.k b0)).s b = E.s b := fun b hb => (Env.add_agree E H.next (E.s b0) (E.k b0) b hb).1
  have key : ∀ b x, ((H.b.put b0 none).put H.next (some x0)).get b = some x → (b = H.next ∧ x = x0) ∨ (b ≠ H.next ∧ b ≠ b0 ∧ H.b.get b = some x) := fun b x hx => by
    rw [Tr.get_put] at hx
    split at hx
    · rename_i e; cases hx; exact .inl ⟨e, rfl⟩
    · rename_i e
      rw [Tr.get_put] at hx
      split at hx
      · cases hx
      · rename_i e2; exact .inr ⟨e, e2, hx⟩
  refine ⟨⟨fun b x hx => ?_, fun b x hx => ?_, fun b b' x x' h1 h2 he => ?_⟩, ⟨Nat.le_succ _, Env.add_agree _ _ _ _, fun b x hx => ?_, rfl, rfl, rfl, Nat.le_refl _, fun _ _ _ => rfl⟩⟩
  · rcases key b x hx with ⟨e, _⟩ | ⟨_, _, h1⟩
    · show b < H.next + 1; omega
    · have := h.lt b x h1; show b < H.next + 1; omega
  · rcases key b x hx with ⟨e, e2⟩ | ⟨_, _, h1⟩
    · subst e e2
      rw [hs]
      have := h.rel _ _ hb
      unfold BR at this ⊢
      split at this
      · obtain ⟨cs, fz, g1, g2, g3, g4, g5⟩ := this
        exact ⟨cs, fz, g1, g2, g3, by rw [hk]; exact g4, fun i v hi hv => by obtain ⟨v', e, r⟩ := g5 i v hi hv; exact ⟨v', e, r.mono (Env.add_agree _ _ _ _) (Nat.le_succ _)⟩⟩
      · obtain ⟨es', g1, g2⟩ := this
        exact ⟨es', g1, g2.mono (Env.add_agree _ _ _ _) (Nat.le_succ _)⟩
      · exact this
      · obtain ⟨cs, e, fz, g1, g2⟩ := this
        exact ⟨cs, e, fz, g1, fun i v hv => by obtain ⟨v', e, r⟩ := g2 i v hv; exact ⟨v', e, r.mono (Env.add_agree _ _ _ _) (Nat.le_succ _)⟩⟩
    · rw [hne b (h.lt _ _ h1)]
      exact (h.rel _ _ h1).mono (Env.add_agree _ _ _ _) (Nat.le_succ _) (h.lt _ _ h1)
  · rcases key b x h1 with ⟨e, _⟩ | ⟨n1, n2, g1⟩ <;> rcases key b' x' h2 with ⟨e', _⟩ | ⟨n1', n2', g1'⟩
    · omega
    · subst e
      rw [hs, hne b' (h.lt _ _ g1')] at he
      exact absurd (h.inj _ _ _ _ hb g1' he).symm n2'
    · subst e'
      rw [hs, hne b (h.lt _ _ g1)] at he
      exact absurd (h.inj _ _ _ _ g1 hb he) n2
    · rw [hne b (h.lt _ _ g1), hne b' (h.lt _ _ g1')] at he
      exact h.inj _ _ _ _ g1 g1' he
  · rcases key b x hx with ⟨e, e2⟩ | ⟨_, _, h1⟩
    · subst e; exact .inl ⟨b0, x0, hb, fun hw => e2 ▸ hw, hs⟩
    · exact .inl ⟨b, x, h1, id, hne b (h.lt _ _ h1)⟩
/-- a block holds something else, in memory too. -/
theorem HRel.upd {E : Env} {H : Hp} {w w' : World} (h : HRel E H w) {b0 : Nat} {x0 x1 : Blk} (hb : H.b.get b0 = some x0) (hx : BR E H.next b0 x1 w'.heap[E.s b0]?) (ho : ∀ i, i ≠ E.s b0 → w'.heap[i]? = w.heap[i]?)
    (h1 : w'.os = w.os) (h2 : w'.tape = w.tape) (h3 : w'.output = w.output) (h4 : w.heap.size ≤ w'.heap.size) (h5 : wr x0 = true) : HRel E ⟨H.b.put b0 (some x1), H.next⟩ w' ∧ Gd E E H ⟨H.b.put b0 (some x1), H.next⟩ w w' := by
  have key : ∀ b x, (H.b.put b0 (some x1)).get b = some x → (b = b0 ∧ x = x1) ∨ (b ≠ b0 ∧ H.b.get b = some x) := fun b x hx => by
    rw [Tr.get_put] at hx
    split at hx
    · rename_i e; cases hx; exact .inl ⟨e, rfl⟩
    · rename_i e; exact .inr ⟨e, hx⟩
  have dom : ∀ b x, (H.b.put b0 (some x1)).get b = some x → ∃ x', H.b.get b = some x' := fun b x hx => by
    rcases key b x hx with ⟨e, _⟩ | ⟨_, g⟩
    · subst e; exact ⟨_, hb⟩
    · exact ⟨_, g⟩
  refine ⟨⟨fun b x hx => ?_, fun b x hx => ?_, fun b b' x x' g1 g2 he => ?_⟩, ⟨Nat.le_refl _, Agree.refl _ _, fun b x hx => ?_, h1, h2, h3, h4, fun i hi hf => ho i (fun e => hf b0 x0 hb h5 e.symm)⟩⟩
  · obtain ⟨x', g⟩ := dom b x hx; exact h.lt b x' g
  · rcases key b x hx with ⟨e, e2⟩ | ⟨n, g⟩
    · subst e e2; assumption
    · rw [ho _ (fun e => n (h.inj _ _ _ _ g hb e))]; exact h.rel b x g
  · obtain ⟨y, g⟩ := dom b x g1
    obtain ⟨y', g'⟩ := dom b' x' g2
    exact h.inj b b' y y' g g' he
  · rcases key b x hx with ⟨e, _⟩ | ⟨_, g⟩
    · subst e; exact .inl ⟨_, x0, hb, fun _ => h5, rfl⟩
    · exact .inl ⟨b, x, g, id, rfl⟩
theorem cap_ge (w : World) (need old : Nat) (e : TypeId) : need ≤ grownCap w need old e := by
  show need ≤ need + _
  exact Nat.le_add_right _ _
/-- a row that has grown into new memory. -/
theorem grown_new {E : Env} {H : Hp} {w : World} (hr : HRel E H w) {l l' : List Value} (hl : VL E H.next l l') {e : TypeId} {z : Array Value} {n c size : Nat} (hn : l.length = n * size) (hz : z.size = size) (hc : n ≤ c) :
    HRel (E.add H.next w.heap.size (c * size)) (H.new (.row (Tr.lay l 0 .nil) (n * size) e true)) (w.drew.alloc (.cells (l'.toArray ++ Builtin.zeroCells z (c - n)) e)) ∧
    Gd E (E.add H.next w.heap.size (c * size)) H (H.new (.row (Tr.lay l 0 .nil) (n * size) e true)) w (w.drew.alloc (.cells (l'.toArray ++ Builtin.zeroCells z (c - n)) e)) ∧
    (0 < size → VR (E.add H.next w.heap.size (c * size)) (H.next + 1) (.slice (some ⟨H.next, 0, none⟩) n (OPN + size)) (.slice (some ⟨w.heap.size, 0, none⟩) n c)) := by
  have h2 : VL (E.add H.next w.heap.size (c * size)) (H.next + 1) l l' := hl.mono (Env.add_agree _ _ _ _) (Nat.le_succ _)
  have hln := hl.length
  have hs : (E.add H.next w.heap.size (c * size)).s H.next = w.heap.size := by simp [Env.add]
  have hk : (E.add H.next w.heap.size (c * size)).k H.next = c * size := by simp [Env.add]
  have hzs : (Builtin.zeroCells z (c - n)).size = (c - n) * size := by simp [Builtin.zeroCells, hz]
  have hsz : (l'.toArray ++ Builtin.zeroCells z (c - n)).size = c * size := by
    rw [Array.size_append, hzs, List.size_toArray, ← hln, hn, ← Nat.add_mul]
    congr 1; omega
  have hrd : HRel E H w.drew := hr.heap rfl
  obtain ⟨g1, g2⟩ := hrd.new (x := .row (Tr.lay l 0 .nil) (n * size) e true) (o := .cells (l'.toArray ++ Builtin.zeroCells z (c - n)) e) (k := c * size)
    ⟨_, (0, 0), rfl, ⟨fun i _ hh => by omega, fun _ => rfl⟩, by rw [hsz]; exact Nat.mul_le_mul_right _ hc, by rw [hsz]; simp [Env.add], fun i v hi hv => by
      obtain ⟨v', e1, r⟩ := map_rows h2 i v hv
      exact ⟨v', by rw [Array.getElem?_append_left (by have := (Array.getElem?_eq_some_iff.1 e1).1; exact this)]; exact e1, r⟩⟩
  refine ⟨g1, ⟨g2.le, g2.ag, g2.dom, g2.os, g2.tape, g2.output, g2.size, g2.frame⟩, fun hp => ?_⟩
  have z1 := VR.open_ (E := E.add H.next w.heap.size (c * size)) (N := H.next + 1) (b := H.next) (o := 0) (l := n) (c := OPN + size) (c' := c) (Nat.lt_succ_self _) (by omega) hc (by rw [hk]; simp [Nat.add_sub_cancel_left])
  rw [hs] at z1; exact z1
theorem splice_get {a : Nat} {cur : Array Value} {m : List Value} (h : a + m.length ≤ cur.size) (i : Nat) : ((cur.toList.take a ++ m ++ cur.toList.drop (a + m.length)).toArray)[i]? = if i < a then cur[i]? else if i < a + m.length then m[i - a]? else cur[i]? := by
  rw [List.getElem?_toArray, List.append_assoc]
  by_cases h1 : i < a
  · rw [if_pos h1, List.getElem?_append_left (by simp; omega), List.getElem?_take_of_lt h1, Array.getElem?_toList]
  · have hl : (cur.toList.take a).length = a := by simp; omega
    rw [if_neg h1, List.getElem?_append_right (by omega), hl]
    by_cases h2 : i < a + m.length
    · rw [if_pos h2, List.getElem?_append_left (by omega)]
    · rw [if_neg h2, List.getElem?_append_right (by omega), List.getElem?_drop, Array.getElem?_toList]
      congr 1; omega
def growOpen (H : Hp) (p : Addr) (len c : Nat) (more : List Value) (n : Nat) (e : TypeId) (size : Nat) : Option (Value × Hp) := match H.b.get p.block with
  | some (.row cc k e' true) => ite' (Nat.beq e' e) (ite' (Nat.ble (Nat.mul len size) k) (some (.slice (some ⟨H.next, 0, none⟩) (Nat.add len n) c, ⟨(H.b.put p.block none).put H.next (some (.row (Tr.lay more (Nat.mul len size) cc) (Nat.mul (Nat.add len n) size) e true)), Nat.succ H.next⟩)) none) none
  | _ => none
def growNew (H : Hp) (l : List Value) (n : Nat) (e : TypeId) (size : Nat) : Option (Value × Hp) := some (.slice (some ⟨H.next, 0, none⟩) n (Nat.add OPN size), H.new (.row (Tr.lay l 0 .nil) (Nat.mul n size) e true))
def appendS (H : Hp) (s : Value) (more : List Value) (n : Nat) (e : TypeId) (size : Nat) : Option (Value × Hp) := match s with
  | .slice none _ _ => growNew H more n e size
  | .slice (some p) len c => ite' (Nat.ble c OPN)
      (ite' (Nat.ble (Nat.add len n) c)
        (match Hp.storeAll more H p.block (Nat.add p.off (Nat.mul len size)) with
          | some H' => some (.slice (some p) (Nat.add len n) c, H')
          | none => none)
        (match H.cells p.block p.off (Nat.mul len size) with
          | some olds => growNew H (List.append olds more) (Nat.add len n) e size
          | none => none))
      (ite' (Nat.beq p.off 0) (ite' (Nat.beq c (Nat.add OPN size)) (growOpen H p len c more n e size) none) none)
  | _ => none
/-- how long a slice is. -/
def lenS : Value → Nat
  | .slice _ n _ => n
  | _ => 0
def appendA (T : Cx) (H : Hp) (t : TypeId) (s : Value) (more : List Value) (n : Nat) : Option (Value × Hp) := match T.und t with
  | some (.slice e) => (match T.ty.get e with
    | some i => (match i.zero with
      | some z => ite' (Nat.beq z.cells.toList.length i.size) (ite' (Nat.beq i.size 0) none (ite' (Nat.ble (Nat.mul (Nat.mul 2 (Nat.add (lenS s) n)) i.bytes) 281474976710656) (ite' (Nat.ble (Nat.add (lenS s) n) 1000000000) (ite' (allOne more) (ite' (Nat.beq n 0) none (appendS H s more n e i.size)) none) none) none)) none
      | none => none)
    | none => none)
  | _ => none
/-- what is appended: n elements, these cells. -/
structure SrcA (P : Program) (w : World) (tx : TypeId) (x : Value) (n size : Nat) (news : List Value) : Prop where
  kind : (∃ e, P.underlying tx = some (.slice e)) ∨ P.underlying tx = some .string
  len : ∀ W, (Builtin.lenOf x).run P W = .ok n W
  cells : ∀ W : World, W.heap = w.heap → (Builtin.firstCells size n x).run P W = .ok news.toArray W
theorem SrcA.slice {P : Program} {w : World} {t e : TypeId} {a : Addr} {n c size : Nat} {news : List Value} (ht : P.underlying t = some (.slice e)) (hl : news.length = n * size) (h : ∀ j u, news[j]? = some u → w.cell? (a.add j) = some u) : SrcA P w t (.slice (some a) n c) n size news :=
  ⟨.inl ⟨_, ht⟩, fun W => by simp [Builtin.lenOf], fun W hW => run_firstCells_some (P := P) W size n a n c news hl (fun j u hu => by
    have := h j u hu
    unfold World.cell? at this ⊢
    rw [hW]; exact this)⟩
section
variable {P : Program} {w : World} {t tx ty e : TypeId} {i : TypeInfo} {z x : Value} {n : Nat} {news : List Value}
theorem app_nil (ht : P.underlying t = some (.slice e)) (hi : P.info? e = some i) (hz : i.zero = some z) (hs : SrcA P w tx x n i.size news) (h0 : 0 < n) (h63 : (n : Int) ≤ 9223372036854775807) (h48 : n * i.bytes ≤ 281474976710656) :
    (Builtin.append_ #[t, tx] ty #[.slice none 0 0, x]).run P w = .ok (.slice (some ⟨w.heap.size, 0, none⟩) n (grownCap w n 0 e)) (w.drew.alloc (.cells (news.toArray ++ Builtin.zeroCells z.cells (grownCap w n 0 e - n)) e)) := by
  have hn : n ≠ 0 := by omega
  have h63' : ¬ (9223372036854775807 < (n : Int)) := by omega
  have h48' : ¬ (281474976710656 < Builtin.nextslicecap n 0 * i.bytes) := by rw [nextslicecap_zero h0]; omega
  rcases hs.kind with ⟨e', hd⟩ | hd <;> simp [Builtin.append_, run_underlying ht, run_underlying hd, sizeOf, typeInfo, zeroValue, hi, hz, hs.len, hn, h63', h48', Question.forced, run_firstCells_none, hs.cells w.drew rfl, newRow, grownCap]
theorem app_grow (ht : P.underlying t = some (.slice e)) (hi : P.info? e = some i) (hz : i.zero = some z) (b : Addr) (sLen sCap : Nat) (olds : List Value) (hlo : olds.length = sLen * i.size) (holds : ∀ j v, olds[j]? = some v → w.cell? (b.add j) = some v)
    (hs : SrcA P w tx x n i.size news) (hg : sCap < sLen + n) (h63 : ((sLen + n : Nat) : Int) ≤ 9223372036854775807) (hfit : Builtin.nextslicecap (sLen + n) sCap * i.bytes ≤ 281474976710656) :
    (Builtin.append_ #[t, tx] ty #[.slice (some b) sLen sCap, x]).run P w = .ok (.slice (some ⟨w.heap.size, 0, none⟩) (sLen + n) (grownCap w (sLen + n) sCap e))
        (w.drew.alloc (.cells (olds.toArray ++ news.toArray ++ Builtin.zeroCells z.cells (grownCap w (sLen + n) sCap e - (sLen + n))) e)) := by
  have hn : ¬ (sLen + n ≤ sCap) := by omega
  have h63' : ¬ (9223372036854775807 < ((sLen : Int) + (n : Int))) := by omega
  have h48' : ¬ (281474976710656 < Builtin.nextslicecap (sLen + n) sCap * i.bytes) := by omega
  have hf := run_firstCells_some (P := P) w.drew i.size sLen b sLen sCap olds hlo holds
  rcases hs.kind with ⟨e', hd⟩ | hd <;> simp [Builtin.append_, run_underlying ht, run_underlying hd, sizeOf, typeInfo, zeroValue, hi, hz, hs.len, hn, h63', h48', Question.forced, hf, hs.cells w.drew rfl, newRow, grownCap] <;> exact congrArg (fun q => w.drew.alloc (Obj.cells q e)) (by apply Array.ext'; simp)
theorem app_fits {w' : World} (ht : P.underlying t = some (.slice e)) (hi : P.info? e = some i) (b : Addr) (sLen sCap : Nat) (hs : SrcA P w tx x n i.size news) (hroom : sLen + n ≤ sCap) (hst : (storeCells (b.add (sLen * i.size)) news).run P w = .ok () w') :
    (Builtin.append_ #[t, tx] ty #[.slice (some b) sLen sCap, x]).run P w = .ok (.slice (some b) (sLen + n) sCap) w' := by
  rcases hs.kind with ⟨e', hd⟩ | hd <;> simp [Builtin.append_, run_underlying ht, run_underlying hd, sizeOf, typeInfo, hi, hs.len, hroom, hs.cells w rfl, hst]
end
/-- what an append of these cells does. -/
structure SrcR (P : Program) (w : World) (t tx ty e : TypeId) (i : TypeInfo) (z x : Value) (n : Nat) (news : List Value) : Prop where
  nil : 0 < n → (n : Int) ≤ 9223372036854775807 → n * i.bytes ≤ 281474976710656 → (Builtin.append_ #[t, tx] ty #[.slice none 0 0, x]).run P w = .ok (.slice (some ⟨w.heap.size, 0, none⟩) n (grownCap w n 0 e)) (w.drew.alloc (.cells (news.toArray ++ Builtin.zeroCells z.cells (grownCap w n 0 e - n)) e))
  grow : ∀ (b : Addr) (sLen sCap : Nat) (olds : List Value), olds.length = sLen * i.size → (∀ j v, olds[j]? = some v → w.cell? (b.add j) = some v) → sCap < sLen + n → ((sLen + n : Nat) : Int) ≤ 9223372036854775807 → Builtin.nextslicecap (sLen + n) sCap * i.bytes ≤ 281474976710656 →
    (Builtin.append_ #[t, tx] ty #[.slice (some b) sLen sCap, x]).run P w = .ok (.slice (some ⟨w.heap.size, 0, none⟩) (sLen + n) (grownCap w (sLen + n) sCap e))
        (w.drew.alloc (.cells (olds.toArray ++ news.toArray ++ Builtin.zeroCells z.cells (grownCap w (sLen + n) sCap e - (sLen + n))) e))
  fits : ∀ (b : Addr) (sLen sCap : Nat) {w' : World}, sLen + n ≤ sCap → (storeCells (b.add (sLen * i.size)) news).run P w = .ok () w' → (Builtin.append_ #[t, tx] ty #[.slice (some b) sLen sCap, x]).run P w = .ok (.slice (some b) (sLen + n) sCap) w'
theorem SrcA.r {P : Program} {w : World} {t tx ty e : TypeId} {i : TypeInfo} {z x : Value} {n : Nat} {news : List Value} (ht : P.underlying t = some (.slice e)) (hi : P.info? e = some i) (hz : i.zero = some z) (hs : SrcA P w tx x n i.size news) : SrcR P w t tx ty e i z x n news :=
  ⟨fun h0 h1 h2 => app_nil ht hi hz hs h0 h1 h2, fun b sLen sCap olds h1 h2 h3 h4 h5 => app_grow ht hi hz b sLen sCap olds h1 h2 hs h3 h4 h5, fun b sLen sCap w' h1 h2 => app_fits ht hi b sLen sCap hs h1 h2⟩
theorem append_runR {P : Program} {T : Cx} (hT : Fits P T) {E : Env} {H H' : Hp} {w : World} (hr : HRel E H w) {t tx ty : TypeId} {s s' v xx : Value} {more more' : List Value} {n : Nat} (hf : appendA T H t s more n = some (v, H')) (hs : VR E H.next s s')
    (hm : VL E H.next more more') (hsrc : ∀ e i z, T.und t = some (.slice e) → T.ty.get e = some i → i.zero = some z → SrcR P w t tx ty e i z xx n more') (hlen : ∀ e i, T.und t = some (.slice e) → T.ty.get e = some i → more.length = n * i.size) :
    ∃ E' v' w', (Builtin.append_ #[t, tx] ty #[s', xx]).run P w = .ok v' w' ∧ Gd E E' H H' w w' ∧ VR E' H'.next v v' ∧ HRel E' H' w' := by
  unfold appendA at hf
  split at hf
  · rename_i e hu
    split at hf
    · rename_i i hi
      split at hf
      · rename_i z hz
        obtain ⟨h1, f1⟩ := ite'_some hf
        clear hf
        obtain ⟨h2, f2⟩ := ite'_none f1
        clear f1
        obtain ⟨h3, f3⟩ := ite'_some f2
        clear f2
        obtain ⟨h4, f4⟩ := ite'_some f3
        clear f3
        obtain ⟨h5, f5⟩ := ite'_some f4
        clear f4
        obtain ⟨h6, hf⟩ := ite'_none f5
        clear f5
        have hml := hlen e i hu hi
        have hml' : more'.length = n * i.size := by rw [← hm.length]; exact hml
        have hzs : z.cells.size = i.size := by have := Nat.eq_of_beq_eq_true h1; simpa using this
        have hsz0 : 0 < i.size := Nat.pos_of_ne_zero fun e0 => by rw [e0] at h2; cases h2
        have hn0 : 0 < n := Nat.pos_of_ne_zero fun e0 => by rw [e0] at h6; cases h6
        have hb3 := Nat.le_of_ble_eq_true h3
        have hb4 := Nat.le_of_ble_eq_true h4
        have hone : ∀ u ∈ more', u.oneCell' = true := by
          have : ∀ {l l' : List Value}, VL E H.next l l' → allOne l = true → ∀ u ∈ l', u.oneCell' = true := by
            intro l
            induction l with
            | nil => intro l' h _ u hu; cases h; cases hu
            | cons x l ih =>
              intro l' h ha u hu
              cases h with
              | cons hx ht =>
                change ite' (oneB x) (allOne l) false = true at ha
                cases hb : oneB x with
                | false => rw [hb] at ha; cases ha
                | true =>
                  rw [hb] at ha
                  rcases List.mem_cons.1 hu with e | e
                  · exact e ▸ hx.one hb
                  · exact ih ht ha u e
          exact this hm h5
        have hP := hT.und hu
        have hI := hT.ty e i hi
        have hR := hsrc e i z hu hi hz
        unfold appendS at hf
        split at hf
        · -- nothing yet
          rename_i l0 c0
          obtain ⟨e1, e2, e3⟩ := hs.snil
          subst e1 e2 e3
          have hb3' : n * i.bytes ≤ 281474976710656 := by
            have : Nat.mul (Nat.mul 2 (Nat.add (lenS (.slice none 0 0)) n)) i.bytes = 2 * n * i.bytes := by show 2 * (0 + n) * i.bytes = _; rw [Nat.zero_add]
            rw [this] at hb3
            have : n * i.bytes ≤ 2 * n * i.bytes := Nat.mul_le_mul_right _ (by omega)
            omega
          have hb4' : n ≤ 1000000000 := by
            have : Nat.add (lenS (.slice none 0 0)) n = 0 + n := rfl
            omega
          cases hf
          have hrun := hR.nil hn0 (by omega) hb3'
          obtain ⟨g1, g2, g3⟩ := grown_new hr hm (e := e) hml hzs (cap_ge w n 0 e)
          exact ⟨_, _, _, hrun, g2, g3 hsz0, g1⟩
        · rename_i p len c0
          obtain ⟨hsp, hpb, c', e1, hc⟩ := hs.sl
          subst e1
          have hlen0 : Nat.add (lenS (.slice (some p) len c0)) n = len + n := rfl
          rw [hlen0] at hb3 hb4
          have hbytes : 2 * (len + n) * i.bytes ≤ 281474976710656 := hb3
          have hfit : ∀ q, q < len + n → Builtin.nextslicecap (len + n) q * i.bytes ≤ 281474976710656 := fun q hq => by
            have := Nat.mul_le_mul_right i.bytes (nextslicecap_le hq)
            omega
          cases hb : Nat.ble c0 OPN with
          | true =>
            rw [hb, ite'_true] at hf
            have hle := Nat.le_of_ble_eq_true hb
            obtain ⟨hc1, hc2⟩ : c0 < OPN ∧ c' = c0 := by
              rcases hc with h | h
              · exact h
              · omega
            subst hc2
            cases hr1 : Nat.ble (Nat.add len n) c' with
            | true =>
              rw [hr1, ite'_true] at hf
              have hroom : len + n ≤ c' := Nat.le_of_ble_eq_true hr1
              split at hf
              · rename_i H1 hst; cases hf
                obtain ⟨w', e3, r3, g3, n3⟩ := storeAll_ok (P := P) (off := p.off + len * i.size) 0 (by simpa using hst) hm h5 hr
                refine ⟨E, .slice (some ⟨E.s p.block, p.off, none⟩) (len + n) c', w', ?_, g3, ?_, r3⟩
                · exact hR.fits _ _ _ hroom (by rw [add_plain']; exact e3)
                · rw [n3]
                  obtain ⟨pb, po, ps⟩ := p
                  cases hsp
                  exact .slice hpb hc1
              · cases hf
            | false =>
              rw [hr1, ite'_false] at hf
              have hgt := ble_false hr1
              split at hf
              · rename_i olds ho; cases hf
                obtain ⟨hn1, olds', ro, hoc⟩ := hr.cells ho
                have hol : olds'.length = len * i.size := by rw [← ro.length]; exact hn1
                have hrun := hR.grow ⟨E.s p.block, p.off, none⟩ len c' olds' hol (fun j u hu => by
                  rw [add_plain', hoc j (by have := (List.getElem?_eq_some_iff.1 hu).1; rw [hol] at this; exact this)]; exact hu) hgt (by omega) (hfit c' hgt)
                have hll : (List.append olds more).length = (len + n) * i.size := by
                  show (olds ++ more).length = _
                  rw [List.length_append, hn1, hml, Nat.add_mul]; rfl
                obtain ⟨g1, g2, g3⟩ := grown_new hr (ro.append hm) (e := e) hll hzs (cap_ge w (len + n) c' e)
                refine ⟨_, _, _, hrun, ?_, g3 hsz0, ?_⟩
                · have z1 := g2; rw [show (olds' ++ more').toArray = olds'.toArray ++ more'.toArray from by simp] at z1; exact z1
                · have z1 := g1; rw [show (olds' ++ more').toArray = olds'.toArray ++ more'.toArray from by simp] at z1; exact z1
              · cases hf
          | false =>
            rw [hb, ite'_false] at hf
            obtain ⟨k1, f1⟩ := ite'_some hf
            clear hf
            obtain ⟨k2, hf⟩ := ite'_some f1
            clear f1
            have hoff := Nat.eq_of_beq_eq_true k1
            have hcc : c0 = OPN + i.size := Nat.eq_of_beq_eq_true k2
            have hgt := ble_false hb
            obtain ⟨hc1, hc2, hc3⟩ : OPN < c0 ∧ len ≤ c' ∧ p.off + c' * (c0 - OPN) = E.k p.block := by
              rcases hc with h | h
              · omega
              · exact h
            rw [hcc, Nat.add_sub_cancel_left, hoff, Nat.zero_add] at hc3
            unfold growOpen at hf
            split at hf
            · rename_i cc k e' hbk
              obtain ⟨k3, f1⟩ := ite'_some hf
              clear hf
              obtain ⟨k4, hf⟩ := ite'_some f1
              clear f1
              have he' := Nat.eq_of_beq_eq_true k3
              subst he'
              have hk4 : len * i.size ≤ k := Nat.le_of_ble_eq_true k4
              cases hf
              obtain ⟨cs, fz, q1, q2, q3, q4, q5⟩ := hr.rel _ _ hbk
              have hfz := q2.2 rfl
              subst hfz
              have q4' : cs.size = E.k p.block := by simpa using q4
              have hoffp : (⟨E.s p.block, p.off, none⟩ : Addr) = ⟨E.s p.block, 0, none⟩ := by rw [hoff]
              rw [hoffp]
              by_cases hroom : len + n ≤ c'
              · -- in its place
                have hfits : len * i.size + more'.length ≤ cs.size := by
                  rw [hml', q4', ← hc3, ← Nat.add_mul]; exact Nat.mul_le_mul_right _ hroom
                have hst := run_storeCells_at P (E.s p.block) (len * i.size) e' more' 0 cs w q1 (by simpa using hfits) hone
                simp only [Nat.add_zero] at hst
                have hrun := hR.fits ⟨E.s p.block, 0, none⟩ len c' hroom (by rw [add_plain', Nat.zero_add]; exact hst)
                obtain ⟨g1, g2⟩ := hr.renum hbk
                have hgetn : ((H.b.put p.block none).put H.next (some (Blk.row cc k e' true))).get H.next = some (.row cc k e' true) := by rw [Tr.get_put, if_pos rfl]
                have hsn : (E.add H.next (E.s p.block) (E.k p.block)).s H.next = E.s p.block := by simp [Env.add]
                have hkn : (E.add H.next (E.s p.block) (E.k p.block)).k H.next = E.k p.block := by simp [Env.add]
                have hm2 : VL (E.add H.next (E.s p.block) (E.k p.block)) (H.next + 1) more more' := hm.mono (Env.add_agree _ _ _ _) (Nat.le_succ _)
                have hnsz : (cs.toList.take (len * i.size) ++ more' ++ cs.toList.drop (len * i.size + more'.length)).toArray.size = cs.size := by
                  simp only [List.size_toArray, List.length_append, List.length_take, List.length_drop, Array.length_toList]; omega
                obtain ⟨u1, u2⟩ := g1.upd (w' := w.setRow (E.s p.block) (cs.toList.take (len * i.size) ++ more' ++ cs.toList.drop (len * i.size + more'.length)).toArray) (x1 := .row (Tr.lay more (len * i.size) cc) ((len + n) * i.size) e' true) hgetn
                  (by
                    rw [hsn, setRow_heap w _ cs _ e' (0, 0) q1]
                    refine ⟨_, (0, 0), rfl, ⟨fun j _ hh => by omega, fun _ => rfl⟩, ?_, ?_, fun j u hj hu => ?_⟩
                    · rw [hnsz, q4', ← hc3]; exact Nat.mul_le_mul_right _ hroom
                    · rw [hnsz, q4']; simp [hkn]
                    · rw [splice_get hfits]
                      rw [Tr.get_lay] at hu
                      by_cases j1 : j < len * i.size
                      · rw [if_pos j1]
                        rw [if_neg (by omega)] at hu
                        obtain ⟨u', e5, r5⟩ := q5 j u (by omega) hu
                        exact ⟨u', e5, r5.mono (Env.add_agree _ _ _ _) (Nat.le_succ _)⟩
                      · have hj2 : j < len * i.size + more.length := by rw [hml, ← Nat.add_mul]; exact hj
                        rw [if_neg j1, if_pos (by rw [hml', ← hml]; exact hj2)]
                        rw [if_pos ⟨by omega, hj2⟩] at hu
                        exact hm2.get hu)
                  (fun j hj => setRow_other w _ j _ (by rw [hsn] at hj; exact hj)) rfl rfl rfl (by simp [World.setRow]) rfl
                have hcg : ∀ b, ((H.b.put p.block none).put H.next (some (Blk.row (Tr.lay more (Nat.mul len i.size) cc) (Nat.mul (Nat.add len n) i.size) e' true))).get b = (((H.b.put p.block none).put H.next (some (Blk.row cc k e' true))).put H.next (some (.row (Tr.lay more (len * i.size) cc) ((len + n) * i.size) e' true))).get b := fun b => by
                  simp only [Tr.get_put]
                  split
                  · rfl
                  · rfl
                refine ⟨_, _, _, hrun, (g2.trans u2).congr hcg rfl, ?_, u1.congr hcg rfl⟩
                have z1 := VR.open_ (E := E.add H.next (E.s p.block) (E.k p.block)) (N := H.next + 1) (b := H.next) (o := 0) (l := len + n) (c := c0) (c' := c') (Nat.lt_succ_self _) hc1 hroom (by rw [hkn, hcc, Nat.add_sub_cancel_left, Nat.zero_add]; exact hc3)
                rw [hsn] at z1; exact z1
              · -- in new memory
                have hgt2 : c' < len + n := by omega
                have hle2 : len * i.size ≤ cs.size := by omega
                have hol : (cs.toList.take (len * i.size)).length = len * i.size := by simp; omega
                have hrun := hR.grow ⟨E.s p.block, 0, none⟩ len c' (cs.toList.take (len * i.size)) hol (fun j u hu => by
                  have hj : j < len * i.size := by have := (List.getElem?_eq_some_iff.1 hu).1; rw [hol] at this; exact this
                  rw [List.getElem?_take_of_lt hj, Array.getElem?_toList] at hu
                  rw [add_plain', Nat.zero_add]
                  simp [World.cell?, q1, hu]) hgt2 (by omega) (hfit c' hgt2)
                obtain ⟨C, hC⟩ : ∃ C, C = grownCap w (len + n) c' e' := ⟨_, rfl⟩
                have hCge : len + n ≤ C := hC ▸ cap_ge w (len + n) c' e'
                rw [← hC] at hrun
                have hm2 : VL (E.add H.next w.heap.size (C * i.size)) (H.next + 1) more more' := hm.mono (Env.add_agree _ _ _ _) (Nat.le_succ _)
                have hs : (E.add H.next w.heap.size (C * i.size)).s H.next = w.heap.size := by simp [Env.add]
                have hkk : (E.add H.next w.heap.size (C * i.size)).k H.next = C * i.size := by simp [Env.add]
                have hzs2 : (Builtin.zeroCells z.cells (C - (len + n))).size = (C - (len + n)) * i.size := by simp [Builtin.zeroCells, hzs]
                have hszn : ((cs.toList.take (len * i.size)).toArray ++ more'.toArray ++ Builtin.zeroCells z.cells (C - (len + n))).size = C * i.size := by
                  rw [Array.size_append, Array.size_append, hzs2, List.size_toArray, List.size_toArray, hol, hml', ← Nat.add_mul, ← Nat.add_mul]
                  congr 1; omega
                have hrd : HRel E H w.drew := hr.heap rfl
                obtain ⟨g1, g2⟩ := hrd.new (x := .row (Tr.lay more (len * i.size) cc) ((len + n) * i.size) e' true) (o := .cells ((cs.toList.take (len * i.size)).toArray ++ more'.toArray ++ Builtin.zeroCells z.cells (C - (len + n))) e') (k := C * i.size)
                  ⟨_, (0, 0), rfl, ⟨fun _ _ hh => by omega, fun _ => rfl⟩, by rw [hszn]; exact Nat.mul_le_mul_right _ hCge, by rw [hszn]; simp [Env.add], fun j u hj hu => by
                    have hj3 : j < ((cs.toList.take (len * i.size)).toArray ++ more'.toArray).size := by
                      rw [Array.size_append, List.size_toArray, List.size_toArray, hol, hml', ← Nat.add_mul]; exact hj
                    rw [Array.getElem?_append_left hj3]
                    rw [Tr.get_lay] at hu
                    by_cases j1 : j < len * i.size
                    · rw [if_neg (by omega)] at hu
                      obtain ⟨u', e5, r5⟩ := q5 j u (by omega) hu
                      refine ⟨u', ?_, r5.mono (Env.add_agree _ _ _ _) (Nat.le_succ _)⟩
                      rw [Array.getElem?_append_left (by rw [List.size_toArray, hol]; exact j1), List.getElem?_toArray, List.getElem?_take_of_lt j1, Array.getElem?_toList]
                      exact e5
                    · have hj2 : j < len * i.size + more.length := by rw [hml, ← Nat.add_mul]; exact hj
                      rw [if_pos ⟨by omega, hj2⟩] at hu
                      obtain ⟨u', e5, r5⟩ := hm2.get hu
                      refine ⟨u', ?_, r5⟩
                      rw [Array.getElem?_append_right (by rw [List.size_toArray, hol]; omega), List.size_toArray, hol, List.getElem?_toArray]
                      exact e5⟩
                obtain ⟨d1, d2⟩ := g1.drop p.block
                have hltp := hr.lt _ _ hbk
                have hcg : ∀ b, ((H.b.put p.block none).put H.next (some (Blk.row (Tr.lay more (Nat.mul len i.size) cc) (Nat.mul (Nat.add len n) i.size) e' true))).get b = ((H.new (.row (Tr.lay more (len * i.size) cc) ((len + n) * i.size) e' true)).b.put p.block none).get b := fun b => by
                  simp only [Hp.new, Tr.get_put]
                  by_cases b1 : b = H.next
                  · rw [if_pos b1, if_neg (by omega), if_pos b1]; rfl
                  · rw [if_neg b1, if_neg b1]
                have g2' : Gd E _ H _ w _ := ⟨g2.le, g2.ag, g2.dom, g2.os, g2.tape, g2.output, g2.size, g2.frame⟩
                refine ⟨_, _, _, hrun, (g2'.trans d2).congr hcg rfl, ?_, d1.congr hcg rfl⟩
                have z1 := VR.open_ (E := E.add H.next w.heap.size (C * i.size)) (N := H.next + 1) (b := H.next) (o := 0) (l := len + n) (c := c0) (c' := C) (Nat.lt_succ_self _) hc1 hCge (by rw [hkk, hcc, Nat.add_sub_cancel_left, Nat.zero_add])
                rw [hs] at z1; exact z1
            · cases hf
        · cases hf
      · cases hf
    · cases hf
  · cases hf
theorem append_run {P : Program} {T : Cx} (hT : Fits P T) {E : Env} {H H' : Hp} {w : World} (hr : HRel E H w) {t tx ty : TypeId} {s s' v xx : Value} {more more' : List Value} {n : Nat} (hf : appendA T H t s more n = some (v, H')) (hs : VR E H.next s s')
    (hm : VL E H.next more more') (hsrc : ∀ e i, T.und t = some (.slice e) → T.ty.get e = some i → SrcA P w tx xx n i.size more') (hlen : ∀ e i, T.und t = some (.slice e) → T.ty.get e = some i → more.length = n * i.size) :
    ∃ E' v' w', (Builtin.append_ #[t, tx] ty #[s', xx]).run P w = .ok v' w' ∧ Gd E E' H H' w w' ∧ VR E' H'.next v v' ∧ HRel E' H' w' :=
  append_runR hT hr hf hs hm (fun e i z hu hi hz => (hsrc e i hu hi).r (hT.und hu) (hT.ty e i hi) hz) hlen
end
end Go.Proofs.YtdkfimejabanlaaDoor
