import Derived.Test.YtanhkchpffkloaaGreatDoorEa
namespace Go.Proofs.YtanhkchpffkloaaGreatDoor
open Go
set_option linter.unusedVariables false
noncomputable section
/-- a block: a row of cells (n of them known; opn: there may be more behind them), a map, a string's iterator. -/
inductive Blk where
  | row (c : Tr Value) (n : Nat) (e : TypeId) (opn : Bool)
  | map (es : List MapEntry) (clock : Nat)
  | siter (s : ByteArray) (pos : Nat)
  | rom (c : Tr Value)
/-- may it be written? -/
def wr (x : Blk) : Bool := match x with
  | .rom _ => false
  | _ => true
structure Hp where
  b : Tr Blk
  next : Nat
abbrev OPN : Nat := 9223372036854775808
structure Cx where
  ty : Tr TypeInfo
  fn : Tr Func
  g : Nat
  eq : Tr Bool
  orc : Tr (List (List Value × Value))
  tabs : List (Nat × List Value)
  orv : Tr (List VO)
  bw : Tr (TypeId × TypeId)
structure Fits (P : Program) (T : Cx) : Prop where
  ty : ∀ t i, T.ty.get t = some i → P.info? t = some i
  fn : ∀ f fn, T.fn.get f = some fn → P.funcs[f]? = some fn ∧ (fn.name == "runtime.NumGoroutine") = false
  eq : ∀ t, T.eq.get t = some true → P.stoodInHeld t = false ∧ P.eqGuardType P.depth t = false
/-- where a block of ours lies in memory; how many cells it has there. -/
structure Env where
  s : Nat → Nat
  k : Nat → Nat
def plainV : Value → Bool
  | .bool _ | .int _ _ | .float _ _ | .complex _ _ _ | .string _ | .pointer none | .map none | .nilFunc | .nilIface => true
  | .slice none 0 0 => true
  | .func (.func _) a b => a.isEmpty && b.isEmpty
  | _ => false
/-- a value whose cells are all plain (a type's zero). -/
def plainL (l : List Value) : Bool := List.rec (motive := fun _ => Bool) true (fun v _ ih => ite' (plainV v) ih false) l
/-- a constant: plain, or an aggregate of plain cells. -/
def constOk (z : Value) : Bool := match z with
  | .agg cs => plainL cs.toList
  | z => plainV z
theorem constOk_plain {v : Value} (h : plainV v = true) : constOk v = true := by cases v <;> first | exact h | (cases h; done)
mutual
inductive VR (E : Env) (N : Nat) : Value → Value → Prop
  | same {v : Value} (h : plainV v = true) : VR E N v v
  | ptr {b o : Nat} (h : b < N) : VR E N (.pointer (some ⟨b, o, none⟩)) (.pointer (some ⟨E.s b, o, none⟩))
  | slice {b o l c : Nat} (h : b < N) (hc : c < OPN) : VR E N (.slice (some ⟨b, o, none⟩) l c) (.slice (some ⟨E.s b, o, none⟩) l c)
  | open_ {b o l c c' : Nat} (h : b < N) (hc : OPN < c) (hl : l ≤ c') (hk : o + c' * (c - OPN) = E.k b) : VR E N (.slice (some ⟨b, o, none⟩) l c) (.slice (some ⟨E.s b, o, none⟩) l c')
  | map {b : Nat} (h : b < N) : VR E N (.map (some b)) (.map (some (E.s b)))
  | agg {l l' : List Value} (h : VL E N l l') : VR E N (.agg l.toArray) (.agg l'.toArray)
  | tuple {l l' : List Value} (h : VL E N l l') : VR E N (.tuple l.toArray) (.tuple l'.toArray)
  | iface {t : TypeId} {v v' : Value} (h : VR E N v v') : VR E N (.iface t v) (.iface t v')
  | tail {a : Addr} {c : Nat} : VR E N (.chan none) (.slice (some a) 0 c)
  | clo {f : FuncId} {l l' m m' : List Value} (h : VL E N l l') (k : VL E N m m') : VR E N (.func (.func f) l.toArray m.toArray) (.func (.func f) l'.toArray m'.toArray)
inductive VL (E : Env) (N : Nat) : List Value → List Value → Prop
  | nil : VL E N [] []
  | cons {v v' : Value} {l l' : List Value} (h : VR E N v v') (t : VL E N l l') : VL E N (v :: l) (v' :: l')
end
def Agree (E E' : Env) (N : Nat) : Prop := ∀ b, b < N → E'.s b = E.s b ∧ E'.k b = E.k b
theorem Agree.refl (E : Env) (N : Nat) : Agree E E N := fun _ _ => ⟨rfl, rfl⟩
mutual
theorem VR.mono {E E' : Env} {N N' : Nat} (ha : Agree E E' N) (hN : N ≤ N') : ∀ {v v' : Value}, VR E N v v' → VR E' N' v v'
  | _, _, .same h => .same h
  | _, _, .ptr h => by rw [← (ha _ h).1]; exact .ptr (Nat.lt_of_lt_of_le h hN)
  | _, _, .slice h hc => by rw [← (ha _ h).1]; exact .slice (Nat.lt_of_lt_of_le h hN) hc
  | _, _, .open_ h hc hl hk => by rw [← (ha _ h).1]; exact .open_ (Nat.lt_of_lt_of_le h hN) hc hl (hk.trans (ha _ h).2.symm)
  | _, _, .map h => by rw [← (ha _ h).1]; exact .map (Nat.lt_of_lt_of_le h hN)
  | _, _, .agg h => .agg (VL.mono ha hN h)
  | _, _, .tuple h => .tuple (VL.mono ha hN h)
  | _, _, .iface h => .iface (VR.mono ha hN h)
  | _, _, .tail => .tail
  | _, _, .clo h k => .clo (VL.mono ha hN h) (VL.mono ha hN k)
theorem VL.mono {E E' : Env} {N N' : Nat} (ha : Agree E E' N) (hN : N ≤ N') : ∀ {l l' : List Value}, VL E N l l' → VL E' N' l l'
  | _, _, .nil => .nil
  | _, _, .cons h t => .cons (VR.mono ha hN h) (VL.mono ha hN t)
end
theorem VL.length {E : Env} {N : Nat} {l l' : List Value} (h : VL E N l l') : l.length = l'.length := by
  induction l generalizing l' with
  | nil => cases h; rfl
  | cons v l ih => cases h with | cons h t => simp [ih t]
theorem VL.get {E : Env} {N : Nat} {l l' : List Value} (h : VL E N l l') {i : Nat} {v : Value} (hi : l[i]? = some v) : ∃ v', l'[i]? = some v' ∧ VR E N v v' := by
  induction l generalizing l' i with
  | nil => simp at hi
  | cons x l ih => cases h with
    | cons h t => cases i with
      | zero => simp at hi; subst hi; exact ⟨_, rfl, h⟩
      | succ i => simp at hi; obtain ⟨v', e, hv⟩ := ih t hi; exact ⟨v', by simpa using e, hv⟩
theorem VL.append {E : Env} {N : Nat} {l l' m m' : List Value} (h : VL E N l l') (k : VL E N m m') : VL E N (l ++ m) (l' ++ m') := by
  induction l generalizing l' with
  | nil => cases h; exact k
  | cons v l ih => cases h with | cons h t => exact .cons h (ih t)
theorem VL.take {E : Env} {N : Nat} {l l' : List Value} (h : VL E N l l') (n : Nat) : VL E N (l.take n) (l'.take n) := by
  induction l generalizing l' n with
  | nil => cases h; simp; exact .nil
  | cons v l ih => cases h with
    | cons h t => cases n with
      | zero => simp; exact .nil
      | succ n => simp; exact .cons h (ih t n)
theorem VL.drop {E : Env} {N : Nat} {l l' : List Value} (h : VL E N l l') (n : Nat) : VL E N (l.drop n) (l'.drop n) := by
  induction l generalizing l' n with
  | nil => cases h; simp; exact .nil
  | cons v l ih => cases h with
    | cons h t => cases n with
      | zero => simp; exact .cons h t
      | succ n => simp; exact ih t n
/-- a map's entries: their keys are alike. -/
inductive ML (E : Env) (N : Nat) : List MapEntry → List MapEntry → Prop
  | nil : ML E N [] []
  | cons {k v v' : Value} {b : Nat} {l l' : List MapEntry} (hk : constOk k = true) (h : VR E N v v') (t : ML E N l l') : ML E N (⟨k, v, b⟩ :: l) (⟨k, v', b⟩ :: l')
theorem ML.mono {E E' : Env} {N N' : Nat} (ha : Agree E E' N) (hN : N ≤ N') : ∀ {l l' : List MapEntry}, ML E N l l' → ML E' N' l l'
  | _, _, .nil => .nil
  | _, _, .cons hk h t => .cons hk (h.mono ha hN) (ML.mono ha hN t)
/-- a block of ours and what lies in memory. -/
def BR (E : Env) (N b : Nat) (x : Blk) (o : Option Obj) : Prop :=
  match x with
  | .row c n e opn => ∃ (cs : Array Value) (fz : Nat × Nat), o = some (.cells cs e fz) ∧ ((∀ i, i < cs.size → ¬ (fz.1 ≤ i ∧ i < fz.2)) ∧ (opn = true → fz = (0, 0))) ∧ n ≤ cs.size ∧ cs.size = (if opn then E.k b else n) ∧ ∀ i v, i < n → c.get i = some v → ∃ v', cs[i]? = some v' ∧ VR E N v v'
  | .map es clock => ∃ es' : Array MapEntry, o = some (.map es' clock) ∧ ML E N es es'.toList
  | .siter s pos => o = some (.stringIter s pos)
  | .rom c => ∃ (cs : Array Value) (e : TypeId) (fz : Nat × Nat), o = some (.cells cs e fz) ∧ ∀ i v, c.get i = some v → ∃ v', cs[i]? = some v' ∧ VR E N v v'
structure HRel (E : Env) (H : Hp) (w : World) : Prop where
  lt : ∀ b x, H.b.get b = some x → b < H.next
  rel : ∀ b x, H.b.get b = some x → BR E H.next b x w.heap[E.s b]?
  inj : ∀ b b' x x', H.b.get b = some x → H.b.get b' = some x' → E.s b = E.s b' → b = b'
structure Gd (E E' : Env) (H H' : Hp) (w w' : World) : Prop where
  le : H.next ≤ H'.next
  ag : Agree E E' H.next
  dom : ∀ b x, H'.b.get b = some x → (∃ b0 x0, H.b.get b0 = some x0 ∧ (wr x = true → wr x0 = true) ∧ E'.s b = E.s b0) ∨ w.heap.size ≤ E'.s b
  os : w'.os = w.os
  tape : w'.tape = w.tape
  output : w'.output = w.output
  size : w.heap.size ≤ w'.heap.size
  frame : ∀ i, i < w.heap.size → (∀ b x, H.b.get b = some x → wr x = true → E.s b ≠ i) → w'.heap[i]? = w.heap[i]?
theorem Gd.refl (E : Env) (H : Hp) (w : World) : Gd E E H H w w := ⟨Nat.le_refl _, Agree.refl _ _, fun b x h => .inl ⟨b, x, h, id, rfl⟩, rfl, rfl, rfl, Nat.le_refl _, fun _ _ _ => rfl⟩
theorem Gd.trans {E E1 E2 : Env} {H H1 H2 : Hp} {w w1 w2 : World} (h : Gd E E1 H H1 w w1) (k : Gd E1 E2 H1 H2 w1 w2) : Gd E E2 H H2 w w2 := by
  refine ⟨Nat.le_trans h.le k.le, fun b hb => ⟨(k.ag b (Nat.lt_of_lt_of_le hb h.le)).1.trans (h.ag b hb).1, (k.ag b (Nat.lt_of_lt_of_le hb h.le)).2.trans (h.ag b hb).2⟩, fun b x hx => ?_, k.os.trans h.os, k.tape.trans h.tape, k.output.trans h.output, Nat.le_trans h.size k.size, fun i hi hf => ?_⟩
  · rcases k.dom b x hx with ⟨b1, x1, h1, w1, e1⟩ | h1
    · rcases h.dom b1 x1 h1 with ⟨b0, x0, h0, w0, e0⟩ | h0
      · exact .inl ⟨b0, x0, h0, fun hw => w0 (w1 hw), e1.trans e0⟩
      · exact .inr (by omega)
    · exact .inr (Nat.le_trans h.size h1)
  · rw [k.frame i (Nat.lt_of_lt_of_le hi h.size) (fun b x hx hw e => ?_), h.frame i hi hf]
    rcases h.dom b x hx with ⟨b0, x0, h0, w0, e0⟩ | h0
    · exact hf b0 x0 h0 (w0 hw) (e0.symm.trans e)
    · omega
/-- a world whose heap is the same. -/
theorem HRel.heap {E : Env} {H : Hp} {w w' : World} (h : HRel E H w) (e : w'.heap = w.heap) : HRel E H w' := ⟨h.lt, fun b x hb => by rw [e]; exact h.rel b x hb, h.inj⟩
theorem Gd.heap {E E' : Env} {H H' : Hp} {w w' w2 : World} (h : Gd E E' H H' w w') (e : w2.heap = w'.heap) (eo : w2.os = w'.os) (et : w2.tape = w'.tape) (eu : w2.output = w'.output) : Gd E E' H H' w w2 :=
  ⟨h.le, h.ag, h.dom, eo.trans h.os, et.trans h.tape, eu.trans h.output, by rw [e]; exact h.size, by rw [e]; exact h.frame⟩
/-! ### the heap's own steps -/
def Hp.cell (H : Hp) (b off : Nat) : Option Value :=
  match H.b.get b with
  | some (.row c n _ _) => ite' (Nat.ble n off) none (c.get off)
  | some (.rom c) => c.get off
  | _ => none
def Hp.cells (H : Hp) (b off n : Nat) : Option (List Value) :=
  Nat.rec (motive := fun _ => Nat → Option (List Value)) (fun _ => some [])
    (fun _ ih off => match H.cell b off with
      | some v => (match ih (Nat.succ off) with
        | some l => some (v :: l)
        | none => none)
      | none => none) n off
theorem ble_false {a b : Nat} (h : Nat.ble a b = false) : b < a := by
  rcases Nat.lt_or_ge b a with h1 | h1
  · exact h1
  · rw [Nat.ble_eq_true_of_le h1] at h; cases h
theorem ite'_none {α : Type} {b : Bool} {x : Option α} {v : α} (h : ite' b none x = some v) : b = false ∧ x = some v := by
  cases b with
  | true => cases h
  | false => exact ⟨rfl, h⟩
theorem ite'_some {α : Type} {b : Bool} {x : Option α} {v : α} (h : ite' b x none = some v) : b = true ∧ x = some v := by
  cases b with
  | false => cases h
  | true => exact ⟨rfl, h⟩
theorem HRel.cell {E : Env} {H : Hp} {w : World} (h : HRel E H w) {b off : Nat} {v : Value} (hc : H.cell b off = some v) : b < H.next ∧ ∃ v', w.cell? ⟨E.s b, off, none⟩ = some v' ∧ VR E H.next v v' := by
  unfold Hp.cell at hc
  split at hc
  · rename_i c n e opn hb
    obtain ⟨h1, h2⟩ := ite'_none hc
    obtain ⟨cs, fz, ho, hz, hn, hk, hv⟩ := h.rel b _ hb
    obtain ⟨v', e1, e2⟩ := hv off v (ble_false h1) h2
    exact ⟨h.lt b _ hb, v', by simp [World.cell?, ho, e1], e2⟩
  · rename_i c hb
    obtain ⟨cs, e, fz, ho, hv⟩ := h.rel b _ hb
    obtain ⟨v', e1, e2⟩ := hv off v hc
    exact ⟨h.lt b _ hb, v', by simp [World.cell?, ho, e1], e2⟩
  · cases hc
theorem cells_succ (H : Hp) (b off n : Nat) : H.cells b off (n + 1) = (match H.cell b off with
      | some v => (match H.cells b (off + 1) n with
        | some l => some (v :: l)
        | none => none)
      | none => none) := rfl
theorem HRel.cells {E : Env} {H : Hp} {w : World} (h : HRel E H w) {b : Nat} : ∀ {n off : Nat} {l : List Value}, H.cells b off n = some l → l.length = n ∧ ∃ l', VL E H.next l l' ∧ ∀ i, i < n → w.cell? ⟨E.s b, off + i, none⟩ = l'[i]?
  | 0, off, l, hc => by
    cases hc
    exact ⟨rfl, [], .nil, fun i hi => absurd hi (Nat.not_lt_zero _)⟩
  | n + 1, off, l, hc => by
    rw [cells_succ] at hc
    cases h1 : H.cell b off with
    | none => rw [h1] at hc; cases hc
    | some v =>
      rw [h1] at hc
      cases h2 : H.cells b (off + 1) n with
      | none => rw [h2] at hc; cases hc
      | some l1 =>
        rw [h2] at hc
        cases hc
        obtain ⟨_, v', e1, r1⟩ := h.cell h1
        obtain ⟨hl, l', r2, e2⟩ := h.cells h2
        refine ⟨by simp [hl], v' :: l', .cons r1 r2, fun i hi => ?_⟩
        cases i with
        | zero => simpa using e1
        | succ i => rw [show off + (i + 1) = off + 1 + i from by omega, e2 i (by omega)]; rfl
def Hp.store (H : Hp) (b off : Nat) (v : Value) : Option Hp :=
  match H.b.get b with
  | some (.row c n e o) => ite' (Nat.ble n off) none (some ⟨H.b.put b (some (.row (c.put off (some v)) n e o)), H.next⟩)
  | _ => none
theorem setCell_heap {w : World} {g i : Nat} {v : Value} {cs : Array Value} {e : TypeId} {f : Nat × Nat} (h : w.heap[g]? = some (.cells cs e f)) (j : Nat) :
    (w.setCell ⟨g, i, none⟩ v).heap[j]? = if j = g then some (.cells (cs.setIfInBounds i v) e f) else w.heap[j]? := by
  simp only [World.setCell, Array.getElem?_modify]
  by_cases e1 : g = j
  · subst e1; simp [h]
  · simp [e1, Ne.symm e1]
theorem HRel.store {E : Env} {H H' : Hp} {w : World} (h : HRel E H w) {b off : Nat} {v v' : Value} (hc : H.store b off v = some H') (hv : VR E H.next v v') :
    (∃ u, w.cell? ⟨E.s b, off, none⟩ = some u) ∧ w.frozen? ⟨E.s b, off, none⟩ = false ∧ HRel E H' (w.setCell ⟨E.s b, off, none⟩ v') ∧ Gd E E H H' w (w.setCell ⟨E.s b, off, none⟩ v') := by
  unfold Hp.store at hc
  split at hc
  · rename_i c n e opn hb
    obtain ⟨h1, h2⟩ := ite'_none hc
    cases h2
    have hlt := ble_false h1
    obtain ⟨cs, fz, ho, hz, hn, hk, hvv⟩ := h.rel b _ hb
    have hsz : off < cs.size := by omega
    have hw := fun j => setCell_heap (w := w) (i := off) (v := v') ho j
    refine ⟨⟨cs[off], by simp [World.cell?, ho, hsz]⟩, by have := hz.1 off hsz; simp [World.frozen?, ho]; omega, ⟨fun b' x hx => ?_, fun b' x hx => ?_, fun b1 b2 x1 x2 h1 h2 he => ?_⟩, ⟨Nat.le_refl _, Agree.refl _ _, fun b' x hx => ?_, rfl, rfl, rfl, by simp [World.setCell], fun i hi hf => ?_⟩⟩
    · rw [Tr.get_put] at hx
      split at hx
      · rename_i e1; subst e1; exact h.lt _ _ hb
      · exact h.lt _ _ hx
    · rw [Tr.get_put] at hx
      rw [hw]
      split at hx
      · rename_i e1; subst e1
        cases hx
        rw [if_pos rfl]
        refine ⟨_, fz, rfl, by simpa using hz, by simpa using hn, by simpa using hk, fun i u hi hu => ?_⟩
        rw [Tr.get_put] at hu
        split at hu
        · rename_i e2; subst e2
          cases hu
          exact ⟨v', by simp [hsz], hv⟩
        · rename_i e2
          obtain ⟨u', e3, r3⟩ := hvv i u hi hu
          exact ⟨u', by rw [Array.getElem?_setIfInBounds_ne (Ne.symm e2)]; exact e3, r3⟩
      · rename_i e1
        rw [if_neg (fun he => e1 (h.inj _ _ _ _ hx hb he))]
        exact h.rel _ _ hx
    · rw [Tr.get_put] at h1 h2
      have g : ∀ b' x', (if b' = b then some (Blk.row (c.put off (some v)) n e opn) else H.b.get b') = some x' → ∃ x0, H.b.get b' = some x0 := fun b' x' hh => by
        split at hh
        · rename_i e1; subst e1; exact ⟨_, hb⟩
        · exact ⟨_, hh⟩
      obtain ⟨y1, z1⟩ := g _ _ h1
      obtain ⟨y2, z2⟩ := g _ _ h2
      exact h.inj _ _ _ _ z1 z2 he
    · rw [Tr.get_put] at hx
      split at hx
      · rename_i e1; subst e1; exact .inl ⟨_, _, hb, fun _ => rfl, rfl⟩
      · exact .inl ⟨_, _, hx, id, rfl⟩
    · rw [hw, if_neg (fun e1 => hf b _ hb rfl e1.symm)]
  · cases hc
def Hp.storeAll (l : List Value) (H : Hp) (b off : Nat) : Option Hp :=
  List.rec (motive := fun _ => Hp → Nat → Option Hp) (fun H _ => some H) (fun v _ ih H off => match H.store b off v with
    | some H' => ih H' (Nat.succ off)
    | none => none) l H off
theorem Hp.store_next {H H' : Hp} {b off : Nat} {v : Value} (h : H.store b off v = some H') : H'.next = H.next := by
  unfold Hp.store at h
  split at h
  · obtain ⟨_, h2⟩ := ite'_none h; cases h2; rfl
  · cases h
def Hp.new (H : Hp) (x : Blk) : Hp := ⟨H.b.put H.next (some x), Nat.succ H.next⟩
/-- the environment with one block more. -/
def Env.add (E : Env) (b s k : Nat) : Env := ⟨fun i => if i = b then s else E.s i, fun i => if i = b then k else E.k i⟩
theorem Env.add_agree (E : Env) (b s k : Nat) : Agree E (E.add b s k) b := fun i hi => by
  have : i ≠ b := by omega
  simp [Env.add, this]
theorem BR.mono {E E' : Env} {N N' b : Nat} {x : Blk} {o : Option Obj} (h : BR E N b x o) (ha : Agree E E' N) (hN : N ≤ N') (hb : b < N) : BR E' N' b x o := by
  unfold BR at *
  split at h
  · obtain ⟨cs, fz, h1, hz, h2, h3, h4⟩ := h
    exact ⟨cs, fz, h1, hz, h2, by rw [(ha b hb).2]; exact h3, fun i v hi hv => by obtain ⟨v', e, r⟩ := h4 i v hi hv; exact ⟨v', e, r.mono ha hN⟩⟩
  · obtain ⟨es', h1, h2⟩ := h
    exact ⟨es', h1, h2.mono ha hN⟩
  · exact h
  · obtain ⟨cs, e, fz, h1, h2⟩ := h
    exact ⟨cs, e, fz, h1, fun i v hv => by obtain ⟨v', e, r⟩ := h2 i v hv; exact ⟨v', e, r.mono ha hN⟩⟩
theorem HRel.new {E : Env} {H : Hp} {w : World} (h : HRel E H w) {x : Blk} {o : Obj} {k : Nat} (hx : BR (E.add H.next w.heap.size k) (H.next + 1) H.next x (some o)) :
    HRel (E.add H.next w.heap.size k) (H.new x) (w.alloc o) ∧ Gd E (E.add H.next w.heap.size k) H (H.new x) w (w.alloc o) := by
  have hs : (E.add H.next w.heap.size k).s H.next = w.heap.size := by simp [Env.add]
  have hne : ∀ b, b < H.next → (E.add H.next w.heap.size k).s b = E.s b := fun b hb => (Env.add_agree E H.next w.heap.size k b hb).1
  have hsz : ∀ b y, H.b.get b = some y → E.s b < w.heap.size := fun b y hb => by
    have := h.rel b y hb
    unfold BR at this
    split at this
    · obtain ⟨cs, fz, h1, _⟩ := this; exact (Array.getElem?_eq_some_iff.1 h1).1
    · obtain ⟨es', h1, _⟩ := this; exact (Array.getElem?_eq_some_iff.1 h1).1
    · exact (Array.getElem?_eq_some_iff.1 this).1
    · obtain ⟨cs, e, fz, h1, _⟩ := this; exact (Array.getElem?_eq_some_iff.1 h1).1
  have hheap : ∀ i, (w.alloc o).heap[i]? = if i = w.heap.size then some o else w.heap[i]? := fun i => by
    show (w.heap.push o)[i]? = _
    rw [Array.getElem?_push]
  refine ⟨⟨fun b y hy => ?_, fun b y hy => ?_, fun b1 b2 y1 y2 g1 g2 he => ?_⟩, ⟨Nat.le_succ _, Env.add_agree _ _ _ _, fun b y hy => ?_, rfl, rfl, rfl, by show _ ≤ (w.heap.push o).size; simp, fun i hi hf => ?_⟩⟩
  · simp only [Hp.new, Tr.get_put] at hy ⊢
    split at hy
    · omega
    · have := h.lt _ _ hy; omega
  · simp only [Hp.new, Tr.get_put] at hy ⊢
    split at hy
    · rename_i e1; subst e1; cases hy
      rw [hs, hheap, if_pos rfl]; exact hx
    · rw [hne _ (h.lt _ _ hy), hheap, if_neg (by have := hsz _ _ hy; omega)]
      exact (h.rel _ _ hy).mono (Env.add_agree _ _ _ _) (Nat.le_succ _) (h.lt _ _ hy)
  · simp only [Hp.new, Tr.get_put] at g1 g2
    split at g1 <;> split at g2
    · omega
    · rename_i e1 e2; subst e1
      rw [hs, hne _ (h.lt _ _ g2)] at he
      have := hsz _ _ g2; omega
    · rename_i e1 e2; subst e2
      rw [hs, hne _ (h.lt _ _ g1)] at he
      have := hsz _ _ g1; omega
    · rw [hne _ (h.lt _ _ g1), hne _ (h.lt _ _ g2)] at he
      exact h.inj _ _ _ _ g1 g2 he
  · simp only [Hp.new, Tr.get_put] at hy
    split at hy
    · rename_i e1; subst e1; exact .inr (by rw [hs]; exact Nat.le_refl _)
    · exact .inl ⟨b, y, hy, id, hne _ (h.lt _ _ hy)⟩
  · rw [hheap, if_neg (by omega)]
end
end Go.Proofs.YtanhkchpffkloaaGreatDoor
