import Derived.Test.YtanhkchpffkloaaGreatDoorEh
import Derived.Laws.AppendOwn
namespace Go.Proofs.YtanhkchpffkloaaGreatDoor
open Go
set_option linter.unusedVariables false
set_option linter.unusedSimpArgs false
noncomputable section
variable {ds : List Deferred}
theorem HRel.congr {E : Env} {H H' : Hp} {w : World} (h : HRel E H w) (hb : ∀ b, H'.b.get b = H.b.get b) (hn : H'.next = H.next) : HRel E H' w :=
  ⟨fun b x hx => by rw [hn]; exact h.lt b x (by rw [← hb]; exact hx), fun b x hx => by rw [hn]; exact h.rel b x (by rw [← hb]; exact hx), fun b b' x x' h1 h2 he => h.inj b b' x x' (by rw [← hb]; exact h1) (by rw [← hb]; exact h2) he⟩
theorem Gd.congr {E E' : Env} {H H1 H2 : Hp} {w w' : World} (h : Gd E E' H H1 w w') (hb : ∀ b, H2.b.get b = H1.b.get b) (hn : H2.next = H1.next) : Gd E E' H H2 w w' :=
  ⟨by rw [hn]; exact h.le, h.ag, fun b x hx => h.dom b x (by rw [← hb]; exact hx), h.os, h.tape, h.output, h.size, h.frame⟩
theorem HRel.drop {E : Env} {H : Hp} {w : World} (h : HRel E H w) (b0 : Nat) : HRel E ⟨H.b.put b0 none, H.next⟩ w ∧ Gd E E H ⟨H.b.put b0 none, H.next⟩ w w := by
  have key : ∀ b x, (H.b.put b0 none).get b = some x → H.b.get b = some x := fun b x hx => by
    rw [Tr.get_put] at hx
    split at hx
    · cases hx
    · exact hx
  exact ⟨⟨fun b x hx => h.lt b x (key b x hx), fun b x hx => h.rel b x (key b x hx), fun b b' x x' h1 h2 he => h.inj b b' x x' (key b x h1) (key b' x' h2) he⟩,
    ⟨Nat.le_refl _, Agree.refl _ _, fun b x hx => .inl ⟨b, x, key b x hx, id, rfl⟩, rfl, rfl, rfl, Nat.le_refl _, fun _ _ _ => rfl⟩⟩
/-- a block gets a new number. -/
theorem HRel.renum {E : Env} {H : Hp} {w : World} (h : HRel E H w) {b0 : Nat} {x0 : Blk} (hb : H.b.get b0 = some x0) :
    HRel (E.add H.next (E.s b0) (E.k b0)) ⟨(H.b.put b0 none).put H.next (some x0), H.next + 1⟩ w ∧ Gd E (E.add H.next (E.s b0) (E.k b0)) H ⟨(H.b.put b0 none).put H.next (some x0), H.next + 1⟩ w w := by
  have hlt := h.lt _ _ hb
  have hs : (E.add H.next (E.s b0) (E.k b0)).s H.next = E.s b0 := by simp [Env.add]
  have hk : (E.add H.next (E.s b0) (E.k b0)).k H.next = E.k b0 := by simp [Env.add]
  have hne : ∀ b, b < H.next → (E.add H.next (E.s b0) (E.k b0)).s b = E.s b := fun b hb => (Env.add_agree E H.next (E.s b0) (E.k b0) b hb).1
  have key : ∀ b x, ((H.b.put b0 none).put H.next (some x0)).get b = some x → (b = H.next ∧ x = x0) ∨ (b ≠ H.next ∧ b ≠ b0 ∧ H.b.get b = some x) := fun b x hx => by
    rw [Tr.get_put] at hx
    split at hx
    · rename_i e; cases hx; exact .inl ⟨e, rfl⟩
    · rename_i e
      rw [Tr.get_put] at hx
      split at hx
      · cases hx
      · rename_i e2; exact .inr ⟨e, e2, hx⟩
  refine ⟨⟨fun b x hx => ?_, fun b x hx => ?_, fun b b' x x' h1 h2 he => ?_⟩, ⟨Nat.le_succ _, Env.add_agree _ _ _ _, fun b x hx => ?_, rfl, rfl, rfl, Nat.le_refl _, fun _ _ _ => rfl⟩⟩
  · rcases key b x hx with ⟨e, _⟩ | ⟨_, _, h1⟩
    · show b < H.next + 1; omega
    · have := h.lt b x h1; show b < H.next + 1; omega
  · rcases key b x hx with ⟨e, e2⟩ | ⟨_, _, h1⟩
    · subst e e2
      rw [hs]
      have := h.rel _ _ hb
      unfold BR at this ⊢
      split at this
      · obtain ⟨cs, fz, g1, g2, g3, g4, g5⟩ := this
        exact ⟨cs, fz, g1, g2, g3, by rw [hk]; exact g4, fun i v hi hv => by obtain ⟨v', e, r⟩ := g5 i v hi hv; exact ⟨v', e, r.mono (Env.add_agree _ _ _ _) (Nat.le_succ _)⟩⟩
      · obtain ⟨es', g1, g2⟩ := this
        exact ⟨es', g1, g2.mono (Env.add_agree _ _ _ _) (Nat.le_succ _)⟩
      · exact this
      · obtain ⟨cs, e, fz, g1, g2⟩ := this
        exact ⟨cs, e, fz, g1, fun i v hv => by obtain ⟨v', e, r⟩ := g2 i v hv; exact ⟨v', e, r.mono (Env.add_agree _ _ _ _) (Nat.le_succ _)⟩⟩
    · rw [hne b (h.lt _ _ h1)]
      exact (h.rel _ _ h1).mono (Env.add_agree _ _ _ _) (Nat.le_succ _) (h.lt _ _ h1)
  · rcases key b x h1 with ⟨e, _⟩ | ⟨n1, n2, g1⟩ <;> rcases key b' x' h2 with ⟨e', _⟩ | ⟨n1', n2', g1'⟩
    · omega
    · subst e
      rw [hs, hne b' (h.lt _ _ g1')] at he
      exact absurd (h.inj _ _ _ _ hb g1' he).symm n2'
    · subst e'
      rw [hs, hne b (h.lt _ _ g1)] at he
      exact absurd (h.inj _ _ _ _ g1 hb he) n2
    · rw [hne b (h.lt _ _ g1), hne b' (h.lt _ _ g1')] at he
      exact h.inj _ _ _ _ g1 g1' he
  · rcases key b x hx with ⟨e, e2⟩ | ⟨_, _, h1⟩
    · subst e; exact .inl ⟨b0, x0, hb, fun hw => e2 ▸ hw, hs⟩
    · exact .inl ⟨b, x, h1, id, hne b (h.lt _ _ h1)⟩
/-- a block holds something else, in memory too. -/
theorem HRel.upd {E : Env} {H : Hp} {w w' : World} (h : HRel E H w) {b0 : Nat} {x0 x1 : Blk} (hb : H.b.get b0 = some x0) (hx : BR E H.next b0 x1 w'.heap[E.s b0]?) (ho : ∀ i, i ≠ E.s b0 → w'.heap[i]? = w.heap[i]?)
    (h1 : w'.os = w.os) (h2 : w'.tape = w.tape) (h3 : w'.output = w.output) (h4 : w.heap.size ≤ w'.heap.size) (h5 : wr x0 = true) : HRel E ⟨H.b.put b0 (some x1), H.next⟩ w' ∧ Gd E E H ⟨H.b.put b0 (some x1), H.next⟩ w w' := by
  have key : ∀ b x, (H.b.put b0 (some x1)).get b = some x → (b = b0 ∧ x = x1) ∨ (b ≠ b0 ∧ H.b.get b = some x) := fun b x hx => by
    rw [Tr.get_put] at hx
    split at hx
    · rename_i e; cases hx; exact .inl ⟨e, rfl⟩
    · rename_i e; exact .inr ⟨e, hx⟩
  have dom : ∀ b x, (H.b.put b0 (some x1)).get b = some x → ∃ x', H.b.get b = some x' := fun b x hx => by
    rcases key b x hx with ⟨e, _⟩ | ⟨_, g⟩
    · subst e; exact ⟨_, hb⟩
    · exact ⟨_, g⟩
  refine ⟨⟨fun b x hx => ?_, fun b x hx => ?_, fun b b' x x' g1 g2 he => ?_⟩, ⟨Nat.le_refl _, Agree.refl _ _, fun b x hx => ?_, h1, h2, h3, h4, fun i hi hf => ho i (fun e => hf b0 x0 hb h5 e.symm)⟩⟩
  · obtain ⟨x', g⟩ := dom b x hx; exact h.lt b x' g
  · rcases key b x hx with ⟨e, e2⟩ | ⟨n, g⟩
    · subst e e2; assumption
    · rw [ho _ (fun e => n (h.inj _ _ _ _ g hb e))]; exact h.rel b x g
  · obtain ⟨y, g⟩ := dom b x g1
    obtain ⟨y', g'⟩ := dom b' x' g2
    exact h.inj b b' y y' g g' he
  · rcases key b x hx with ⟨e, _⟩ | ⟨_, g⟩
    · subst e; exact .inl ⟨_, x0, hb, fun _ => h5, rfl⟩
    · exact .inl ⟨b, x, g, id, rfl⟩
theorem cap_ge (w : World) (need old : Nat) (e : TypeId) : need ≤ grownCap w need old e := by
  show need ≤ need + _
  exact Nat.le_add_right _ _
/-- a row that has grown into new memory. -/
theorem grown_new {E : Env} {H : Hp} {w : World} (hr : HRel E H w) {l l' : List Value} (hl : VL E H.next l l') {e : TypeId} {z : Array Value} {n c size : Nat} (hn : l.length = n * size) (hz : z.size = size) (hc : n ≤ c) :
    HRel (E.add H.next w.heap.size (c * size)) (H.new (.row (Tr.lay l 0 .nil) (n * size) e true)) (w.drew.alloc (.cells (l'.toArray ++ Builtin.zeroCells z (c - n)) e)) ∧
    Gd E (E.add H.next w.heap.size (c * size)) H (H.new (.row (Tr.lay l 0 .nil) (n * size) e true)) w (w.drew.alloc (.cells (l'.toArray ++ Builtin.zeroCells z (c - n)) e)) ∧
    (0 < size → VR (E.add H.next w.heap.size (c * size)) (H.next + 1) (.slice (some ⟨H.next, 0, none⟩) n (OPN + size)) (.slice (some ⟨w.heap.size, 0, none⟩) n c)) := by
  have h2 : VL (E.add H.next w.heap.size (c * size)) (H.next + 1) l l' := hl.mono (Env.add_agree _ _ _ _) (Nat.le_succ _)
  have hln := hl.length
  have hs : (E.add H.next w.heap.size (c * size)).s H.next = w.heap.size := by simp [Env.add]
  have hk : (E.add H.next w.heap.size (c * size)).k H.next = c * size := by simp [Env.add]
  have hzs : (Builtin.zeroCells z (c - n)).size = (c - n) * size := by simp [Builtin.zeroCells, hz]
  have hsz : (l'.toArray ++ Builtin.zeroCells z (c - n)).size = c * size := by
    rw [Array.size_append, hzs, List.size_toArray, ← hln, hn, ← Nat.add_mul]
    congr 1; omega
  have hrd : HRel E H w.drew := hr.heap rfl
  obtain ⟨g1, g2⟩ := hrd.new (x := .row (Tr.lay l 0 .nil) (n * size) e true) (o := .cells (l'.toArray ++ Builtin.zeroCells z (c - n)) e) (k := c * size)
    ⟨_, (0, 0), rfl, ⟨fun i _ hh => by omega, fun _ => rfl⟩, by rw [hsz]; exact Nat.mul_le_mul_right _ hc, by rw [hsz]; simp [Env.add], fun i v hi hv => by
      obtain ⟨v', e1, r⟩ := map_rows h2 i v hv
      exact ⟨v', by rw [Array.getElem?_append_left (by have := (Array.getElem?_eq_some_iff.1 e1).1; exact this)]; exact e1, r⟩⟩
  refine ⟨g1, ⟨g2.le, g2.ag, g2.dom, g2.os, g2.tape, g2.output, g2.size, g2.frame⟩, fun hp => ?_⟩
  have z1 := VR.open_ (E := E.add H.next w.heap.size (c * size)) (N := H.next + 1) (b := H.next) (o := 0) (l := n) (c := OPN + size) (c' := c) (Nat.lt_succ_self _) (by omega) hc (by rw [hk]; simp [Nat.add_sub_cancel_left])
  rw [hs] at z1; exact z1
theorem splice_get {a : Nat} {cur : Array Value} {m : List Value} (h : a + m.length ≤ cur.size) (i : Nat) : ((cur.toList.take a ++ m ++ cur.toList.drop (a + m.length)).toArray)[i]? = if i < a then cur[i]? else if i < a + m.length then m[i - a]? else cur[i]? := by
  rw [List.getElem?_toArray, List.append_assoc]
  by_cases h1 : i < a
  · rw [if_pos h1, List.getElem?_append_left (by simp; omega), List.getElem?_take_of_lt h1, Array.getElem?_toList]
  · have hl : (cur.toList.take a).length = a := by simp; omega
    rw [if_neg h1, List.getElem?_append_right (by omega), hl]
    by_cases h2 : i < a + m.length
    · rw [if_pos h2, List.getElem?_append_left (by omega)]
    · rw [if_neg h2, List.getElem?_append_right (by omega), List.getElem?_drop, Array.getElem?_toList]
      congr 1; omega
def growOpen (H : Hp) (p : Addr) (len c : Nat) (more : List Value) (n : Nat) (e : TypeId) (size : Nat) : Option (Value × Hp) := match H.b.get p.block with
  | some (.row cc k e' true) => ite' (Nat.beq e' e) (ite' (Nat.ble (Nat.mul len size) k) (some (.slice (some ⟨H.next, 0, none⟩) (Nat.add len n) c, ⟨(H.b.put p.block none).put H.next (some (.row (Tr.lay more (Nat.mul len size) cc) (Nat.mul (Nat.add len n) size) e true)), Nat.succ H.next⟩)) none) none
  | _ => none
def growNew (H : Hp) (l : List Value) (n : Nat) (e : TypeId) (size : Nat) : Option (Value × Hp) := some (.slice (some ⟨H.next, 0, none⟩) n (Nat.add OPN size), H.new (.row (Tr.lay l 0 .nil) (Nat.mul n size) e true))
def appendS (H : Hp) (s : Value) (more : List Value) (n : Nat) (e : TypeId) (size : Nat) : Option (Value × Hp) := match s with
  | .slice none _ _ => growNew H more n e size
  | .slice (some p) len c => ite' (Nat.ble c OPN)
      (ite' (Nat.ble (Nat.add len n) c)
        (match Hp.storeAll more H p.block (Nat.add p.off (Nat.mul len size)) with
          | some H' => some (.slice (some p) (Nat.add len n) c, H')
          | none => none)
        (match H.cells p.block p.off (Nat.mul len size) with
          | some olds => growNew H (List.append olds more) (Nat.add len n) e size
          | none => none))
      (ite' (Nat.beq p.off 0) (ite' (Nat.beq c (Nat.add OPN size)) (growOpen H p len c more n e size) none) none)
  | _ => none
/-- how long a slice is. -/
def lenS : Value → Nat
  | .slice _ n _ => n
  | _ => 0
def appendA (T : Cx) (H : Hp) (t : TypeId) (s : Value) (more : List Value) (n : Nat) : Option (Value × Hp) := match T.und t with
  | some (.slice e) => (match T.ty.get e with
    | some i => (match i.zero with
      | some z => ite' (Nat.beq z.cells.toList.length i.size) (ite' (Nat.beq i.size 0) none (ite' (Nat.ble (Nat.mul (Nat.mul 2 (Nat.add (lenS s) n)) i.bytes) 281474976710656) (ite' (Nat.ble (Nat.add (lenS s) n) 1000000000) (ite' (allOne more) (ite' (Nat.beq n 0) none (appendS H s more n e i.size)) none) none) none)) none
      | none => none)
    | none => none)
  | _ => none
/-- what is appended: n elements, these cells. -/
structure SrcA (P : Program) (w : World) (tx : TypeId) (x : Value) (n size : Nat) (news : List Value) : Prop where
  kind : (∃ e, P.underlying tx = some (.slice e)) ∨ P.underlying tx = some .string
  len : ∀ W, (Builtin.lenOf x).run P W = .ok n W
  cells : ∀ W : World, W.heap = w.heap → (Builtin.firstCells size n x).run P W = .ok news.toArray W
theorem SrcA.slice {P : Program} {w : World} {t e : TypeId} {a : Addr} {n c size : Nat} {news : List Value} (ht : P.underlying t = some (.slice e)) (hl : news.length = n * size) (h : ∀ j u, news[j]? = some u → w.cell? (a.add j) = some u) : SrcA P w t (.slice (some a) n c) n size news :=
  ⟨.inl ⟨_, ht⟩, fun W => by simp [Builtin.lenOf], fun W hW => run_firstCells_some (P := P) W size n a n c news hl (fun j u hu => by
    have := h j u hu
    unfold World.cell? at this ⊢
    rw [hW]; exact this)⟩
section
variable {P : Program} {w : World} {t tx ty e : TypeId} {i : TypeInfo} {z x : Value} {n : Nat} {news : List Value}
theorem app_nil (ht : P.underlying t = some (.slice e)) (hi : P.info? e = some i) (hz : i.zero = some z) (hs : SrcA P w tx x n i.size news) (h0 : 0 < n) (h63 : (n : Int) ≤ 9223372036854775807) (h48 : n * i.bytes ≤ 281474976710656) :
    (Builtin.append_ #[t, tx] ty #[.slice none 0 0, x]).run P w = .ok (.slice (some ⟨w.heap.size, 0, none⟩) n (grownCap w n 0 e)) (w.drew.alloc (.cells (news.toArray ++ Builtin.zeroCells z.cells (grownCap w n 0 e - n)) e)) := by
  have hn : n ≠ 0 := by omega
  have h63' : ¬ (9223372036854775807 < (n : Int)) := by omega
  have h48' : ¬ (281474976710656 < Builtin.nextslicecap n 0 * i.bytes) := by rw [nextslicecap_zero h0]; omega
  rcases hs.kind with ⟨e', hd⟩ | hd <;> simp [Builtin.append_, run_underlying ht, run_underlying hd, sizeOf, typeInfo, zeroValue, hi, hz, hs.len, hn, h63', h48', Question.forced, run_firstCells_none, hs.cells w.drew rfl, newRow, grownCap]
theorem app_grow (ht : P.underlying t = some (.slice e)) (hi : P.info? e = some i) (hz : i.zero = some z) (b : Addr) (sLen sCap : Nat) (olds : List Value) (hlo : olds.length = sLen * i.size) (holds : ∀ j v, olds[j]? = some v → w.cell? (b.add j) = some v)
    (hs : SrcA P w tx x n i.size news) (hg : sCap < sLen + n) (h63 : ((sLen + n : Nat) : Int) ≤ 9223372036854775807) (hfit : Builtin.nextslicecap (sLen + n) sCap * i.bytes ≤ 281474976710656) :
    (Builtin.append_ #[t, tx] ty #[.slice (some b) sLen sCap, x]).run P w = .ok (.slice (some ⟨w.heap.size, 0, none⟩) (sLen + n) (grownCap w (sLen + n) sCap e))
        (w.drew.alloc (.cells (olds.toArray ++ news.toArray ++ Builtin.zeroCells z.cells (grownCap w (sLen + n) sCap e - (sLen + n))) e)) := by
  have hn : ¬ (sLen + n ≤ sCap) := by omega
  have h63' : ¬ (9223372036854775807 < ((sLen : Int) + (n : Int))) := by omega
  have h48' : ¬ (281474976710656 < Builtin.nextslicecap (sLen + n) sCap * i.bytes) := by omega
  have hf := run_firstCells_some (P := P) w.drew i.size sLen b sLen sCap olds hlo holds
  rcases hs.kind with ⟨e', hd⟩ | hd <;> simp [Builtin.append_, run_underlying ht, run_underlying hd, sizeOf, typeInfo, zeroValue, hi, hz, hs.len, hn, h63', h48', Question.forced, hf, hs.cells w.drew rfl, newRow, grownCap] <;> exact congrArg (fun q => w.drew.alloc (Obj.cells q e)) (by apply Array.ext'; simp)
theorem app_fits {w' : World} (ht : P.underlying t = some (.slice e)) (hi : P.info? e = some i) (b : Addr) (sLen sCap : Nat) (hs : SrcA P w tx x n i.size news) (hroom : sLen + n ≤ sCap) (hst : (storeCells (b.add (sLen * i.size)) news).run P w = .ok () w') :
    (Builtin.append_ #[t, tx] ty #[.slice (some b) sLen sCap, x]).run P w = .ok (.slice (some b) (sLen + n) sCap) w' := by
  rcases hs.kind with ⟨e', hd⟩ | hd <;> simp [Builtin.append_, run_underlying ht, run_underlying hd, sizeOf, typeInfo, hi, hs.len, hroom, hs.cells w rfl, hst]
end
/-- what an append of these cells does. -/
structure SrcR (P : Program) (w : World) (t tx ty e : TypeId) (i : TypeInfo) (z x : Value) (n : Nat) (news : List Value) : Prop where
  nil : 0 < n → (n : Int) ≤ 9223372036854775807 → n * i.bytes ≤ 281474976710656 → (Builtin.append_ #[t, tx] ty #[.slice none 0 0, x]).run P w = .ok (.slice (some ⟨w.heap.size, 0, none⟩) n (grownCap w n 0 e)) (w.drew.alloc (.cells (news.toArray ++ Builtin.zeroCells z.cells (grownCap w n 0 e - n)) e))
  grow : ∀ (b : Addr) (sLen sCap : Nat) (olds : List Value), olds.length = sLen * i.size → (∀ j v, olds[j]? = some v → w.cell? (b.add j) = some v) → sCap < sLen + n → ((sLen + n : Nat) : Int) ≤ 9223372036854775807 → Builtin.nextslicecap (sLen + n) sCap * i.bytes ≤ 281474976710656 →
    (Builtin.append_ #[t, tx] ty #[.slice (some b) sLen sCap, x]).run P w = .ok (.slice (some ⟨w.heap.size, 0, none⟩) (sLen + n) (grownCap w (sLen + n) sCap e))
        (w.drew.alloc (.cells (olds.toArray ++ news.toArray ++ Builtin.zeroCells z.cells (grownCap w (sLen + n) sCap e - (sLen + n))) e))
  fits : ∀ (b : Addr) (sLen sCap : Nat) {w' : World}, sLen + n ≤ sCap → (storeCells (b.add (sLen * i.size)) news).run P w = .ok () w' → (Builtin.append_ #[t, tx] ty #[.slice (some b) sLen sCap, x]).run P w = .ok (.slice (some b) (sLen + n) sCap) w'
theorem SrcA.r {P : Program} {w : World} {t tx ty e : TypeId} {i : TypeInfo} {z x : Value} {n : Nat} {news : List Value} (ht : P.underlying t = some (.slice e)) (hi : P.info? e = some i) (hz : i.zero = some z) (hs : SrcA P w tx x n i.size news) : SrcR P w t tx ty e i z x n news :=
  ⟨fun h0 h1 h2 => app_nil ht hi hz hs h0 h1 h2, fun b sLen sCap olds h1 h2 h3 h4 h5 => app_grow ht hi hz b sLen sCap olds h1 h2 hs h3 h4 h5, fun b sLen sCap w' h1 h2 => app_fits ht hi b sLen sCap hs h1 h2⟩
theorem append_runR {P : Program} {T : Cx} (hT : Fits P T) {E : Env} {H H' : Hp} {w : World} (hr : HRel E H w) {t tx ty : TypeId} {s s' v xx : Value} {more more' : List Value} {n : Nat} (hf : appendA T H t s more n = some (v, H')) (hs : VR E H.next s s')
    (hm : VL E H.next more more') (hsrc : ∀ e i z, T.und t = some (.slice e) → T.ty.get e = some i → i.zero = some z → SrcR P w t tx ty e i z xx n more') (hlen : ∀ e i, T.und t = some (.slice e) → T.ty.get e = some i → more.length = n * i.size) :
    ∃ E' v' w', (Builtin.append_ #[t, tx] ty #[s', xx]).run P w = .ok v' w' ∧ Gd E E' H H' w w' ∧ VR E' H'.next v v' ∧ HRel E' H' w' := by
  unfold appendA at hf
  split at hf
  · rename_i e hu
    split at hf
    · rename_i i hi
      split at hf
      · rename_i z hz
        obtain ⟨h1, f1⟩ := ite'_some hf
        clear hf
        obtain ⟨h2, f2⟩ := ite'_none f1
        clear f1
        obtain ⟨h3, f3⟩ := ite'_some f2
        clear f2
        obtain ⟨h4, f4⟩ := ite'_some f3
        clear f3
        obtain ⟨h5, f5⟩ := ite'_some f4
        clear f4
        obtain ⟨h6, hf⟩ := ite'_none f5
        clear f5
        have hml := hlen e i hu hi
        have hml' : more'.length = n * i.size := by rw [← hm.length]; exact hml
        have hzs : z.cells.size = i.size := by have := Nat.eq_of_beq_eq_true h1; simpa using this
        have hsz0 : 0 < i.size := Nat.pos_of_ne_zero fun e0 => by rw [e0] at h2; cases h2
        have hn0 : 0 < n := Nat.pos_of_ne_zero fun e0 => by rw [e0] at h6; cases h6
        have hb3 := Nat.le_of_ble_eq_true h3
        have hb4 := Nat.le_of_ble_eq_true h4
        have hone : ∀ u ∈ more', u.oneCell' = true := by
          have : ∀ {l l' : List Value}, VL E H.next l l' → allOne l = true → ∀ u ∈ l', u.oneCell' = true := by
            intro l
            induction l with
            | nil => intro l' h _ u hu; cases h; cases hu
            | cons x l ih =>
              intro l' h ha u hu
              cases h with
              | cons hx ht =>
                change ite' (oneB x) (allOne l) false = true at ha
                cases hb : oneB x with
                | false => rw [hb] at ha; cases ha
                | true =>
                  rw [hb] at ha
                  rcases List.mem_cons.1 hu with e | e
                  · exact e ▸ hx.one hb
                  · exact ih ht ha u e
          exact this hm h5
        have hP := hT.und hu
        have hI := hT.ty e i hi
        have hR := hsrc e i z hu hi hz
        unfold appendS at hf
        split at hf
        · -- nothing yet
          rename_i l0 c0
          obtain ⟨e1, e2, e3⟩ := hs.snil
          subst e1 e2 e3
          have hb3' : n * i.bytes ≤ 281474976710656 := by
            have : Nat.mul (Nat.mul 2 (Nat.add (lenS (.slice none 0 0)) n)) i.bytes = 2 * n * i.bytes := by show 2 * (0 + n) * i.bytes = _; rw [Nat.zero_add]
            rw [this] at hb3
            have : n * i.bytes ≤ 2 * n * i.bytes := Nat.mul_le_mul_right _ (by omega)
            omega
          have hb4' : n ≤ 1000000000 := by
            have : Nat.add (lenS (.slice none 0 0)) n = 0 + n := rfl
            omega
          cases hf
          have hrun := hR.nil hn0 (by omega) hb3'
          obtain ⟨g1, g2, g3⟩ := grown_new hr hm (e := e) hml hzs (cap_ge w n 0 e)
          exact ⟨_, _, _, hrun, g2, g3 hsz0, g1⟩
        · rename_i p len c0
          obtain ⟨hsp, hpb, c', e1, hc⟩ := hs.sl
          subst e1
          have hlen0 : Nat.add (lenS (.slice (some p) len c0)) n = len + n := rfl
          rw [hlen0] at hb3 hb4
          have hbytes : 2 * (len + n) * i.bytes ≤ 281474976710656 := hb3
          have hfit : ∀ q, q < len + n → Builtin.nextslicecap (len + n) q * i.bytes ≤ 281474976710656 := fun q hq => by
            have := Nat.mul_le_mul_right i.bytes (nextslicecap_le hq)
            omega
          cases hb : Nat.ble c0 OPN with
          | true =>
            rw [hb, ite'_true] at hf
            have hle := Nat.le_of_ble_eq_true hb
            obtain ⟨hc1, hc2⟩ : c0 < OPN ∧ c' = c0 := by
              rcases hc with h | h
              · exact h
              · omega
            subst hc2
            cases hr1 : Nat.ble (Nat.add len n) c' with
            | true =>
              rw [hr1, ite'_true] at hf
              have hroom : len + n ≤ c' := Nat.le_of_ble_eq_true hr1
              split at hf
              · rename_i H1 hst; cases hf
                obtain ⟨w', e3, r3, g3, n3⟩ := storeAll_ok (P := P) (off := p.off + len * i.size) 0 (by simpa using hst) hm h5 hr
                refine ⟨E, .slice (some ⟨E.s p.block, p.off, none⟩) (len + n) c', w', ?_, g3, ?_, r3⟩
                · exact hR.fits _ _ _ hroom (by rw [add_plain']; exact e3)
                · rw [n3]
                  obtain ⟨pb, po, ps⟩ := p
                  cases hsp
                  exact .slice hpb hc1
              · cases hf
            | false =>
              rw [hr1, ite'_false] at hf
              have hgt := ble_false hr1
              split at hf
              · rename_i olds ho; cases hf
                obtain ⟨hn1, olds', ro, hoc⟩ := hr.cells ho
                have hol : olds'.length = len * i.size := by rw [← ro.length]; exact hn1
                have hrun := hR.grow ⟨E.s p.block, p.off, none⟩ len c' olds' hol (fun j u hu => by
                  rw [add_plain', hoc j (by have := (List.getElem?_eq_some_iff.1 hu).1; rw [hol] at this; exact this)]; exact hu) hgt (by omega) (hfit c' hgt)
                have hll : (List.append olds more).length = (len + n) * i.size := by
                  show (olds ++ more).length = _
                  rw [List.length_append, hn1, hml, Nat.add_mul]; rfl
                obtain ⟨g1, g2, g3⟩ := grown_new hr (ro.append hm) (e := e) hll hzs (cap_ge w (len + n) c' e)
                refine ⟨_, _, _, hrun, ?_, g3 hsz0, ?_⟩
                · have z1 := g2; rw [show (olds' ++ more').toArray = olds'.toArray ++ more'.toArray from by simp] at z1; exact z1
                · have z1 := g1; rw [show (olds' ++ more').toArray = olds'.toArray ++ more'.toArray from by simp] at z1; exact z1
              · cases hf
          | false =>
            rw [hb, ite'_false] at hf
            obtain ⟨k1, f1⟩ := ite'_some hf
            clear hf
            obtain ⟨k2, hf⟩ := ite'_some f1
            clear f1
            have hoff := Nat.eq_of_beq_eq_true k1
            have hcc : c0 = OPN + i.size := Nat.eq_of_beq_eq_true k2
            have hgt := ble_false hb
            obtain ⟨hc1, hc2, hc3⟩ : OPN < c0 ∧ len ≤ c' ∧ p.off + c' * (c0 - OPN) = E.k p.block := by
              rcases hc with h | h
              · omega
              · exact h
            rw [hcc, Nat.add_sub_cancel_left, hoff, Nat.zero_add] at hc3
            unfold growOpen at hf
            split at hf
            · rename_i cc k e' hbk
              obtain ⟨k3, f1⟩ := ite'_some hf
              clear hf
              obtain ⟨k4, hf⟩ := ite'_some f1
              clear f1
              have he' := Nat.eq_of_beq_eq_true k3
              subst he'
              have hk4 : len * i.size ≤ k := Nat.le_of_ble_eq_true k4
              cases hf
              obtain ⟨cs, fz, q1, q2, q3, q4, q5⟩ := hr.rel _ _ hbk
              have hfz := q2.2 rfl
              subst hfz
              have q4' : cs.size = E.k p.block := by simpa using q4
              have hoffp : (⟨E.s p.block, p.off, none⟩ : Addr) = ⟨E.s p.block, 0, none⟩ := by rw [hoff]
              rw [hoffp]
              by_cases hroom : len + n ≤ c'
              · -- in its place
                have hfits : len * i.size + more'.length ≤ cs.size := by
                  rw [hml', q4', ← hc3, ← Nat.add_mul]; exact Nat.mul_le_mul_right _ hroom
                have hst := run_storeCells_at P (E.s p.block) (len * i.size) e' more' 0 cs w q1 (by simpa using hfits) hone
                simp only [Nat.add_zero] at hst
                have hrun := hR.fits ⟨E.s p.block, 0, none⟩ len c' hroom (by rw [add_plain', Nat.zero_add]; exact hst)
                obtain ⟨g1, g2⟩ := hr.renum hbk
                have hgetn : ((H.b.put p.block none).put H.next (some (Blk.row cc k e' true))).get H.next = some (.row cc k e' true) := by rw [Tr.get_put, if_pos rfl]
                have hsn : (E.add H.next (E.s p.block) (E.k p.block)).s H.next = E.s p.block := by simp [Env.add]
                have hkn : (E.add H.next (E.s p.block) (E.k p.block)).k H.next = E.k p.block := by simp [Env.add]
                have hm2 : VL (E.add H.next (E.s p.block) (E.k p.block)) (H.next + 1) more more' := hm.mono (Env.add_agree _ _ _ _) (Nat.le_succ _)
                have hnsz : (cs.toList.take (len * i.size) ++ more' ++ cs.toList.drop (len * i.size + more'.length)).toArray.size = cs.size := by
                  simp only [List.size_toArray, List.length_append, List.length_take, List.length_drop, Array.length_toList]; omega
                obtain ⟨u1, u2⟩ := g1.upd (w' := w.setRow (E.s p.block) (cs.toList.take (len * i.size) ++ more' ++ cs.toList.drop (len * i.size + more'.length)).toArray) (x1 := .row (Tr.lay more (len * i.size) cc) ((len + n) * i.size) e' true) hgetn
                  (by
                    rw [hsn, setRow_heap w _ cs _ e' (0, 0) q1]
                    refine ⟨_, (0, 0), rfl, ⟨fun j _ hh => by omega, fun _ => rfl⟩, ?_, ?_, fun j u hj hu => ?_⟩
                    · rw [hnsz, q4', ← hc3]; exact Nat.mul_le_mul_right _ hroom
                    · rw [hnsz, q4']; simp [hkn]
                    · rw [splice_get hfits]
                      rw [Tr.get_lay] at hu
                      by_cases j1 : j < len * i.size
                      · rw [if_pos j1]
                        rw [if_neg (by omega)] at hu
                        obtain ⟨u', e5, r5⟩ := q5 j u (by omega) hu
                        exact ⟨u', e5, r5.mono (Env.add_agree _ _ _ _) (Nat.le_succ _)⟩
                      · have hj2 : j < len * i.size + more.length := by rw [hml, ← Nat.add_mul]; exact hj
                        rw [if_neg j1, if_pos (by rw [hml', ← hml]; exact hj2)]
                        rw [if_pos ⟨by omega, hj2⟩] at hu
                        exact hm2.get hu)
                  (fun j hj => setRow_other w _ j _ (by rw [hsn] at hj; exact hj)) rfl rfl rfl (by simp [World.setRow]) rfl
                have hcg : ∀ b, ((H.b.put p.block none).put H.next (some (Blk.row (Tr.lay more (Nat.mul len i.size) cc) (Nat.mul (Nat.add len n) i.size) e' true))).get b = (((H.b.put p.block none).put H.next (some (Blk.row cc k e' true))).put H.next (some (.row (Tr.lay more (len * i.size) cc) ((len + n) * i.size) e' true))).get b := fun b => by
                  simp only [Tr.get_put]
                  split
                  · rfl
                  · rfl
                refine ⟨_, _, _, hrun, (g2.trans u2).congr hcg rfl, ?_, u1.congr hcg rfl⟩
                have z1 := VR.open_ (E := E.add H.next (E.s p.block) (E.k p.block)) (N := H.next + 1) (b := H.next) (o := 0) (l := len + n) (c := c0) (c' := c') (Nat.lt_succ_self _) hc1 hroom (by rw [hkn, hcc, Nat.add_sub_cancel_left, Nat.zero_add]; exact hc3)
                rw [hsn] at z1; exact z1
              · -- in new memory
                have hgt2 : c' < len + n := by omega
                have hle2 : len * i.size ≤ cs.size := by omega
                have hol : (cs.toList.take (len * i.size)).length = len * i.size := by simp; omega
                have hrun := hR.grow ⟨E.s p.block, 0, none⟩ len c' (cs.toList.take (len * i.size)) hol (fun j u hu => by
                  have hj : j < len * i.size := by have := (List.getElem?_eq_some_iff.1 hu).1; rw [hol] at this; exact this
                  rw [List.getElem?_take_of_lt hj, Array.getElem?_toList] at hu
                  rw [add_plain', Nat.zero_add]
                  simp [World.cell?, q1, hu]) hgt2 (by omega) (hfit c' hgt2)
                obtain ⟨C, hC⟩ : ∃ C, C = grownCap w (len + n) c' e' := ⟨_, rfl⟩
                have hCge : len + n ≤ C := hC ▸ cap_ge w (len + n) c' e'
                rw [← hC] at hrun
                have hm2 : VL (E.add H.next w.heap.size (C * i.size)) (H.next + 1) more more' := hm.mono (Env.add_agree _ _ _ _) (Nat.le_succ _)
                have hs : (E.add H.next w.heap.size (C * i.size)).s H.next = w.heap.size := by simp [Env.add]
                have hkk : (E.add H.next w.heap.size (C * i.size)).k H.next = C * i.size := by simp [Env.add]
                have hzs2 : (Builtin.zeroCells z.cells (C - (len + n))).size = (C - (len + n)) * i.size := by simp [Builtin.zeroCells, hzs]
                have hszn : ((cs.toList.take (len * i.size)).toArray ++ more'.toArray ++ Builtin.zeroCells z.cells (C - (len + n))).size = C * i.size := by
                  rw [Array.size_append, Array.size_append, hzs2, List.size_toArray, List.size_toArray, hol, hml', ← Nat.add_mul, ← Nat.add_mul]
                  congr 1; omega
                have hrd : HRel E H w.drew := hr.heap rfl
                obtain ⟨g1, g2⟩ := hrd.new (x := .row (Tr.lay more (len * i.size) cc) ((len + n) * i.size) e' true) (o := .cells ((cs.toList.take (len * i.size)).toArray ++ more'.toArray ++ Builtin.zeroCells z.cells (C - (len + n))) e') (k := C * i.size)
                  ⟨_, (0, 0), rfl, ⟨fun _ _ hh => by omega, fun _ => rfl⟩, by rw [hszn]; exact Nat.mul_le_mul_right _ hCge, by rw [hszn]; simp [Env.add], fun j u hj hu => by
                    have hj3 : j < ((cs.toList.take (len * i.size)).toArray ++ more'.toArray).size := by
                      rw [Array.size_append, List.size_toArray, List.size_toArray, hol, hml', ← Nat.add_mul]; exact hj
                    rw [Array.getElem?_append_left hj3]
                    rw [Tr.get_lay] at hu
                    by_cases j1 : j < len * i.size
                    · rw [if_neg (by omega)] at hu
                      obtain ⟨u', e5, r5⟩ := q5 j u (by omega) hu
                      refine ⟨u', ?_, r5.mono (Env.add_agree _ _ _ _) (Nat.le_succ _)⟩
                      rw [Array.getElem?_append_left (by rw [List.size_toArray, hol]; exact j1), List.getElem?_toArray, List.getElem?_take_of_lt j1, Array.getElem?_toList]
                      exact e5
                    · have hj2 : j < len * i.size + more.length := by rw [hml, ← Nat.add_mul]; exact hj
                      rw [if_pos ⟨by omega, hj2⟩] at hu
                      obtain ⟨u', e5, r5⟩ := hm2.get hu
                      refine ⟨u', ?_, r5⟩
                      rw [Array.getElem?_append_right (by rw [List.size_toArray, hol]; omega), List.size_toArray, hol, List.getElem?_toArray]
                      exact e5⟩
                obtain ⟨d1, d2⟩ := g1.drop p.block
                have hltp := hr.lt _ _ hbk
                have hcg : ∀ b, ((H.b.put p.block none).put H.next (some (Blk.row (Tr.lay more (Nat.mul len i.size) cc) (Nat.mul (Nat.add len n) i.size) e' true))).get b = ((H.new (.row (Tr.lay more (len * i.size) cc) ((len + n) * i.size) e' true)).b.put p.block none).get b := fun b => by
                  simp only [Hp.new, Tr.get_put]
                  by_cases b1 : b = H.next
                  · rw [if_pos b1, if_neg (by omega), if_pos b1]; rfl
                  · rw [if_neg b1, if_neg b1]
                have g2' : Gd E _ H _ w _ := ⟨g2.le, g2.ag, g2.dom, g2.os, g2.tape, g2.output, g2.size, g2.frame⟩
                refine ⟨_, _, _, hrun, (g2'.trans d2).congr hcg rfl, ?_, d1.congr hcg rfl⟩
                have z1 := VR.open_ (E := E.add H.next w.heap.size (C * i.size)) (N := H.next + 1) (b := H.next) (o := 0) (l := len + n) (c := c0) (c' := C) (Nat.lt_succ_self _) hc1 hCge (by rw [hkk, hcc, Nat.add_sub_cancel_left, Nat.zero_add])
                rw [hs] at z1; exact z1
            · cases hf
        · cases hf
      · cases hf
    · cases hf
  · cases hf
theorem append_run {P : Program} {T : Cx} (hT : Fits P T) {E : Env} {H H' : Hp} {w : World} (hr : HRel E H w) {t tx ty : TypeId} {s s' v xx : Value} {more more' : List Value} {n : Nat} (hf : appendA T H t s more n = some (v, H')) (hs : VR E H.next s s')
    (hm : VL E H.next more more') (hsrc : ∀ e i, T.und t = some (.slice e) → T.ty.get e = some i → SrcA P w tx xx n i.size more') (hlen : ∀ e i, T.und t = some (.slice e) → T.ty.get e = some i → more.length = n * i.size) :
    ∃ E' v' w', (Builtin.append_ #[t, tx] ty #[s', xx]).run P w = .ok v' w' ∧ Gd E E' H H' w w' ∧ VR E' H'.next v v' ∧ HRel E' H' w' :=
  append_runR hT hr hf hs hm (fun e i z hu hi hz => (hsrc e i hu hi).r (hT.und hu) (hT.ty e i hi) hz) hlen
end
end Go.Proofs.YtanhkchpffkloaaGreatDoor
