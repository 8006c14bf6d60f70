import Derived.Test.YtdkfimejabanlaaDoorYn
namespace Go.Proofs.YtdkfimejabanlaaDoor
open DR
open Go.ChangeShapes Go.WideShapes Go.ChangeAt Go.RowKit Go.WideMaps
set_option linter.unusedVariables false
set_option linter.unusedSimpArgs false
/-- what was set stands for nothing again. -/
def undoL (St : List TT) (s : List Int) : List TT := s.foldl (fun l v => l.set v.toNat zeroT) St
theorem undoL_len (s : List Int) : ∀ St : List TT, (undoL St s).length = St.length := by
  induction s with
  | nil => intro St; rfl
  | cons v s ih => intro St; show (undoL (St.set v.toNat zeroT) s).length = _; rw [ih, List.length_set]
theorem stA_set (St : List TT) {v : Int} (hv : 0 ≤ v) (x : Int) : stA (St.set v.toNat zeroT) x = if x = v then zeroT else stA St x := by
  obtain ⟨m, rfl⟩ : ∃ m : Nat, v = m := ⟨v.toNat, by omega⟩
  rw [Int.toNat_natCast, stA_get, stA_get]
  by_cases h0 : 0 ≤ x
  · rw [if_pos h0, if_pos h0]
    by_cases hx : x = m
    · subst hx
      rw [if_pos rfl, Int.toNat_natCast]
      by_cases hl : m < St.length
      · rw [List.getElem?_set_self hl]; rfl
      · rw [List.getElem?_eq_none (by rw [List.length_set]; omega)]; rfl
    · rw [if_neg hx, List.getElem?_set_ne (by omega)]
  · rw [if_neg h0, if_neg h0]
    split <;> rfl
theorem undo_stA : ∀ (s : List Int) (St : List TT), (∀ v ∈ s, 0 ≤ v) → ∀ x, stA (undoL St s) x = if x ∈ s then zeroT else stA St x := by
  intro s
  induction s with
  | nil => intro St _ x; simp [undoL]
  | cons v s ih =>
    intro St h x
    show stA (undoL (St.set v.toNat zeroT) s) x = _
    rw [ih _ (fun y hy => h y (List.mem_cons_of_mem _ hy)), stA_set St (h v (by simp))]
    by_cases hx : x ∈ s
    · rw [if_pos hx, if_pos (List.mem_cons_of_mem _ hx)]
    · rw [if_neg hx]
      by_cases hv : x = v
      · rw [if_pos hv, if_pos (by rw [hv]; simp)]
      · rw [if_neg hv, if_neg (fun e => (List.mem_cons.1 e).elim hv hx)]
theorem undoL_take (St : List TT) (s : List Int) (k : Nat) (h : k < s.length) : undoL St (s.take (k + 1)) = (undoL St (s.take k)).set s[k].toNat zeroT := by
  rw [List.take_succ_eq_append_getElem h]
  unfold undoL
  rw [List.foldl_append]; rfl
/-- a substitution between calls. -/
structure SInv (St : List TT) : Prop where
  ok : ∃ rk, StOk St rk
  zok : Zok St
theorem SInv.u {St : List TT} (h : SInv St) : UInv ⟨St, []⟩ := ⟨h.ok, h.zok, fun _ h => (by cases h), by show 0 + ubn St ≤ 2000; have := ubn_le St; omega⟩
theorem SInv.same {St St' : List TT} (h : SInv St) (hl : St'.length ≤ 2000) (he : ∀ x, stA St' x = stA St x) : SInv St' := by
  obtain ⟨rk, hr⟩ := h.ok
  refine ⟨⟨rk, hl, fun x hx => ?_, fun x y hx hy => ?_⟩, fun x hx => ?_⟩
  · rw [he] at hx ⊢; exact hr.shp x hx
  · rw [he] at hx hy; exact hr.rank x y hx hy
  · rw [he] at hx ⊢; exact h.zok x hx
noncomputable def uniQ (St : List TT) (a b : TT) : Int × US := uniF (2001 * 502) ⟨St, []⟩ a b
open Classical in
/-- what Unify answers, and the substitution behind it. -/
noncomputable def uniG (St : List TT) (a b : TT) : Int × List TT :=
  if goodT a = true ∧ goodT b = true then
    if (uniQ St a b).1 = 0 then
      if (uniQ St a b).2.set ≠ [] ∧ Great (uniQ St a b).2.st then (2, undoL (uniQ St a b).2.st (uniQ St a b).2.set) else (0, (uniQ St a b).2.st)
    else ((uniQ St a b).1, undoL (uniQ St a b).2.st (uniQ St a b).2.set)
  else (1, St)
theorem good_shp {V : TT} (h : goodT V = true) : shp V = true := by
  unfold goodT at h
  rw [Bool.and_eq_true] at h
  exact h.2
theorem uniQ_ext {St : List TT} (h : SInv St) {a b : TT} (ha : shp a = true) (hb : shp b = true) : UInv (uniQ St a b).2 ∧ (∀ x ∈ (uniQ St a b).2.set, (stA St x).k = 0 ∧ (stA (uniQ St a b).2.st x).k ≠ 0) ∧ ∀ x, x ∉ (uniQ St a b).2.set → stA (uniQ St a b).2.st x = stA St x := by
  have he := uniF_ext (2001 * 502) ⟨St, []⟩ a b h.u ha hb
  obtain ⟨s, h1, h2, h3⟩ := he.ext
  have e : (uniQ St a b).2.set = s := h1
  rw [e]
  exact ⟨he.inv, h2, h3⟩
theorem undo_same {St : List TT} (h : SInv St) {a b : TT} (ha : shp a = true) (hb : shp b = true) : (∀ x, stA (undoL (uniQ St a b).2.st (uniQ St a b).2.set) x = stA St x) ∧ (undoL (uniQ St a b).2.st (uniQ St a b).2.set).length ≤ 2000 := by
  obtain ⟨hi, h2, h3⟩ := uniQ_ext h ha hb
  refine ⟨fun x => ?_, ?_⟩
  · rw [undo_stA _ _ (fun v hv => (hi.set v hv).1)]
    split
    · rename_i hx; exact (h.zok x (h2 x hx).1).symm
    · rename_i hx; exact h3 x hx
  · rw [undoL_len]
    obtain ⟨rk, hr⟩ := hi.ok
    exact hr.len
theorem uniG_inv {St : List TT} (h : SInv St) (a b : TT) : SInv (uniG St a b).2 ∧ ((uniG St a b).1 ≠ 0 → ∀ x, stA (uniG St a b).2 x = stA St x) := by
  unfold uniG
  split
  · rename_i hg
    have ha := good_shp hg.1
    have hb := good_shp hg.2
    have hu := undo_same h ha hb
    split
    · split
      · exact ⟨h.same hu.2 hu.1, fun _ => hu.1⟩
      · exact ⟨⟨(uniQ_ext h ha hb).1.ok, (uniQ_ext h ha hb).1.zok⟩, fun e => absurd rfl e⟩
    · exact ⟨h.same hu.2 hu.1, fun _ => hu.1⟩
  · exact ⟨h, fun _ _ => rfl⟩
/-- a substitution in memory between calls: all of it lies from B on, and none of it in blocks of Pr. -/
def SubS (w : World) (Pr : Nat → Prop) (B sb : Nat) (n : Int) (St : List TT) : Prop := ∃ (K : Nat → Prop) (rv : Value) (xs : List Value), SubW w K (fun b => K b ∨ Pr b) B sb n St rv xs ∧ ∀ b, K b → ¬ Pr b
theorem SubS.later {w w' : World} {Pr : Nat → Prop} {B sb : Nat} {n : Int} {St : List TT} (h : SubS w Pr B sb n St) (hb : Below w.heap.size w w') : SubS w' Pr B sb n St := by
  obtain ⟨K, rv, xs, h, hd⟩ := h
  exact ⟨K, rv, xs, h.later hb, hd⟩
theorem UM.s {w : World} {K Pr : Nat → Prop} {B ub sb : Nat} {n : Int} {u : US} {rv sv : Value} {xs : List Value} (h : UM w K (fun b => K b ∨ Pr b) B ub sb n u rv sv xs) (hd : ∀ b, K b → ¬ Pr b) : SubS w Pr B sb n u.st :=
  ⟨K, rv, xs, h.sub, hd⟩
/-- other blocks are kept from it. -/
theorem SubS.swap {w w' : World} {Pr Pr' : Nat → Prop} {B sb : Nat} {n : Int} {St : List TT} (h : SubS w Pr B sb n St) (f : Frm w w' Pr) (h1 : ∀ b, Pr' b → b < w'.heap.size ∧ (Pr b ∨ w.heap.size ≤ b)) : SubS w' Pr' B sb n St := by
  obtain ⟨K, rv, xs, h, hd⟩ := h
  have hn : ∀ b, b < w.heap.size → ¬ Pr b → ¬ Pr' b := fun b hb hp e => (h1 b e).2.elim hp (fun h => by omega)
  have h2 := h.frm f hd (fun e => h.nsb (.inr e)) (fun b hb e => h.nrv b hb (.inr e))
  refine ⟨K, rv, xs, ⟨h2.sbc, h2.row, h2.kids, fun e => e.elim (fun e => h.nsb (.inl e)) (hn sb h.slt (fun e => h.nsb (.inr e))), fun b hb e => e.elim (fun e => h.nrv b hb (.inl e)) (hn b (h.row.lt b hb).2 (fun e => h.nrv b hb (.inr e))), h2.lo, fun b e => e.elim (fun e => h2.kb b (.inl e)) (fun e => (h1 b e).1), fun _ h => .inl h⟩, fun b hb => hn b (h.kb b (.inl hb)) (hd b hb)⟩
/-- what Unify leaves. -/
def UgPost (Pr : Nat → Prop) (B sb : Nat) (n : Int) (w : World) (q : Int × List TT) (e : Ending) (w' : World) : Prop := e = .returned (.int .i64 q.1) ∧ SubS w' Pr B sb n q.2 ∧ Frm w w' (Tn Pr B)
theorem SubW.unifier {w wU w2 : World} {K Pr : Nat → Prop} {B sb ub : Nat} {n : Int} {St : List TT} {rv : Value} {xs : List Value} (h : SubW w K (fun b => K b ∨ Pr b) B sb n St rv xs) (hB : B ≤ ub) (hub : w.heap.size ≤ ub) (hw : Below w.heap.size w wU) (hU : wU.heap[ub]? = some (.cells #[.pointer (some ⟨sb, 0, none⟩), .slice none 0 0] UniY (0, 0))) (h2 : Below wU.heap.size wU w2) :
    UM w2 (fun b => K b ∨ (ub < b ∧ b < w2.heap.size)) (fun b => (K b ∨ (ub < b ∧ b < w2.heap.size)) ∨ Pr b) B ub sb n ⟨St, []⟩ rv (.slice none 0 0) xs := by
  have hs2 := h2.size
  have hul := (Array.getElem?_eq_some_iff.1 hU).1
  have hsl := h.slt
  have h3 := h.later (hw.trans (h2.mono hw.size))
  refine ⟨⟨h3.sbc, h3.row, h3.kids.move (fun b _ hb => ⟨rfl, .inl hb⟩) (Nat.le_refl _), fun e => ?_, fun b hb e => ?_, h3.lo, fun b hb => ?_, fun _ h => .inl h⟩, (h2.block ub hul).trans hU, World.ownsRow_nil _ _ _ _, fun e => ?_, fun b hb => (by cases hb), hB⟩
  · rcases e with (e | e) | e
    · exact h.nsb (.inl e)
    · omega
    · exact h.nsb (.inr e)
  · rcases e with (e | e) | e
    · exact h.nrv b hb (.inl e)
    · have := (h.row.lt b hb).2; omega
    · exact h.nrv b hb (.inr e)
  · rcases hb with (hb | hb) | hb
    · exact h3.kb b (.inl hb)
    · exact hb.2
    · exact h3.kb b (.inr hb)
  · rcases e with (e | e) | e
    · have := h.kb ub (.inl e); omega
    · omega
    · have := h.kb ub (.inr e); omega
end Go.Proofs.YtdkfimejabanlaaDoor
