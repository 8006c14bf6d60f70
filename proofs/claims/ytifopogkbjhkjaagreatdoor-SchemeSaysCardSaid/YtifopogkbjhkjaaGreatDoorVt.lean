import Derived.Test.YtifopogkbjhkjaaGreatDoorTo
namespace Go.Proofs.YtifopogkbjhkjaaGreatDoor
open Go.ChangeShapes Go.WideShapes Go.ChangeAt Go.RowKit Go.WideMaps
set_option linter.unusedVariables false
set_option linter.unusedSimpArgs false
abbrev TT24 : TypeId := 24
theorem infoT : (Tryz.prog.info? 24).map (fun i => (i.zero, i.size, i.bytes)) = some (some (.agg #[.int .i64 0, .string .empty, .int .i64 0, .slice none 0 0]), 4, 56) := by kernel_rfl
def kidT (v : TT) (A : Option Addr) (c : Nat) : List Value := [.int .i64 v.k, .string v.nm, .int .i64 v.vr, .slice A v.args.length c]
theorem kid_one (v : TT) (A : Option Addr) (c : Nat) : ∀ u ∈ kidT v A c, u.oneCell' = true := fun u hu => by
  simp [kidT] at hu
  rcases hu with rfl | rfl | rfl | rfl <;> rfl
def KidsT (w : World) (P : Nat → Prop) : List TT → List Value → Prop
  | [], xs => xs = []
  | v :: l, xs => ∃ A c ys, xs = kidT v A c ++ ys ∧ TRow w P A v.args ∧ KidsT w P l ys
theorem KidsT.move {w w' : World} {P P' : Nat → Prop} (hk : ∀ b, b < w.heap.size → P b → w'.heap[b]? = w.heap[b]? ∧ P' b) (hs : w.heap.size ≤ w'.heap.size) : ∀ {l : List TT} {xs : List Value}, KidsT w P l xs → KidsT w' P' l xs
  | [], _, h => h
  | v :: l, _, ⟨A, c, ys, h1, h3, h4⟩ => ⟨A, c, ys, h1, h3.move hk hs, KidsT.move hk hs h4⟩
theorem KidsT.snoc {w : World} {P : Nat → Prop} {v : TT} {A : Option Addr} {c : Nat} (hr : TRow w P A v.args) : ∀ {l : List TT} {xs : List Value}, KidsT w P l xs → KidsT w P (l ++ [v]) (xs ++ kidT v A c)
  | [], _, h => by rw [show _ = _ from h]; exact ⟨A, c, [], by simp, hr, rfl⟩
  | u :: l, _, ⟨A', c', ys, h1, h3, h4⟩ => ⟨A', c', ys ++ kidT v A c, by rw [h1, List.append_assoc], h3, KidsT.snoc hr h4⟩
theorem KidsT.row {w : World} {P : Nat → Prop} {g : Nat} : ∀ {l : List TT} {xs : List Value} {o : Nat}, KidsT w P l xs → (∀ j (h : j < xs.length), w.cell? ⟨g, o + j, none⟩ = some xs[j]) → okTL w P l g o
  | [], _, _, _, _ => by rw [okTL]; trivial
  | v :: l, xs, o, ⟨A, c, ys, h1, h3, h4⟩, hc => by
    subst h1
    rw [okTL]
    have hl : (kidT v A c ++ ys).length = 4 + ys.length := by simp [kidT]; omega
    refine ⟨(okT_eq _ _ _ _ _).2 ⟨(hc 0 (by omega)).trans (by simp [kidT]), (hc 1 (by omega)).trans (by simp [kidT]), (hc 2 (by omega)).trans (by simp [kidT]), A, c, (hc 3 (by omega)).trans (by simp [kidT]), h3⟩, KidsT.row h4 (fun j hj => ?_)⟩
    have := hc (4 + j) (by omega)
    rw [← Nat.add_assoc] at this
    rw [this]
    congr 1
    rw [List.getElem_append_right (by simp [kidT])]
    congr 1
    simp [kidT]
/-- a row of copies that grows. -/
structure CpS (wB wr : World) (v : Value) (k : Nat) (l : List TT) (xs : List Value) : Prop where
  bel : Below wB.heap.size wB wr
  own : wr.ownsRow wB.heap.size TT24 4 v k xs
  kids : KidsT wr (fun b => wB.heap.size ≤ b ∧ v.ownBlock ≠ some b) l xs
  len : l.length = k
theorem cp_start (wB : World) : CpS wB wB (.slice none 0 0) 0 [] [] := ⟨Below.refl _ _, World.ownsRow_nil _ _ _ _, rfl, rfl⟩
theorem cp_step {wB wr w2 w4 : World} {v v' : Value} {k c2 : Nat} {l : List TT} {xs : List Value} {T : TT} {A2 : Option Addr} (h : CpS wB wr v k l xs) (hb2 : Below wr.heap.size wr w2) (hr2 : TRow w2 (wr.heap.size ≤ ·) A2 T.args) (ob : Obj)
    (own4 : w4.ownsRow wB.heap.size TT24 4 v' (k + 1) (xs ++ kidT T A2 c2)) (gr4 : (w2.alloc ob).grownBy w4 v.ownBlock) (at4 : v'.ownBlock = v.ownBlock ∨ v'.ownBlock = some (w2.alloc ob).heap.size) :
    CpS wB w4 v' (k + 1) (l ++ [T]) (xs ++ kidT T A2 c2) := by
  have hv : ∀ b, v.ownBlock = some b → wB.heap.size ≤ b ∧ b < wr.heap.size := fun b hb => h.own.lt b hb
  have h1s := h.bel.size
  have h2s := hb2.size
  have h3s : (w2.alloc ob).heap.size = w2.heap.size + 1 := by simp
  have h4s := gr4.size
  have keep : ∀ b, b < w2.heap.size → v.ownBlock ≠ some b → w4.heap[b]? = w2.heap[b]? := by
    intro b hb hne
    rw [gr4.block b (by omega) (fun e => hne e.symm)]
    show (w2.heap.push ob)[b]? = _
    rw [Array.getElem?_push, if_neg (by omega)]
  have hv' : ∀ b, b < w2.heap.size → v.ownBlock ≠ some b → v'.ownBlock ≠ some b := fun b hb hne e => by
    rcases at4 with q | q
    · exact hne (q.symm.trans e)
    · rw [q] at e; injection e with e; omega
  refine ⟨?_, own4, KidsT.snoc ?_ ?_, by rw [List.length_append, h.len]; rfl⟩
  · exact h.bel.trans ((hb2.mono h1s).trans (((below_alloc w2 ob).mono (by omega)).grown gr4 (by omega) (fun q hq => (hv q hq).1)))
  · exact hr2.move (fun b hb hp => ⟨keep b hb (fun e => by have := hv b e; omega), by omega, hv' b hb (fun e => by have := hv b e; omega)⟩) (by omega)
  · exact h.kids.move (fun b hb hp => ⟨(keep b (by omega) hp.2).trans (hb2.block b hb), hp.1, hv' b (by omega) hp.2⟩) (by omega)
theorem cp_fin {wB wr : World} {v : Value} {k : Nat} {l : List TT} {xs : List Value} (h : CpS wB wr v k l xs) : ∃ A c, v = .slice A k c ∧ TRow wr (wB.heap.size ≤ ·) A l := by
  rcases h.own.2 with ⟨q1, q2⟩ | ⟨g, cap, cur, q1, q2, q3, q4, q5, q6, q7⟩
  · refine ⟨none, 0, by rw [q1, q2], .inl (by rw [h.len, q2])⟩
  · refine ⟨_, _, q1, .inr ⟨g, 0, rfl, (Array.getElem?_eq_some_iff.1 q3).1, q2, ?_⟩⟩
    refine KidsT.row (h.kids.move (P' := (wB.heap.size ≤ ·)) (fun b _ hp => ⟨rfl, hp.1⟩) (Nat.le_refl _)) (fun j hj => ?_)
    rw [Nat.zero_add]
    have hown := h.own
    rw [q1] at hown
    exact (hown.cellAt j (by rw [← hown.1]; exact hj)).trans (List.getElem?_eq_getElem hj)
/-- the copy's own kids: what is appended. -/
theorem kid_news {w : World} {b : Nat} {T : TT} {A : Option Addr} {c : Nat} (h : w.heap[b]? = some (.cells #[.int .i64 T.k, .string T.nm, .int .i64 T.vr, .slice A T.args.length c] TT24 (0, 0))) : ∀ j u, (kidT T A c)[j]? = some u → w.cell? ((⟨b, 0, none⟩ : Addr).add j) = some u :=
  World.news_of_block (cs := #[.int .i64 T.k, .string T.nm, .int .i64 T.vr, .slice A T.args.length c]) (t := TT24) (fr := (0, 0)) h
/-- what a copying function leaves. -/
def CpPost (w : World) (T : TT) (e : Ending) (w' : World) : Prop := ∃ A c, e = .returned (tv T A c) ∧ TRow w' (w.heap.size ≤ ·) A T.args ∧ Below w.heap.size w w'
def CpPost2 (w : World) (T : TT) (e : Ending) (w' : World) : Prop := ∃ A c, e = .returned (.tuple #[tv T A c, .bool true]) ∧ TRow w' (w.heap.size ≤ ·) A T.args ∧ Below w.heap.size w w'
end Go.Proofs.YtifopogkbjhkjaaGreatDoor
namespace Go.Proofs.YtifopogkbjhkjaaGreatDoor
open Go.ChangeShapes Go.WideShapes Go.ChangeAt Go.RowKit
set_option linter.unusedVariables false
set_option linter.unusedSimpArgs false
/-- a variable. -/
def varT (n : Int) : TT := .mk 7 ⟨#[]⟩ n []
theorem loop_len (s : ByteArray) : ∀ (k i : Nat) (r : List UInt8), k = s.size - i → (ByteArray.toList.loop s i r).length = r.length + k := by
  intro k
  induction k with
  | zero =>
    intro i r h
    rw [ByteArray.toList.loop]
    rw [if_neg (by omega)]
    simp
  | succ k ih =>
    intro i r h
    rw [ByteArray.toList.loop]
    rw [if_pos (by omega), ih (i + 1) _ (by omega)]
    simp; omega
theorem toList_len (s : ByteArray) : s.toList.length = s.size := by
  unfold ByteArray.toList
  rw [loop_len s s.size 0 [] (by omega)]; simp
theorem toList_nil {s : ByteArray} (h : s.toList.isEmpty = true) : s = ⟨#[]⟩ := by
  have h2 : s.toList = [] := List.isEmpty_iff.1 h
  have h3 := congrArg List.length h2
  have h4 : s.toList.length = s.size := toList_len s
  apply ByteArray.ext
  apply Array.eq_empty_of_size_eq_zero
  show s.size = 0
  rw [← h4, h3]; rfl
theorem shp_var {V : TT} (h : shp V = true) (h7 : V.k = 7) : V.args = [] ∧ V.nm = ⟨#[]⟩ := by
  rw [shp_eq, Bool.and_eq_true] at h
  have h1 := h.1
  have h2 := (head_var h1).2.2.2.2
  rw [h7] at h2
  have h0 : (V.args.length : Int) = 0 := h2
  refine ⟨List.length_eq_zero_iff.1 (by omega), ?_⟩
  unfold headOk at h1
  simp only [Bool.and_eq_true] at h1
  have h3 := h1.1.1.1.2
  rw [h7] at h3
  have h4 : emptyB V.nm = true := by
    cases hb : emptyB V.nm with
    | true => rfl
    | false => rw [hb] at h3; cases h3
  unfold emptyB at h4
  exact toList_nil h4
end Go.Proofs.YtifopogkbjhkjaaGreatDoor
