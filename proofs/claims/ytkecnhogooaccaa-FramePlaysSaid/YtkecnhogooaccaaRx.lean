import Derived.Test.YtkecnhogooaccaaKnown
import Derived.Deep.AppendLies
namespace Go.Proofs.Ytkecnhogooaccaa
open Go.ChangeShapes Go.WideShapes Go.ChangeAt Go.RowKit
set_option linter.unusedVariables false
theorem info80 : (Try.prog.info? 80).map (fun i => (i.zero, i.size, i.bytes)) = some (some (.agg #[.int .i64 0, .int .i64 0, .slice none 0 0, .slice none 0 0]), 4, 64) := by kernel_rfl
/-- the block that a row's elements lie in. -/
def rb : Value → Option Nat
  | .slice (some a) n _ => if 0 < n then some a.block else none
  | _ => none
theorem rb_zero (A : Option Addr) (c : Nat) : rb (.slice A 0 c) = none := by cases A <;> simp [rb]
theorem rb_pos {b o n c : Nat} (h : 0 < n) : rb (.slice (some ⟨b, o, none⟩) n c) = some b := by simp [rb, h]
/-- a row of n elements of sz cells, maybe capped. -/
def Rw (w : World) (B : Nat) (e : TypeId) (sz : Nat) (v : Value) (n : Nat) (vs : List Value) : Prop :=
  vs.length = n * sz ∧ ∃ A c, v = .slice A n c ∧ n ≤ c ∧ (A = none → c = 0) ∧ (0 < n → ∃ b cur, A = some ⟨b, 0, none⟩ ∧ B ≤ b ∧ w.heap[b]? = some (.cells cur e (0, 0)) ∧ cur.toList.take (n * sz) = vs)
theorem Rw.of_own {w : World} {B : Nat} {e : TypeId} {sz n : Nat} {v : Value} {vs : List Value} (h : w.ownsRow B e sz v n vs) : Rw w B e sz v n vs := by
  refine ⟨h.1, ?_⟩
  rcases h.2 with ⟨rfl, rfl⟩ | ⟨g, cap, cur, rfl, h2, h3, h4, h5, h6, h7⟩
  · exact ⟨_, _, rfl, Nat.le_refl _, fun _ => rfl, fun h => by omega⟩
  · exact ⟨_, _, rfl, h4, fun h => by simp at h, fun _ => ⟨g, cur, rfl, h2, h3, h7⟩⟩
theorem Rw.nil (w : World) (B : Nat) (e : TypeId) (sz : Nat) (A : Option Addr) (c : Nat) (h : A = none → c = 0) : Rw w B e sz (.slice A 0 c) 0 [] := ⟨by simp, A, c, rfl, Nat.zero_le _, h, fun h => by omega⟩
theorem Rw.lt {w : World} {B : Nat} {e : TypeId} {sz n : Nat} {v : Value} {vs : List Value} (h : Rw w B e sz v n vs) : ∀ k, rb v = some k → B ≤ k ∧ k < w.heap.size ∧ ∃ cur, w.heap[k]? = some (.cells cur e (0, 0)) := by
  intro k hk
  obtain ⟨_, A, c, rfl, _, _, h3⟩ := h
  by_cases hn : 0 < n
  · obtain ⟨b, cur, rfl, h4, h5, _⟩ := h3 hn
    rw [rb_pos hn] at hk
    injection hk with hk
    subst hk
    exact ⟨h4, (Array.getElem?_eq_some_iff.1 h5).1, cur, h5⟩
  · obtain rfl : n = 0 := by omega
    rw [rb_zero] at hk; cases hk
theorem Rw.frm {w w' : World} {R : Nat → Prop} {B : Nat} {e : TypeId} {sz n : Nat} {v : Value} {vs : List Value} (h : Rw w B e sz v n vs) (f : Frm w w' R) (hr : ∀ k, rb v = some k → ¬ R k) : Rw w' B e sz v n vs := by
  have hl := h.lt
  obtain ⟨h1, A, c, rfl, h2, h2b, h3⟩ := h
  refine ⟨h1, A, c, rfl, h2, h2b, fun hn => ?_⟩
  obtain ⟨b, cur, rfl, h4, h5, h6⟩ := h3 hn
  exact ⟨b, cur, rfl, h4, by rw [f.block b (Array.getElem?_eq_some_iff.1 h5).1 (hr b (rb_pos hn))]; exact h5, h6⟩
theorem Rw.at {w : World} {B : Nat} {e : TypeId} {sz n c : Nat} {A : Option Addr} {vs : List Value} (h : Rw w B e sz (.slice A n c) n vs) (hn : 0 < n) : ∃ b, A = some ⟨b, 0, none⟩ ∧ B ≤ b ∧ b < w.heap.size ∧ (∀ j u, vs[j]? = some u → w.cell? ⟨b, j, none⟩ = some u) ∧ ∀ j, w.frozen? ⟨b, j, none⟩ = false := by
  obtain ⟨h1, A, c, e1, h2, h2b, h3⟩ := h
  injection e1 with e1 e2 e3
  subst e1 e3
  obtain ⟨b, cur, rfl, h4, h5, h6⟩ := h3 hn
  refine ⟨b, rfl, h4, (Array.getElem?_eq_some_iff.1 h5).1, fun j u hu => ?_, fun j => by simp [World.frozen?, h5]⟩
  rw [← h6] at hu
  rw [List.getElem?_take] at hu
  split at hu
  · rw [cell_of_row w b j cur e (0, 0) h5]
    simpa using hu
  · cases hu
theorem Rw.form {w : World} {B : Nat} {e : TypeId} {sz n : Nat} {v : Value} {vs : List Value} (h : Rw w B e sz v n vs) : ∃ A c, v = .slice A n c ∧ n ≤ c ∧ (A = none → c = 0) := by
  obtain ⟨_, A, c, e, h1, h2, _⟩ := h; exact ⟨A, c, e, h1, h2⟩
/-- the first p of them, capped anyhow. -/
theorem Rw.cut {w : World} {B : Nat} {e : TypeId} {sz n c p q : Nat} {A : Option Addr} {vs : List Value} (h : Rw w B e sz (.slice A n c) n vs) (hp : p ≤ n) (hq : p ≤ q) (hA : A = none → q = 0) : Rw w B e sz (.slice A p q) p (vs.take (p * sz)) := by
  obtain ⟨h1, A, c, e1, h2, h2b, h3⟩ := h
  injection e1 with e1 e2 e3
  subst e1 e3
  have hpn : p * sz ≤ n * sz := Nat.mul_le_mul_right _ hp
  refine ⟨by rw [List.length_take]; omega, A, q, rfl, hq, hA, fun hp0 => ?_⟩
  obtain ⟨b, cur, rfl, h4, h5, h6⟩ := h3 (by omega)
  refine ⟨b, cur, rfl, h4, h5, ?_⟩
  rw [← h6, List.take_take, Nat.min_eq_left hpn]
theorem Rw.set {w : World} {B : Nat} {e : TypeId} {sz n c b : Nat} {vs : List Value} (h : Rw w B e sz (.slice (some ⟨b, 0, none⟩) n c) n vs) (hn : 0 < n) (i : Nat) (u : Value) (hi : i < n * sz) : Rw (w.setCell ⟨b, i, none⟩ u) B e sz (.slice (some ⟨b, 0, none⟩) n c) n (vs.set i u) := by
  obtain ⟨h1, A, c, e1, h2, h2b, h3⟩ := h
  injection e1 with e1 e2 e3
  subst e1 e3
  obtain ⟨b', cur, e4, h4, h5, h6⟩ := h3 hn
  injection e4 with e4
  injection e4 with e4
  subst e4
  have hh : (w.setCell ⟨b, i, none⟩ u).heap[b]? = some (.cells (cur.setIfInBounds i u) e (0, 0)) := by simp [World.setCell, Array.getElem?_modify, h5]
  refine ⟨by simpa using h1, _, c, rfl, h2, h2b, fun _ => ⟨b, _, rfl, h4, hh, ?_⟩⟩
  rw [Array.toList_setIfInBounds, List.take_set, h6]
/-- a frame of the reference. -/
structure RX where
  f : RF
  sv : Value
  av : Value
instance : Inhabited RX := ⟨⟨⟨0, 0, [], []⟩, .slice none 0 0, .slice none 0 0⟩⟩
def frc (fl : List RX) : List Value := fl.flatMap fun x => [.int .i64 x.f.back, .int .i64 x.f.call, x.sv, x.av]
theorem frc_len (fl : List RX) : (frc fl).length = fl.length * 4 := by
  induction fl with
  | nil => rfl
  | cons f r ih => simp [frc] at ih ⊢; omega
theorem frc_app (a b : List RX) : frc (a ++ b) = frc a ++ frc b := by simp [frc]
theorem frc_cons (x : RX) (b : List RX) : frc (x :: b) = [.int .i64 x.f.back, .int .i64 x.f.call, x.sv, x.av] ++ frc b := by simp [frc]
theorem split_at (fl : List RX) (i : Nat) (hi : i < fl.length) : ∃ a x b, fl = a ++ x :: b ∧ a.length = i := by
  refine ⟨fl.take i, fl[i], fl.drop (i + 1), ?_, by rw [List.length_take]; omega⟩
  rw [← List.drop_eq_getElem_cons hi, List.take_append_drop]
theorem frc_at (a b : List RX) (x : RX) : (frc (a ++ x :: b))[a.length * 4]? = some (.int .i64 x.f.back) ∧ (frc (a ++ x :: b))[a.length * 4 + 1]? = some (.int .i64 x.f.call) ∧ (frc (a ++ x :: b))[a.length * 4 + 2]? = some x.sv ∧ (frc (a ++ x :: b))[a.length * 4 + 3]? = some x.av := by
  have hl := frc_len a
  rw [frc_app, frc_cons]
  refine ⟨?_, ?_, ?_, ?_⟩
  all_goals (rw [List.getElem?_append_right (by omega), hl])
  · rw [Nat.sub_self]; rfl
  · rw [show a.length * 4 + 1 - a.length * 4 = 1 by omega]; rfl
  · rw [show a.length * 4 + 2 - a.length * 4 = 2 by omega]; rfl
  · rw [show a.length * 4 + 3 - a.length * 4 = 3 by omega]; rfl
theorem frc_set3 (a b : List RX) (x : RX) (av : Value) (ad : List Int) : (frc (a ++ x :: b)).set (a.length * 4 + 3) av = frc (a ++ ⟨{ x.f with added := ad }, x.sv, av⟩ :: b) := by
  rw [frc_app, frc_app, frc_cons, frc_cons, List.set_append_right _ _ (by rw [frc_len]; omega), frc_len, Nat.add_sub_cancel_left]
  rfl
theorem frc_set2 (a b : List RX) (x : RX) (sv : Value) (sl : List Int) : (frc (a ++ x :: b)).set (a.length * 4 + 2) sv = frc (a ++ ⟨{ x.f with slots := sl }, sv, x.av⟩ :: b) := by
  rw [frc_app, frc_app, frc_cons, frc_cons, List.set_append_right _ _ (by rw [frc_len]; omega), frc_len, Nat.add_sub_cancel_left]
  rfl
def rowsOf (fl : List RX) : List Value := fl.flatMap fun x => [x.sv, x.av]
theorem rowsOf_app (a b : List RX) : rowsOf (a ++ b) = rowsOf a ++ rowsOf b := by simp [rowsOf]
theorem rowsOf_cons (x : RX) (b : List RX) : rowsOf (x :: b) = [x.sv, x.av] ++ rowsOf b := by simp [rowsOf]
/-- rows that lie apart. -/
def Apart (vs : List Value) : Prop := vs.Pairwise fun a b => ∀ k, rb a = some k → rb b ≠ some k
theorem apart_one {l1 l2 : List Value} {x y : Value} (h : Apart (l1 ++ x :: l2)) (hy : ∀ k, rb y = some k → ∀ z ∈ l1 ++ l2, rb z ≠ some k) : Apart (l1 ++ y :: l2) := by
  unfold Apart at h ⊢
  rw [List.pairwise_append, List.pairwise_cons] at h ⊢
  obtain ⟨h1, ⟨h2, h3⟩, h4⟩ := h
  refine ⟨h1, ⟨fun z hz k hk => hy k hk z (by simp [hz]), h3⟩, fun a ha b hb k hk => ?_⟩
  rcases List.mem_cons.1 hb with rfl | hb
  · intro e; exact hy k e a (by simp [ha]) hk
  · exact h4 a ha b (by simp [hb]) k hk
theorem Apart.pre {l1 l2 : List Value} (h : Apart (l1 ++ l2)) : Apart l1 := (List.pairwise_append.1 h).1
theorem Apart.mid {l1 l2 : List Value} {x : Value} (h : Apart (l1 ++ x :: l2)) : ∀ z ∈ l1 ++ l2, ∀ k, rb x = some k → rb z ≠ some k := by
  unfold Apart at h
  rw [List.pairwise_append, List.pairwise_cons] at h
  obtain ⟨h1, ⟨h2, h3⟩, h4⟩ := h
  intro z hz k hk
  rcases List.mem_append.1 hz with hz | hz
  · intro e; exact h4 z hz x (by simp) k e hk
  · exact h2 z hz k hk
/-- the reference's stack. -/
structure RS (w : World) (B g room : Nat) (fv : Value) (fl : List RX) : Prop where
  obj : w.heap[g]? = some (.cells #[.int .i64 room, fv] 47 (0, 0))
  le : B ≤ g
  rf : Rw w B 80 4 fv fl.length (frc fl)
  rs : ∀ x ∈ fl, Rw w B 29 1 x.sv x.f.slots.length (wds x.f.slots)
  ra : ∀ x ∈ fl, Rw w B 29 1 x.av x.f.added.length (wds x.f.added)
  ap : Apart (rowsOf fl)
  fits : used (fl.map (·.f)) ≤ room
  small : room ≤ 4096
/-- its blocks. -/
def Own (g : Nat) (fv : Value) (fl : List RX) (k : Nat) : Prop := k = g ∨ rb fv = some k ∨ ∃ z ∈ rowsOf fl, rb z = some k
section
variable {w : World} {B g room : Nat} {fv : Value} {fl : List RX}
theorem RS.glt (t : RS w B g room fv fl) : g < w.heap.size := (Array.getElem?_eq_some_iff.1 t.obj).1
theorem RS.row (t : RS w B g room fv fl) : ∀ z ∈ rowsOf fl, ∀ k, rb z = some k → B ≤ k ∧ k < w.heap.size ∧ ∃ cur, w.heap[k]? = some (.cells cur 29 (0, 0)) := by
  intro z hz k hk
  simp only [rowsOf, List.mem_flatMap] at hz
  obtain ⟨x, hx, hz⟩ := hz
  simp at hz
  rcases hz with rfl | rfl
  · exact (t.rs x hx).lt k hk
  · exact (t.ra x hx).lt k hk
theorem RS.lt (t : RS w B g room fv fl) : ∀ k, Own g fv fl k → B ≤ k ∧ k < w.heap.size := by
  rintro k (rfl | h | ⟨z, hz, h⟩)
  · exact ⟨t.le, t.glt⟩
  · exact ⟨(t.rf.lt k h).1, (t.rf.lt k h).2.1⟩
  · exact ⟨(t.row z hz k h).1, (t.row z hz k h).2.1⟩
/-- the stack's own block, the frames' block and the words' blocks are three. -/
theorem RS.gf (t : RS w B g room fv fl) : rb fv ≠ some g := fun h => by
  obtain ⟨_, _, cur, hc⟩ := t.rf.lt g h
  rw [t.obj] at hc
  injection hc with hc; injection hc with _ hc; cases hc
theorem RS.gz (t : RS w B g room fv fl) : ∀ z ∈ rowsOf fl, rb z ≠ some g := fun z hz h => by
  obtain ⟨_, _, cur, hc⟩ := t.row z hz g h
  rw [t.obj] at hc
  injection hc with hc; injection hc with _ hc; cases hc
theorem RS.fz (t : RS w B g room fv fl) : ∀ z ∈ rowsOf fl, ∀ k, rb z = some k → rb fv ≠ some k := fun z hz k h e => by
  obtain ⟨_, _, cur, hc⟩ := t.row z hz k h
  obtain ⟨_, _, cur', hc'⟩ := t.rf.lt k e
  rw [hc] at hc'
  injection hc' with hc'; injection hc' with _ hc'; cases hc'
theorem RS.frm {w' : World} {R : Nat → Prop} (t : RS w B g room fv fl) (f : Frm w w' R) (h : ∀ k, Own g fv fl k → ¬ R k) : RS w' B g room fv fl := by
  have hx : ∀ x ∈ fl, x.sv ∈ rowsOf fl ∧ x.av ∈ rowsOf fl := fun x hx => by
    simp only [rowsOf, List.mem_flatMap]
    exact ⟨⟨x, hx, by simp⟩, ⟨x, hx, by simp⟩⟩
  exact ⟨(f.block g t.glt (h g (.inl rfl))).trans t.obj, t.le, t.rf.frm f (fun k hk => h k (.inr (.inl hk))),
    fun x hm => (t.rs x hm).frm f (fun k hk => h k (.inr (.inr ⟨_, (hx x hm).1, hk⟩))),
    fun x hm => (t.ra x hm).frm f (fun k hk => h k (.inr (.inr ⟨_, (hx x hm).2, hk⟩))), t.ap, t.fits, t.small⟩
theorem RS.below {w' : World} (t : RS w B g room fv fl) (hb : Below w.heap.size w w') : RS w' B g room fv fl :=
  t.frm (R := fun _ => False) (Frm.of_below hb (Nat.le_refl _) _) (fun _ _ h => h)
theorem RS.c0 (t : RS w B g room fv fl) : w.cell? ⟨g, 0, none⟩ = some (.int .i64 room) := by have h := t.obj; simp [World.cell?, h]
theorem RS.c1 (t : RS w B g room fv fl) : w.cell? ⟨g, 1, none⟩ = some fv := by have h := t.obj; simp [World.cell?, h]
theorem RS.fz1 (t : RS w B g room fv fl) (i : Nat) : w.frozen? ⟨g, i, none⟩ = false := by have h := t.obj; simp [World.frozen?, h]
/-- the frame at place i. -/
theorem RS.at {a b : List RX} {x : RX} (t : RS w B g room fv (a ++ x :: b)) : ∃ bf c, fv = .slice (some ⟨bf, 0, none⟩) (a ++ x :: b).length c ∧ (a ++ x :: b).length ≤ c ∧
    (∀ W, Below w.heap.size w W → W.cell? ⟨bf, a.length * 4, none⟩ = some (.int .i64 x.f.back) ∧ W.cell? ⟨bf, a.length * 4 + 1, none⟩ = some (.int .i64 x.f.call) ∧ W.cell? ⟨bf, a.length * 4 + 2, none⟩ = some x.sv ∧ W.cell? ⟨bf, a.length * 4 + 3, none⟩ = some x.av) ∧ ∀ j, w.frozen? ⟨bf, j, none⟩ = false := by
  have hl : 0 < (a ++ x :: b).length := by simp; omega
  have hrf := t.rf
  obtain ⟨A, c, e, hc, hA⟩ := t.rf.form
  rw [e] at hrf
  obtain ⟨bf, rfl, _, hlt, hcell, hfz⟩ := hrf.at hl
  obtain ⟨k0, k1, k2, k3⟩ := frc_at a b x
  refine ⟨bf, c, e, hc, fun W hW => ⟨?_, ?_, ?_, ?_⟩, hfz⟩
  · exact (hW.cell (p := ⟨bf, _, none⟩) hlt).trans (hcell _ _ k0)
  · exact (hW.cell (p := ⟨bf, _, none⟩) hlt).trans (hcell _ _ k1)
  · exact (hW.cell (p := ⟨bf, _, none⟩) hlt).trans (hcell _ _ k2)
  · exact (hW.cell (p := ⟨bf, _, none⟩) hlt).trans (hcell _ _ k3)
theorem RS.len (t : RS w B g room fv fl) : fl.length ≤ 4096 ∧ (wdOf (fl.map (·.f))).length ≤ 4096 := by
  have h := t.fits; have := t.small
  unfold used at h
  rw [List.length_map] at h
  omega
end
/-- the reference holds the frames l; its blocks are S. -/
def RQ (w : World) (B g room : Nat) (l : List RF) (S : Nat → Prop) : Prop := ∃ fv fl, RS w B g room fv fl ∧ fl.map (·.f) = l ∧ ∀ k, S k ↔ Own g fv fl k
/-- what a call of the reference leaves. -/
def RQ' (w w' : World) (B g room : Nat) (l : List RF) (S : Nat → Prop) : Prop := ∃ S', RQ w' B g room l S' ∧ Frm w w' S ∧ ∀ k, S' k → S k ∨ w.heap.size ≤ k
theorem RQ.same {w w' : World} {B g room : Nat} {l : List RF} {S : Nat → Prop} (q : RQ w B g room l S) (h : Below w.heap.size w w') : RQ' w w' B g room l S := by
  obtain ⟨fv, fl, t, e, hS⟩ := q
  exact ⟨S, ⟨fv, fl, t.below h, e, hS⟩, Frm.of_below h (Nat.le_refl _) _, fun k h => .inl h⟩
end Go.Proofs.Ytkecnhogooaccaa
