import Derived.Test.YtknpgmbniohcnaaWords
import Derived.Test.YtknpgmbniohcnaaZer
import Derived.Handy
import Derived.BigQuiet
import Derived.Deep.QuietTactic
import Derived.Below
import Derived.OwnWalk
import Derived.WalkSpells
import Derived.OneCell
import Derived.Lib.SmallJoins
import Derived.Deep.RegionHeld3
import Derived.Deep.AppendLies
namespace Go.Proofs.Ytknpgmbniohcnaa
open Go.ChangeShapes Go.WideShapes Go.ChangeAt Go.RowKit
set_option linter.unusedVariables false
theorem below_drewN (w : World) (n : Nat) : Below w.heap.size w (w.drewN n) := ⟨rfl, rfl, rfl, Nat.le_refl _, fun _ _ => rfl⟩
theorem below_alloc (w : World) (o : Obj) : Below w.heap.size w (w.alloc o) := (Below.refl _ _).alloc (Nat.le_refl _) _
theorem bt {w a b : World} (h : Below w.heap.size w a) (k : Below a.heap.size a b) : Below w.heap.size w b := h.trans (k.mono h.size)
theorem new_cell (w : World) (v : Value) (t : TypeId) : (w.alloc (.cells #[v] t)).cell? ((⟨w.heap.size, 0, none⟩ : Addr).add 0) = some v := by
  have := (MapKept.heap_alloc w (Obj.cells #[v] t)).1
  show (w.alloc (.cells #[v] t)).cell? ⟨w.heap.size, 0, none⟩ = some v
  unfold World.cell?
  rw [this]; rfl
theorem own_mono {w : World} {b b' : Nat} {e : TypeId} {size n : Nat} {v : Value} {xs : List Value} (h : w.ownsRow b' e size v n xs) (hb : b ≤ b') : w.ownsRow b e size v n xs := by
  refine ⟨h.1, ?_⟩
  rcases h.2 with h2 | ⟨g, cap, cur, e1, e2, e3⟩
  · exact .inl h2
  · exact .inr ⟨g, cap, cur, e1, Nat.le_trans hb e2, e3⟩
/-- what may turn: the blocks of R. -/
structure Frm (w w' : World) (R : Nat → Prop) : Prop where
  os : w'.os = w.os
  tape : w'.tape = w.tape
  output : w'.output = w.output
  size : w.heap.size ≤ w'.heap.size
  block : ∀ i, i < w.heap.size → ¬ R i → w'.heap[i]? = w.heap[i]?
theorem Frm.refl (w : World) (R : Nat → Prop) : Frm w w R := ⟨rfl, rfl, rfl, Nat.le_refl _, fun _ _ _ => rfl⟩
theorem Frm.trans {a b c : World} {R : Nat → Prop} (h : Frm a b R) (k : Frm b c R) : Frm a c R :=
  ⟨k.os.trans h.os, k.tape.trans h.tape, k.output.trans h.output, Nat.le_trans h.size k.size, fun i hi hr => (k.block i (Nat.lt_of_lt_of_le hi h.size) hr).trans (h.block i hi hr)⟩
theorem Frm.of_below {w w' : World} {B : Nat} (h : Below B w w') (hB : w.heap.size ≤ B) (R : Nat → Prop) : Frm w w' R := ⟨h.os, h.tape, h.output, h.size, fun i hi _ => h.block i (by omega)⟩
theorem Frm.of_grown {w w' : World} {r : Option Nat} {R : Nat → Prop} (h : w.grownBy w' r) (hr : ∀ k, r = some k → R k) : Frm w w' R := ⟨h.os, h.tape, h.output, h.size, fun i hi hR => h.block i hi (fun e => hR (hr i e.symm))⟩
theorem Frm.below {w w' : World} {R : Nat → Prop} {B : Nat} (h : Frm w w' R) (hR : ∀ k, R k → B ≤ k) (hB : B ≤ w.heap.size) : Below B w w' := ⟨h.os, h.tape, h.output, h.size, fun i hi => h.block i (by omega) (fun hr => by have := hR i hr; omega)⟩
theorem Frm.mono {w w' : World} {R S : Nat → Prop} (h : Frm w w' R) (hs : ∀ k, k < w.heap.size → R k → S k) : Frm w w' S := ⟨h.os, h.tape, h.output, h.size, fun i hi hr => h.block i hi (fun r => hr (hs i hi r))⟩
theorem own_frm {w w' : World} {R : Nat → Prop} {B : Nat} {e : TypeId} {s n : Nat} {v : Value} {xs : List Value} (h : w.ownsRow B e s v n xs) (f : Frm w w' R) (hr : ∀ k, v.ownBlock = some k → ¬ R k) : w'.ownsRow B e s v n xs := by
  have hl := h.lt
  refine ⟨h.1, ?_⟩
  rcases h.2 with h2 | ⟨g, cap, cur, rfl, e2, e3, e4⟩
  · exact .inl h2
  · exact .inr ⟨g, cap, cur, rfl, e2, by rw [f.block g (hl g rfl).2 (hr g rfl)]; exact e3, e4⟩
theorem frm_set {w : World} {g : Nat} {R : Nat → Prop} (i : Nat) (v : Value) (h : R g) : Frm w (w.setCell ⟨g, i, none⟩ v) R :=
  ⟨rfl, rfl, rfl, by simp [World.setCell], fun j hj hr => by
    have : j ≠ g := fun e => hr (e ▸ h)
    simp [World.setCell, Array.getElem?_modify, Ne.symm this]⟩
/-- a heap's state. -/
structure Hm where
  room : Int
  turns : Int
  ws : List Int
  st : List Bool
def wd (l : List Int) : List Value := l.map (.int .u64)
def bo (l : List Bool) : List Value := l.map .bool
theorem wd_len (l : List Int) : (wd l).length = l.length := by simp [wd]
theorem bo_len (l : List Bool) : (bo l).length = l.length := by simp [bo]
theorem wd_app (a b : List Int) : wd (a ++ b) = wd a ++ wd b := by simp [wd]
theorem bo_app (a b : List Bool) : bo (a ++ b) = bo a ++ bo b := by simp [bo]
theorem wd_at (l : List Int) (j : Nat) (h : j < l.length) : (wd l)[j]? = some (.int .u64 l[j]) := by simp [wd, List.getElem?_eq_getElem h]
theorem bo_at (l : List Bool) (j : Nat) (h : j < l.length) : (bo l)[j]? = some (.bool l[j]) := by simp [bo, List.getElem?_eq_getElem h]
/-- a word's range. -/
def U64 (x : Int) : Prop := 0 ≤ x ∧ x < 18446744073709551616
structure Hm.Ok (m : Hm) : Prop where
  len : m.st.length = m.ws.length
  lt : m.ws.length ≤ 65536
  r0 : 0 ≤ m.room
  r1 : m.room ≤ 65536
  t0 : 0 ≤ m.turns
  t1 : m.turns ≤ 9223372036854775807
  wf : ∀ x ∈ m.ws, U64 x
  snd : ∀ a, a < m.ws.length → m.st.getD a false = true → okS (m.ws.getD a 0) ∧ a + 1 + (splS (m.ws.getD a 0)).toNat ≤ m.ws.length ∧ ∀ j, a < j → j ≤ a + (splS (m.ws.getD a 0)).toNat → m.st.getD j false = false
/-- a heap in memory: its struct's cells from o on in block H, its rows in blocks from B on. -/
structure HpAt (w : World) (B H o : Nat) (m : Hm) : Prop where
  ok : m.Ok
  hB : B ≤ w.heap.size
  at_ : ∃ c T A1 c1 A2 c2, T ≠ 28 ∧ T ≠ 4 ∧ T ≠ 3 ∧ w.heap[H]? = some (.cells c T (0, 0)) ∧ c[o]? = some (.int .i64 m.room) ∧ c[o + 1]? = some (.int .i64 m.turns) ∧ c[o + 2]? = some (.slice A1 m.ws.length c1) ∧ c[o + 3]? = some (.slice A2 m.st.length c2) ∧
    w.ownsRow B 28 1 (.slice A1 m.ws.length c1) m.ws.length (wd m.ws) ∧ w.ownsRow B 4 1 (.slice A2 m.st.length c2) m.st.length (bo m.st)
theorem row_ne {w : World} {B e n H : Nat} {T : TypeId} {v : Value} {xs : List Value} {c : Array Value} (h : w.ownsRow B e 1 v n xs) (hH : w.heap[H]? = some (.cells c T (0, 0))) (hT : T ≠ e) : v.ownBlock ≠ some H := by
  intro he
  rcases h.2 with ⟨rfl, _⟩ | ⟨g, cap, cur, rfl, _, hg, _⟩
  · simp [Value.ownBlock] at he
  · simp [Value.ownBlock] at he
    subst he; rw [hH] at hg; injection hg with hg; injection hg with _ hg; exact hT hg
/-- what a call on a heap may turn: its struct, its rows. -/
def HR (w : World) (H o : Nat) (k : Nat) : Prop := k = H ∨ (∃ n c, w.cell? ⟨H, o + 2, none⟩ = some (.slice (some ⟨k, 0, none⟩) n c)) ∨ (∃ n c, w.cell? ⟨H, o + 3, none⟩ = some (.slice (some ⟨k, 0, none⟩) n c))
section
variable {w w' : World} {B B' H o : Nat} {m : Hm}
theorem HpAt.lt (h : HpAt w B H o m) : H < w.heap.size := by
  obtain ⟨c, T, A1, c1, A2, c2, _, _, _, h1, _⟩ := h.at_
  exact (Array.getElem?_eq_some_iff.1 h1).1
theorem HpAt.cells (h : HpAt w B H o m) : ∃ A1 c1 A2 c2, w.cell? ⟨H, o, none⟩ = some (.int .i64 m.room) ∧ w.cell? ⟨H, o + 1, none⟩ = some (.int .i64 m.turns) ∧ w.cell? ⟨H, o + 2, none⟩ = some (.slice A1 m.ws.length c1) ∧ w.cell? ⟨H, o + 3, none⟩ = some (.slice A2 m.ws.length c2) ∧
    (∀ i (hi : i < m.ws.length), ∃ g, A1 = some ⟨g, 0, none⟩ ∧ w.cell? ⟨g, i, none⟩ = some (.int .u64 m.ws[i])) ∧ (∀ i (hi : i < m.ws.length), ∃ g, A2 = some ⟨g, 0, none⟩ ∧ w.cell? ⟨g, i, none⟩ = some (.bool (m.st[i]'(by rw [h.ok.len]; exact hi)))) := by
  obtain ⟨c, T, A1, c1, A2, c2, _, _, _, h1, h2, h3, h4, h5, h6, h7⟩ := h.at_
  refine ⟨A1, c1, A2, c2, by simp [World.cell?, h1, h2], by simp [World.cell?, h1, h3], by simp [World.cell?, h1, h4], by rw [← h.ok.len]; simp [World.cell?, h1, h5], fun i hi => ?_, fun i hi => ?_⟩
  · rcases h6.2 with ⟨e, e0⟩ | ⟨g, cap, cur, e, _⟩
    · omega
    · injection e with e1 e2 e3
      subst e1
      exact ⟨g, rfl, (h6.cellAt i (by omega)).trans (wd_at _ i hi)⟩
  · have hi2 : i < m.st.length := by rw [h.ok.len]; exact hi
    rcases h7.2 with ⟨e, e0⟩ | ⟨g, cap, cur, e, _⟩
    · omega
    · injection e with e1 e2 e3
      subst e1
      exact ⟨g, rfl, (h7.cellAt i (by omega)).trans (bo_at _ i hi2)⟩
theorem HpAt.frm {R : Nat → Prop} (h : HpAt w B H o m) (f : Frm w w' R) (hr : ∀ k, HR w H o k → ¬ R k) : HpAt w' B H o m := by
  obtain ⟨c, T, A1, c1, A2, c2, t1, t2, t3, h1, h2, h3, h4, h5, h6, h7⟩ := h.at_
  have e2 : w.cell? ⟨H, o + 2, none⟩ = some (.slice A1 m.ws.length c1) := by simp [World.cell?, h1, h4]
  have e3 : w.cell? ⟨H, o + 3, none⟩ = some (.slice A2 m.st.length c2) := by simp [World.cell?, h1, h5]
  refine ⟨h.ok, Nat.le_trans h.hB f.size, c, T, A1, c1, A2, c2, t1, t2, t3, (f.block H h.lt (hr H (.inl rfl))).trans h1, h2, h3, h4, h5, own_frm h6 f (fun k hk => hr k ?_), own_frm h7 f (fun k hk => hr k ?_)⟩
  · rcases h6.2 with ⟨e, e0⟩ | ⟨g, cap, cur, e, _⟩
    · rw [e] at hk; simp [Value.ownBlock] at hk
    · rw [e] at hk; simp [Value.ownBlock] at hk; subst hk; exact .inr (.inl ⟨_, _, by rw [e2, e]⟩)
  · rcases h7.2 with ⟨e, e0⟩ | ⟨g, cap, cur, e, _⟩
    · rw [e] at hk; simp [Value.ownBlock] at hk
    · rw [e] at hk; simp [Value.ownBlock] at hk; subst hk; exact .inr (.inr ⟨_, _, by rw [e3, e]⟩)
theorem HpAt.below (h : HpAt w B H o m) (hb : Below w.heap.size w w') : HpAt w' B H o m := h.frm (R := fun k => w.heap.size ≤ k) (Frm.of_below hb (Nat.le_refl _) _) (fun k hk hk2 => by
  obtain ⟨c, T, A1, c1, A2, c2, t1, t2, t3, h1, h2, h3, h4, h5, h6, h7⟩ := h.at_
  have e2 : w.cell? ⟨H, o + 2, none⟩ = some (.slice A1 m.ws.length c1) := by simp [World.cell?, h1, h4]
  have e3 : w.cell? ⟨H, o + 3, none⟩ = some (.slice A2 m.st.length c2) := by simp [World.cell?, h1, h5]
  rcases hk with rfl | ⟨n, c, hc⟩ | ⟨n, c, hc⟩
  · have := h.lt; omega
  · rw [e2] at hc; injection hc with hc; rw [hc] at h6; have := (h6.lt k rfl).2; omega
  · rw [e3] at hc; injection hc with hc; rw [hc] at h7; have := (h7.lt k rfl).2; omega)
theorem HpAt.ge (h : HpAt w B H o m) {k : Nat} (hk : HR w H o k) : k = H ∨ (B ≤ k ∧ k < w.heap.size) := by
  obtain ⟨c, T, A1, c1, A2, c2, t1, t2, t3, h1, h2, h3, h4, h5, h6, h7⟩ := h.at_
  have e2 : w.cell? ⟨H, o + 2, none⟩ = some (.slice A1 m.ws.length c1) := by simp [World.cell?, h1, h4]
  have e3 : w.cell? ⟨H, o + 3, none⟩ = some (.slice A2 m.st.length c2) := by simp [World.cell?, h1, h5]
  rcases hk with rfl | ⟨n, c, hc⟩ | ⟨n, c, hc⟩
  · exact .inl rfl
  · rw [e2] at hc; injection hc with hc; rw [hc] at h6; exact .inr (h6.lt k rfl)
  · rw [e3] at hc; injection hc with hc; rw [hc] at h7; exact .inr (h7.lt k rfl)
theorem HpAt.mono (h : HpAt w B H o m) (hb : B' ≤ B) : HpAt w B' H o m := by
  obtain ⟨c, T, A1, c1, A2, c2, t1, t2, t3, h1, h2, h3, h4, h5, h6, h7⟩ := h.at_
  exact ⟨h.ok, Nat.le_trans hb h.hB, c, T, A1, c1, A2, c2, t1, t2, t3, h1, h2, h3, h4, h5, own_mono h6 hb, own_mono h7 hb⟩
end
def findB (m : Hm) (p : Int) : Bool := atB p && decide ((atV p).toNat < m.ws.length) && m.st.getD (atV p).toNat false
def findV (m : Hm) (p : Int) : Int := if findB m p = true then atV p else 0
end Go.Proofs.Ytknpgmbniohcnaa
