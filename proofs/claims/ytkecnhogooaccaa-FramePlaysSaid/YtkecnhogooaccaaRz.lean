import Derived.Test.YtkecnhogooaccaaRy
namespace Go.Proofs.Ytkecnhogooaccaa
open Go.ChangeShapes Go.WideShapes Go.ChangeAt Go.RowKit
set_option linter.unusedVariables false
theorem rows_mem {fl : List RX} {x : RX} (hx : x ∈ fl) : x.sv ∈ rowsOf fl ∧ x.av ∈ rowsOf fl := by
  simp only [rowsOf, List.mem_flatMap]
  exact ⟨⟨x, hx, by simp⟩, ⟨x, hx, by simp⟩⟩
/-- fewer frames. -/
theorem RS.pre {w w' : World} {B g room n q N c : Nat} {A : Option Addr} {a b : List RX} (t : RS w B g room (.slice A N c) (a ++ b)) (hn : n = a.length) (hq : n ≤ q) (hA : A = none → q = 0) (f : Frm w w' (· = g))
    (ho : w'.heap[g]? = some (.cells #[.int .i64 room, .slice A n q] 47 (0, 0))) : RS w' B g room (.slice A n q) a ∧ ∀ k, Own g (.slice A n q) a k → Own g (.slice A N c) (a ++ b) k := by
  have hN : N = (a ++ b).length := by
    obtain ⟨A', c', e, _⟩ := t.shape
    injection e
  have hrf := t.rf
  rw [← hN] at hrf
  have hnN : n ≤ N := by rw [hN, hn]; simp
  have h1 := hrf.cut (p := n) (q := q) hnN hq hA
  have e1 : (frc (a ++ b)).take (n * 4) = frc a := by rw [frc_app, List.take_left' (by rw [frc_len, hn])]
  rw [e1] at h1
  have hsub : ∀ k, rb (.slice A n q) = some k → rb (.slice A N c) = some k := fun k hk => by
    cases A with
    | none => simp [rb] at hk
    | some ad =>
      simp only [rb] at hk ⊢
      split at hk
      · rw [if_pos (by omega)]; exact hk
      · cases hk
  have hgf := t.gf
  have hap : Apart (rowsOf a) := by have := t.ap; rw [rowsOf_app] at this; exact this.pre
  have hz : ∀ x ∈ a, x.sv ∈ rowsOf (a ++ b) ∧ x.av ∈ rowsOf (a ++ b) := fun x hx => rows_mem (by simp [hx])
  refine ⟨⟨ho, t.le, ?_, ?_, ?_, hap, ?_, t.small⟩, ?_⟩
  · rw [← hn]
    exact h1.frm f (fun k hk e => hgf (e ▸ hsub k hk))
  · exact fun x hx => (t.rs x (by simp [hx])).frm f (fun k hk e => t.gz _ (hz x hx).1 (e ▸ hk))
  · exact fun x hx => (t.ra x (by simp [hx])).frm f (fun k hk e => t.gz _ (hz x hx).2 (e ▸ hk))
  · have := t.fits; rw [List.map_append] at this; exact Nat.le_trans (used_le _ _) this
  · rintro k (h | h | ⟨z, hz, h⟩)
    · exact .inl h
    · exact .inr (.inl (hsub k h))
    · exact .inr (.inr ⟨z, by rw [rowsOf_app]; simp [hz], h⟩)
theorem obj_set1 {w : World} {g room : Nat} {fv : Value} (v : Value) (h : w.heap[g]? = some (.cells #[.int .i64 room, fv] 47 (0, 0))) : (w.setCell ⟨g, 1, none⟩ v).heap[g]? = some (.cells #[.int .i64 room, v] 47 (0, 0)) := by simp [World.setCell, Array.getElem?_modify, h]
theorem frm_drewN {w w' : World} {R : Nat → Prop} (h : Frm w w' R) (n : Nat) : Frm w (w'.drewN n) R := ⟨h.os, h.tape, h.output, h.size, h.block⟩
set_option maxRecDepth 100000 in
set_option maxHeartbeats 2000000 in
theorem rpop_none {w : World} {B g room : Nat} {fv : Value} (t : RS w B g room fv []) :
    Calls Try.prog 22 #[.pointer (some ⟨g, 0, none⟩)] w fun e w' => e = .returned (.tuple #[.int .i64 0, .int .i64 0, .int .i64 4]) ∧ Below w.heap.size w w' := by
  have c1 := t.c1
  obtain ⟨A, c, rfl, _, _⟩ := t.shape
  have e0 : ([] : List RX).length = 0 := rfl
  rw [e0] at c1
  clear t
  go_enter Try.func22, Try.ntmps22
  go_wp2
  go_returns
  exact ⟨rfl, Below.refl _ _⟩
set_option maxRecDepth 100000 in
set_option maxHeartbeats 4000000 in
theorem rpop_some {w : World} {B g room : Nat} {fv : Value} {a : List RX} {x : RX} (t : RS w B g room fv (a ++ [x])) :
    Calls Try.prog 22 #[.pointer (some ⟨g, 0, none⟩)] w fun e w' => ∃ fv', e = .returned (.tuple #[.int .i64 x.f.back, .int .i64 x.f.call, .int .i64 0]) ∧ Hid (RS w' B g room fv' a) ∧ Hid (Frm w w' (· = g)) ∧ Hid (∀ k, Own g fv' a k → Own g fv (a ++ [x]) k) := by
  have c1 := t.c1
  obtain ⟨bf, c, rfl, hc, hcell, _⟩ := t.at
  obtain ⟨y0, y1, y2, y3⟩ := hcell w (Below.refl _ _)
  obtain ⟨⟨A1, c1', e1, _, _⟩, ⟨A2, c2', e2, _, _⟩, _⟩ := RX.rows t
  rw [e1] at y2; rw [e2] at y3
  obtain ⟨n, hn⟩ : ∃ n, n = a.length := ⟨_, rfl⟩
  obtain ⟨N, hN⟩ : ∃ N, N = (a ++ [x]).length := ⟨_, rfl⟩
  rw [← hN] at c1 hc
  rw [← hn] at y0 y1 y2 y3
  have hl : N = n + 1 := by rw [hN, hn]; simp
  have hN1 : (N : Int) - 1 = (n : Int) := by omega
  have hN0 : ((N : Int) == 0) = false := beq_eq_false_iff_ne.2 (by omega)
  have hN0' : (N == 0) = false := beq_eq_false_iff_ne.2 (by omega)
  have hn9 : n ≤ 4096 := by have := t.len.1; rw [← hN] at this; omega
  have hnN : (n : Int) < (N : Int) := by omega
  have hn0 : (0 : Int) ≤ (n : Int) := Int.natCast_nonneg _
  have hnc : n ≤ c := by omega
  have hnci : (n : Int) ≤ (c : Int) := by omega
  have f1 : (w.alloc (.cells #[.int .i64 x.f.back, .int .i64 x.f.call, .slice A1 x.f.slots.length c1', .slice A2 x.f.added.length c2'] 80)).frozen? ⟨g, 1, none⟩ = false := (t.below (below_alloc w _)).fz1 1
  have k1 : (w.alloc (.cells #[.int .i64 x.f.back, .int .i64 x.f.call, .slice A1 x.f.slots.length c1', .slice A2 x.f.added.length c2'] 80)).cell? ⟨g, 1, none⟩ = some (.slice (some ⟨bf, 0, none⟩) N c) := (t.below (below_alloc w _)).c1.trans (by rw [hN])
  have hne : w.heap.size ≠ g := by have := t.glt; omega
  have hne2 : g ≠ w.heap.size := Ne.symm hne
  obtain ⟨z0, z1, z2, z3⟩ := box4c w (.int .i64 x.f.back) (.int .i64 x.f.call) (.slice A1 x.f.slots.length c1') (.slice A2 x.f.added.length c2') 80
  have T := Lib.hid t
  have KEY : Hid (∀ m, RS ((((w.alloc (.cells #[.int .i64 x.f.back, .int .i64 x.f.call, .slice A1 x.f.slots.length c1', .slice A2 x.f.added.length c2'] 80)).setCell ⟨g, 1, none⟩ (.slice (some ⟨bf, 0, none⟩) n n))).drewN m) B g room (.slice (some ⟨bf, 0, none⟩) n n) a ∧ Frm w (((w.alloc (.cells #[.int .i64 x.f.back, .int .i64 x.f.call, .slice A1 x.f.slots.length c1', .slice A2 x.f.added.length c2'] 80)).setCell ⟨g, 1, none⟩ (.slice (some ⟨bf, 0, none⟩) n n)).drewN m) (· = g) ∧ ∀ k, Own g (.slice (some ⟨bf, 0, none⟩) n n) a k → Own g (.slice (some ⟨bf, 0, none⟩) (a ++ [x]).length c) (a ++ [x]) k) := Lib.hid (fun m => by
    have hf : Frm w (((w.alloc (.cells #[.int .i64 x.f.back, .int .i64 x.f.call, .slice A1 x.f.slots.length c1', .slice A2 x.f.added.length c2'] 80)).setCell ⟨g, 1, none⟩ (.slice (some ⟨bf, 0, none⟩) n n)).drewN m) (· = g) := frm_drewN ((Frm.of_below (below_alloc w _) (Nat.le_refl _) _).trans (frm_set (R := (· = g)) 1 _ rfl)) m
    have h := t.pre (n := n) (q := n) hn (Nat.le_refl _) (fun h => by cases h) hf (obj_set1 _ (t.below (below_alloc w _)).obj)
    exact ⟨h.1, hf, h.2⟩)
  clear t hcell hN hn hl e1 e2 hc
  go_enter Try.func22, Try.ntmps22
  go_wp2
  go_quiet (fail)
  go_wp2
  go_returns
  exact ⟨_, rfl, Lib.hid (KEY.out _).1, Lib.hid (KEY.out _).2.1, Lib.hid (KEY.out 0).2.2⟩
end Go.Proofs.Ytkecnhogooaccaa
