import Derived.Test.YtkecnhogooaccaaRx
namespace Go.Proofs.Ytkecnhogooaccaa
open Go.ChangeShapes Go.WideShapes Go.ChangeAt Go.RowKit
set_option linter.unusedVariables false
theorem used_snoc (l : List RF) (f : RF) : used (l ++ [f]) = used l + 2 + f.slots.length + f.added.length := by
  unfold used
  rw [wdOf_app, wdOf_one]
  simp [RF.ws]
  omega
theorem used_le (a b : List RF) : used a ≤ used (a ++ b) := by
  unfold used
  rw [wdOf_app]
  simp
  omega
/-- the frames' slice, and the frame at a place as a triple of letters. -/
theorem RS.shape {w : World} {B g room : Nat} {fv : Value} {fl : List RX} (t : RS w B g room fv fl) : ∃ A c, fv = .slice A fl.length c ∧ fl.length ≤ c ∧ (A = none → c = 0) := t.rf.form
theorem RX.rows {w : World} {B g room : Nat} {fv : Value} {a b : List RX} {x : RX} (t : RS w B g room fv (a ++ x :: b)) : (∃ A c, x.sv = .slice A x.f.slots.length c ∧ x.f.slots.length ≤ c ∧ (A = none → c = 0)) ∧ (∃ A c, x.av = .slice A x.f.added.length c ∧ x.f.added.length ≤ c ∧ (A = none → c = 0)) ∧ x.f.slots.length + x.f.added.length ≤ 4096 := by
  have hx : x ∈ a ++ x :: b := by simp
  refine ⟨(t.rs x hx).form, (t.ra x hx).form, ?_⟩
  have h := t.fits; have hs := t.small
  rw [show a ++ x :: b = (a ++ [x]) ++ b by simp, List.map_append] at h
  have h2 := Nat.le_trans (used_le _ _) h
  rw [List.map_append, List.map_cons, List.map_nil, used_snoc] at h2
  omega
set_option maxRecDepth 100000 in
set_option maxHeartbeats 2000000 in
theorem rdepth_any {w : World} {B g room : Nat} {fv : Value} {fl : List RX} (t : RS w B g room fv fl) :
    Calls Try.prog 31 #[.pointer (some ⟨g, 0, none⟩)] w fun e w' => e = .returned (.int .i64 fl.length) ∧ Below w.heap.size w w' := by
  have c1 := t.c1
  obtain ⟨A, c, rfl, _, _⟩ := t.shape
  clear t
  go_enter Try.func31, Try.ntmps31
  go_wp2
  go_ret
  exact ⟨rfl, Below.refl _ _⟩
set_option maxRecDepth 100000 in
set_option maxHeartbeats 2000000 in
theorem radded_none {w : World} {B g room : Nat} {fv : Value} (t : RS w B g room fv []) :
    Calls Try.prog 33 #[.pointer (some ⟨g, 0, none⟩)] w fun e w' => e = .returned (.int .i64 0) ∧ Below w.heap.size w w' := by
  have c1 := t.c1
  obtain ⟨A, c, rfl, _, _⟩ := t.shape
  have e0 : ([] : List RX).length = 0 := rfl
  rw [e0] at c1
  clear t
  go_enter Try.func33, Try.ntmps33
  go_wp2
  go_ret
  exact ⟨rfl, Below.refl _ _⟩
set_option maxRecDepth 100000 in
set_option maxHeartbeats 2000000 in
theorem radded_some {w : World} {B g room : Nat} {fv : Value} {a : List RX} {x : RX} (t : RS w B g room fv (a ++ [x])) :
    Calls Try.prog 33 #[.pointer (some ⟨g, 0, none⟩)] w fun e w' => e = .returned (.int .i64 x.f.added.length) ∧ Below w.heap.size w w' := by
  have c1 := t.c1
  obtain ⟨bf, c, rfl, hc, hcell, _⟩ := t.at
  obtain ⟨y0, y1, y2, y3⟩ := hcell w (Below.refl _ _)
  obtain ⟨_, ⟨A2, c2, e2, _, _⟩, _⟩ := RX.rows t
  rw [e2] at y3
  obtain ⟨n, hn⟩ : ∃ n, n = a.length := ⟨_, rfl⟩
  obtain ⟨N, hN⟩ : ∃ N, N = (a ++ [x]).length := ⟨_, rfl⟩
  rw [← hN] at c1
  rw [← hn] at y3
  have hl : N = n + 1 := by rw [hN, hn]; simp
  have hN1 : (N : Int) - 1 = (n : Int) := by omega
  have hN0 : ((N : Int) == 0) = false := beq_eq_false_iff_ne.2 (by omega)
  have hN0' : (N == 0) = false := beq_eq_false_iff_ne.2 (by omega)
  have hn9 : n ≤ 4096 := by have := t.len.1; rw [← hN] at this; omega
  have hnN : (n : Int) < (N : Int) := by omega
  obtain ⟨m, hm⟩ : ∃ m, m = x.f.added.length := ⟨_, rfl⟩
  rw [← hm] at y3 ⊢
  clear t hcell hN hn y0 y1 y2 hl e2 hm hc
  go_enter Try.func33, Try.ntmps33
  go_wp2
  go_quiet (fail)
  go_wp2
  go_ret
  exact ⟨rfl, below_drewN _ _⟩
set_option maxRecDepth 100000 in
set_option maxHeartbeats 2000000 in
theorem rget_none {w : World} {B g room : Nat} {fv : Value} (i : Int) (t : RS w B g room fv []) :
    Calls Try.prog 30 #[.pointer (some ⟨g, 0, none⟩), .int .i64 i] w fun e w' => e = .returned (.tuple #[.int .u64 0, .int .i64 4]) ∧ Below w.heap.size w w' := by
  have c1 := t.c1
  obtain ⟨A, c, rfl, _, _⟩ := t.shape
  have e0 : ([] : List RX).length = 0 := rfl
  rw [e0] at c1
  clear t
  go_enter Try.func30, Try.ntmps30
  go_wp2
  go_returns
  exact ⟨rfl, Below.refl _ _⟩
set_option maxRecDepth 100000 in
set_option maxHeartbeats 2000000 in
theorem rget_some {w : World} {B g room : Nat} {fv : Value} {a : List RX} {x : RX} (i : Int) (t : RS w B g room fv (a ++ [x])) :
    Calls Try.prog 30 #[.pointer (some ⟨g, 0, none⟩), .int .i64 i] w fun e w' => e = .returned (.tuple #[.int .u64 (getS ((a ++ [x]).map (·.f)) i).1, .int .i64 (getS ((a ++ [x]).map (·.f)) i).2]) ∧ Below w.heap.size w w' := by
  rw [List.map_append, List.map_cons, List.map_nil, getS_app]
  have c1 := t.c1
  obtain ⟨bf, c, rfl, hc, hcell, _⟩ := t.at
  obtain ⟨y0, y1, y2, y3⟩ := hcell w (Below.refl _ _)
  obtain ⟨⟨A2, c2, e2, hc2, _⟩, _, hsm⟩ := RX.rows t
  have hrow := t.rs x (by simp)
  rw [e2] at y2 hrow
  obtain ⟨n, hn⟩ : ∃ n, n = a.length := ⟨_, rfl⟩
  obtain ⟨N, hN⟩ : ∃ N, N = (a ++ [x]).length := ⟨_, rfl⟩
  rw [← hN] at c1
  rw [← hn] at y2
  have hl : N = n + 1 := by rw [hN, hn]; simp
  have hN1 : (N : Int) - 1 = (n : Int) := by omega
  have hN0 : ((N : Int) == 0) = false := beq_eq_false_iff_ne.2 (by omega)
  have hN0' : (N == 0) = false := beq_eq_false_iff_ne.2 (by omega)
  have hn9 : n ≤ 4096 := by have := t.len.1; rw [← hN] at this; omega
  have hnN : (n : Int) < (N : Int) := by omega
  obtain ⟨m, hm⟩ : ∃ m, m = x.f.slots.length := ⟨_, rfl⟩
  rw [← hm] at y2 hrow hc2 hsm ⊢
  have HR := Lib.hid hrow
  have HM := Lib.hid hm
  clear t hcell hN hn y0 y1 y3 hl e2 hm hc hrow
  by_cases h0 : i < 0
  · rw [if_pos (.inl h0)]
    have d0 := decide_eq_true h0
    go_enter Try.func30, Try.ntmps30
    go_wp2
    go_returns
    exact ⟨rfl, Below.refl _ _⟩
  have d0 := decide_eq_false h0
  by_cases h1 : (m : Int) ≤ i
  · rw [if_pos (.inr h1)]
    have d1 := decide_eq_true h1
    have i0 : (0 : Int) ≤ i := by omega
    go_enter Try.func30, Try.ntmps30
    go_wp2
    go_returns
    exact ⟨rfl, Below.refl _ _⟩
  · rw [if_neg (by omega)]
    have d1 := decide_eq_false h1
    obtain ⟨k, rfl⟩ : ∃ k : Nat, i = k := ⟨i.toNat, by omega⟩
    have hk : k < m := by omega
    have hk' : (k : Int) < (m : Int) := by omega
    have d1' := decide_eq_false (show ¬ m ≤ k by omega)
    obtain ⟨b2, rfl, _, _, hc9, _⟩ := HR.out.at (by omega)
    have z := hc9 k _ (wds_at x.f.slots k (by rw [← HM.out]; exact hk))
    rw [Int.toNat_natCast]
    obtain ⟨V, hV⟩ : ∃ V, V = x.f.slots.getD k 0 := ⟨_, rfl⟩
    rw [← hV] at z ⊢
    clear hc9 hV HR HM h0 h1
    go_enter Try.func30, Try.ntmps30
    go_wp2
    go_returns
    exact ⟨rfl, Below.refl _ _⟩
end Go.Proofs.Ytkecnhogooaccaa
