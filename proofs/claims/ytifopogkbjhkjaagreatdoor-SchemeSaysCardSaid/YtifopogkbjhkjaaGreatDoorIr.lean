import Derived.Test.YtifopogkbjhkjaaGreatDoorRg
namespace Go.Proofs.YtifopogkbjhkjaaGreatDoor
open DR
open Go.ChangeShapes Go.WideShapes Go.ChangeAt Go.RowKit Go.WideMaps
set_option linter.unusedVariables false
set_option linter.unusedSimpArgs false
/-- a row of numbers. -/
def IRow (w : World) (A : Option Addr) (l : List Int) : Prop := l.length = 0 ∨ ∃ b o, A = some ⟨b, o, none⟩ ∧ b < w.heap.size ∧ ∀ j (h : j < l.length), w.cell? ⟨b, o + j, none⟩ = some (.int .i64 l[j])
theorem IRow.later {w w' : World} {A : Option Addr} {l : List Int} (h : IRow w A l) (hb : Below w.heap.size w w') : IRow w' A l := by
  rcases h with h | ⟨b, o, h1, h2, h3⟩
  · exact .inl h
  · exact .inr ⟨b, o, h1, Nat.lt_of_lt_of_le h2 hb.size, fun j hj => (hb.cell (p := ⟨b, o + j, none⟩) h2).trans (h3 j hj)⟩
theorem IRow.movB {w w' : World} {B : Nat} {A : Option Addr} {l : List Int} (h : IRow w A l) (hB : w.heap.size ≤ B) {W : World} (hw : Below w.heap.size w W) (hb : Below B W w') : IRow w' A l := by
  rcases h with h | ⟨b, o, h1, h2, h3⟩
  · exact .inl h
  · exact .inr ⟨b, o, h1, Nat.lt_of_lt_of_le h2 (Nat.le_trans hw.size hb.size), fun j hj => ((hb.cell (p := ⟨b, o + j, none⟩) (Nat.lt_of_lt_of_le h2 hB)).trans (hw.cell (p := ⟨b, o + j, none⟩) h2)).trans (h3 j hj)⟩
theorem own_irow {w : World} {B n c : Nat} {A : Option Addr} {l : List Int} (h : w.ownsRow B TI 1 (.slice A n c) n (ivs l)) (hn : n = l.length) : IRow w A l := by
  rcases h.2 with ⟨q1, q2⟩ | ⟨g, cap, cur, q1, q2, q3, q4, q5, q6, q7⟩
  · exact .inl (by omega)
  · injection q1 with q1
    refine .inr ⟨g, 0, q1, (Array.getElem?_eq_some_iff.1 q3).1, fun j hj => ?_⟩
    have h' := h
    rw [q1] at h'
    have := h'.cellAt j (by rw [Nat.mul_one]; omega)
    rw [Nat.zero_add]
    have e : (ivs l)[j]? = some (.int .i64 l[j]) := by simp [ivs, hj]
    rw [e] at this
    exact this
theorem notin_take {l : List Int} {x : Int} {k : Nat} (h : k < l.length) (hn : x ∉ l.take k) (hx : l[k] ≠ x) : x ∉ l.take (k + 1) := by
  rw [List.take_succ_eq_append_getElem h]
  simp only [List.mem_append, List.mem_singleton, not_or]
  exact ⟨hn, fun e => hx e.symm⟩
set_option maxRecDepth 100000 in
set_option maxHeartbeats 2000000 in
/-- has. -/
theorem rhas_any {l : List Int} {A : Option Addr} {c : Nat} {w : World} (x : Int) (hl : l.length ≤ 2000000) (h : IRow w A l) : Calls Tryz.prog 39 #[.slice A l.length c, .int .i64 x] w fun e w' => e = .returned (.bool (decide (x ∈ l))) ∧ w' = w := by
  have HR := Lib.hid h
  obtain ⟨N, hN⟩ : ∃ N, N = l.length := ⟨_, rfl⟩
  have HN := Lib.hid hN
  rw [← hN] at hl ⊢
  obtain ⟨ans, hans⟩ : ∃ b, b = decide (x ∈ l) := ⟨_, rfl⟩
  have HA := Lib.hid hans
  rw [← hans]
  clear h hN hans
  go_enter Tryz.func39, Tryz.ntmps39
  go_wp2
  go_loopw [5] (fun i wr => ∃ k : Nat, k ≤ N ∧ i = .int .i64 k ∧ wr = w ∧ Hid (x ∉ l.take k)) (fun i _ => N - (intOf i).toNat)
  case atStart => exact ⟨0, by omega, by first | rfl | trivial, by first | rfl | trivial, Lib.hid (by simp)⟩
  case round =>
    obtain ⟨k, hk, rfl, rfl, HT⟩ := hrel
    by_cases hlt : k < N
    · have hlti : (k : Int) < (N : Int) := by omega
      have hlt' : k < l.length := by rw [← HN.out]; exact hlt
      obtain ⟨b, o, rfl, hb, hr⟩ : ∃ b o, A = some ⟨b, o, none⟩ ∧ b < wr.heap.size ∧ ∀ j (h : j < l.length), wr.cell? ⟨b, o + j, none⟩ = some (.int .i64 l[j]) := HR.out.resolve_left (by rw [← HN.out]; omega)
      have x0 := hr k hlt'
      by_cases hx : l[k] = x
      · have qx : (l[k] == x) = true := by rw [hx]; exact beq_self_eq_true x
        have HIN : Hid (ans = true) := Lib.hid (by rw [HA.out]; exact decide_eq_true (hx ▸ List.getElem_mem hlt'))
        clear hr hb hx
        go_wp2
        go_ret
        exact ⟨by rw [HIN.out]; rfl, rfl⟩
      · have qx : (l[k] == x) = false := beq_eq_false_iff_ne.2 hx
        have HT2 := Lib.hid (notin_take hlt' HT.out hx)
        clear hr hb hx
        go_wp2
        go_roundw
        case rel => exact ⟨k + 1, by omega, by go_num, by first | rfl | trivial, HT2⟩
        case measure => simp [intOf]; omega
    · obtain rfl : N = k := by omega
      have hge : ¬ (N : Int) < (N : Int) := by omega
      have HF : Hid (ans = false) := Lib.hid (by rw [HA.out]; exact decide_eq_false (by have := HT.out; rw [HN.out, List.take_length] at this; exact this))
      go_wp2
      go_ret
      exact ⟨by rw [HF.out]; rfl, rfl⟩
/-- what answers a row of numbers. -/
def RvPost (w : World) (l : List Int) (e : Ending) (w' : World) : Prop := ∃ A c, e = .returned (.slice A l.length c) ∧ IRow w' A l ∧ (A = none → l.length = 0 ∧ c = 0) ∧ Below w.heap.size w w'
end Go.Proofs.YtifopogkbjhkjaaGreatDoor
