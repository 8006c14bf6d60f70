import Derived.Test.YtaidlcnfkdaijaaCw
import Derived.Test.YtaidlcnfkdaijaaArg
namespace Go.Proofs.Ytaidlcnfkdaijaa
open Go.ChangeShapes Go.WideShapes Go.ChangeAt Go.RowKit
set_option linter.unusedVariables false
theorem cellsOf22 : Try.prog.cellsOf 22 = 1 := by kernel_rfl
theorem open_bytes {H : Type} {enc : TypeId × Value → H} {w : World} {base m : Nat} {a : Addr} {y : DataW H × List MemPlace} (h : (w.cells? base a 1).bind (DataW.trod enc Try.prog w base (fun _ => true) true m 22) = some y) :
    ∃ xs A n c, w.cell? a = some (.slice A n c) ∧ Sl w A n c xs ∧ ∀ j, xs.getD j 0 < 256 := by
  rw [Option.bind_eq_some_iff] at h
  obtain ⟨cs, hcs, ht⟩ := h
  obtain ⟨-, hcl, hc⟩ := World.cells?_some hcs
  have sh : ∃ A n c, cs = [.slice A n c] := by
    rcases DataW.trod_slice Try.underlying22 ht with h0 | ⟨a, len, cap, elems, rest, n, _, rfl, _⟩
    · exact ⟨none, 0, 0, h0.1⟩
    · exact ⟨some a, len, cap, rfl⟩
  obtain ⟨A, n, c, rfl⟩ := sh
  obtain ⟨xs, s, b⟩ := sl_open (d := y.1) (p := y.2) ht
  refine ⟨xs, A, n, c, ?_, s, b⟩
  have := hc 0 (by simp)
  simpa [Addr.add] using this
theorem open_list {H : Type} {enc : TypeId × Value → H} {w : World} {base fuel : Nat} {a : Option Addr} {n c : Nat} {x : DataW H × List MemPlace} (h : DataW.trod enc Try.prog w base (fun _ => true) true fuel 31 [.slice a n c] = some x) :
    (n = 0) ∨ ∃ b off, a = some ⟨b, off, none⟩ ∧ b < w.heap.size ∧ n ≤ c ∧ ∃ L : Nat → List Nat, (∀ j, j < n → ∃ A m d, w.cell? ⟨b, off + j, none⟩ = some (.slice A m d) ∧ Sl w A m d (L j)) ∧ ∀ i k, (st L i).getD k 0 < 256 := by
  rcases DataW.trod_slice Try.underlying31 h with h0 | ⟨a', len, cap, elems, rest, m, _, hcs, _, hb, hl, hm, hlen, hel, _, _⟩
  · left
    have := h0.1
    simp at this
    exact this.2.1
  simp at hcs
  obtain ⟨rfl, rfl, rfl⟩ := hcs
  rcases Nat.eq_zero_or_pos n with h0 | hpos
  · exact .inl h0
  right
  rw [cellsOf22] at hel
  have each : ∀ i, i < n → ∃ xs A m d, w.cell? (a'.add i) = some (.slice A m d) ∧ Sl w A m d xs ∧ ∀ j, xs.getD j 0 < 256 := fun i hi => by
    have he := hel i hi
    rw [List.getElem?_eq_getElem (by omega), Nat.mul_one] at he
    exact open_bytes he
  obtain ⟨xs0, A0, m0, d0, h1, _⟩ := each 0 hpos
  have hsp := World.cell?_spot h1
  have hlt := World.block_lt_of_cell? w _ h1
  obtain ⟨b, off, spot⟩ := a'
  have hs : spot = none := by simpa [Addr.add] using hsp
  subst hs
  have hlt' : b < w.heap.size := by simpa [Addr.add] using hlt
  classical
  refine ⟨b, off, rfl, hlt', hl, fun j => if hj : j < n then Classical.choose (each j hj) else [], fun j hj => ?_, fun i k => ?_⟩
  · have hsp := Classical.choose_spec (each j hj)
    simp only [hj, dite_true]
    obtain ⟨A, m, d, h1, h2, _⟩ := hsp
    rw [Go.WideShapes.add_plain] at h1
    exact ⟨A, m, d, h1, h2⟩
  · cases i with
    | zero => simp [st]
    | succ j =>
      simp only [st]
      by_cases hj : j < n
      · have hsp := Classical.choose_spec (each j hj)
        simp only [hj, dite_true]
        obtain ⟨A, m, d, _, _, h3⟩ := hsp
        exact h3 k
      · simp [hj]
set_option maxRecDepth 100000 in
set_option maxHeartbeats 4000000 in
theorem chain_long {w : World} {a : Option Addr} {n c : Nat} (hn : 10 < n) :
    Calls Try.prog 5 #[.slice a n c] w fun e w' => e = .returned (.bool true) ∧ Below w.heap.size w w' := by
  have hn' : (10 : Int) < (n : Int) := by omega
  go_enter Try.func5, Try.ntmps5
  go_wp2_with fail
  refine (awake _).mono ?_; rintro e w1 ⟨rfl, hb1⟩
  have B1 := Lib.hid hb1; clear hb1
  go_wp2
  go_ret
  exact ⟨rfl, B1.out⟩
set_option maxRecDepth 100000 in
set_option maxHeartbeats 4000000 in
theorem chain_none {w : World} {a : Option Addr} {c : Nat} :
    Calls Try.prog 5 #[.slice a 0 c] w fun e w' => e = .returned (.bool true) ∧ Below w.heap.size w w' := by
  go_enter Try.func5, Try.ntmps5
  go_wp2_with fail
  refine (awake _).mono ?_; rintro e w1 ⟨rfl, hb1⟩
  have B1 := Lib.hid hb1; clear hb1
  go_wp2
  refine wp_loop_rounds 1 ?_
  rw [rounds_succ]
  go_wp2
  refine wp_loop_rounds 1 ?_
  rw [rounds_succ]
  go_wp2
  refine wp_loop_rounds 1 ?_
  rw [rounds_succ]
  go_wp2
  go_ret
  exact ⟨rfl, B1.out⟩
end Go.Proofs.Ytaidlcnfkdaijaa
