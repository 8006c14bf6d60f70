/- Contracts of Op at its five names, the law's waking, and the walk of ValRing. -/
import Derived.Test.YtclilpabdcdeoaaDoorBase
namespace Go.Proofs.YtclilpabdcdeoaaDoor
open Go.ChangeShapes Go.WideShapes Go.ChangeAt Go.RowKit
theorem op_sub (a b : Int) (w : World) : Calls Tryd.prog 10 #[.string ⟨#[45]⟩, .int .i64 a, .int .i64 b] w fun e w' => e = .returned (.tuple #[num 1 (wrap63 (wrap64 (a - b))), .bool true]) ∧ Below w.heap.size w w' := by
  go_enter Tryd.func10, Tryd.ntmps10
  go_wp2
  go_returns
  exact ⟨rfl, (Below.refl _ _).alloc (Nat.le_refl _) _⟩
theorem op_mul (a b : Int) (w : World) : Calls Tryd.prog 10 #[.string ⟨#[42]⟩, .int .i64 a, .int .i64 b] w fun e w' => e = .returned (.tuple #[num 1 (wrap63 (wrap64 (a * b))), .bool true]) ∧ Below w.heap.size w w' := by
  go_enter Tryd.func10, Tryd.ntmps10
  go_wp2
  go_returns
  exact ⟨rfl, (Below.refl _ _).alloc (Nat.le_refl _) _⟩
theorem op_lt (a b : Int) (w : World) : Calls Tryd.prog 10 #[.string ⟨#[60]⟩, .int .i64 a, .int .i64 b] w fun e w' => e = .returned (.tuple #[num 2 (if a < b then 1 else 0), .bool true]) ∧ Below w.heap.size w w' := by
  by_cases h : a < b
  · rw [if_pos h]
    go_enter Tryd.func10, Tryd.ntmps10
    go_wp2
    go_returns
    exact ⟨rfl, by go_grown⟩
  · rw [if_neg h]
    have h' : b ≤ a := by omega
    clear h
    go_enter Tryd.func10, Tryd.ntmps10
    go_wp2
    go_returns
    exact ⟨rfl, by go_grown⟩
theorem op_eq (a b : Int) (w : World) : Calls Tryd.prog 10 #[.string ⟨#[61]⟩, .int .i64 a, .int .i64 b] w fun e w' => e = .returned (.tuple #[num 2 (if a = b then 1 else 0), .bool true]) ∧ Below w.heap.size w w' := by
  by_cases h : a = b
  · rw [if_pos h]
    subst h
    go_enter Tryd.func10, Tryd.ntmps10
    go_wp2
    go_returns
    exact ⟨rfl, by go_grown⟩
  · rw [if_neg h]
    have h' : (a == b) = false := beq_eq_false_iff_ne.2 h
    clear h
    go_enter Tryd.func10, Tryd.ntmps10
    go_wp2
    go_returns
    exact ⟨rfl, by go_grown⟩
theorem wrap_lim : wrap63 4611686018427387904 = -4611686018427387904 ∧ wrap63 (wrap64 4611686018427387904) = -4611686018427387904 := by unfold wrap63 wrap64; decide
set_option maxHeartbeats 2000000 in
set_option maxRecDepth 100000 in
theorem awake (w : World) : Calls Tryd.prog 9 #[] w fun e w' => e = .returned (.bool true) ∧ Below w.heap.size w w' := by
  have HW := Lib.hid wrap_lim
  go_enter Tryd.func9, Tryd.ntmps9
  go_wp2_with fail
  refine (op_add _ _ _).mono ?_; rintro e w1 ⟨rfl, hb1⟩
  rw [show (4611686018427387903 : Int) + 1 = 4611686018427387904 from rfl, HW.out.2]
  unfold num
  go_wp2_with fail
  refine (wrap_any _ _).mono ?_; rintro e w' ⟨rfl, rfl⟩
  rw [HW.out.1]
  go_wp2_with fail
  refine (render_b _).mono ?_; rintro e w2 ⟨rfl, hb2⟩
  go_wp2
  go_ret
  exact ⟨rfl, (hb1.trans (((Below.refl _ _).alloc (Nat.le_refl _) _).mono hb1.size)).trans (hb2.mono (by have := hb1.size; simp; omega))⟩
theorem c63 (n : Int) : wrap63 n = (n + 4611686018427387904) % 9223372036854775808 - 4611686018427387904 := by unfold wrap63 wrap64; omega
theorem c63w (n : Int) : wrap63 (wrap64 n) = wrap63 n := by unfold wrap63 wrap64; omega
theorem c63_in (n : Int) : -4611686018427387904 ≤ wrap63 n ∧ wrap63 n ≤ 4611686018427387903 := by rw [c63]; omega
/-- a cell that is known stays known. -/
theorem keepC {W w' : World} {p : Addr} {v : Value} (hb : Below W.heap.size W w') (h : W.cell? p = some v) : w'.cell? p = some v := (hb.cell (World.block_lt_of_cell? W p h)).trans h
theorem keepA {W : World} {p : Addr} {v : Value} (o : Obj) (h : W.cell? p = some v) : (W.alloc o).cell? p = some v := keepC ((Below.refl _ _).alloc (Nat.le_refl _) o) h
def box (k n : Int) : Obj := .cells #[.int .i64 k, .int .i64 n, .string .empty, .slice none 0 0, .int .i64 0, .pointer none, .int .i64 0] 26
theorem box_cell (W : World) (k n : Int) : (W.alloc (box k n)).cell? ⟨W.heap.size, 1, none⟩ = some (.int .i64 n) := by
  have := (MapKept.heap_alloc W (box k n)).1
  unfold World.cell?
  rw [this]; rfl
theorem belowA (W : World) (o : Obj) : Below W.heap.size W (W.alloc o) := (Below.refl _ _).alloc (Nat.le_refl _) o
theorem below2 {w a b : World} (h : Below w.heap.size w a) (k : Below a.heap.size a b) : Below w.heap.size w b := h.trans (k.mono h.size)
set_option maxHeartbeats 4000000 in
set_option maxRecDepth 100000 in
theorem ring_walk (a b n : Int) (w : World) : Calls Tryd.prog 7 #[.int .i64 a, .int .i64 b, .int .i64 n] w fun e w' => e = .returned (.bool true) ∧ Below w.heap.size w w' := by
  by_cases h1 : n < 0
  · go_enter Tryd.func7, Tryd.ntmps7
    go_wp2_with fail
    refine (awake _).mono ?_; rintro e w1 ⟨rfl, hb1⟩
    go_wp2
    all_goals (go_ret; exact ⟨rfl, hb1⟩)
  have h1' : 0 ≤ n := by omega
  clear h1
  by_cases h2 : 50 < n
  · go_enter Tryd.func7, Tryd.ntmps7
    go_wp2_with fail
    refine (awake _).mono ?_; rintro e w1 ⟨rfl, hb1⟩
    go_wp2
    all_goals (go_ret; exact ⟨rfl, hb1⟩)
  obtain ⟨m, rfl⟩ : ∃ m : Nat, n = m := ⟨n.toNat, by omega⟩
  have hm : m ≤ 50 := by omega
  clear h1' h2
  obtain ⟨x, hx⟩ : ∃ x, x = wrap63 a := ⟨_, rfl⟩
  obtain ⟨y, hy⟩ : ∃ y, y = wrap63 b := ⟨_, rfl⟩
  have x1 := (c63_in a); rw [← hx] at x1
  have y1 := (c63_in b); rw [← hy] at y1
  obtain ⟨x1, x2⟩ := x1
  obtain ⟨y1, y2⟩ := y1
  have HX := Lib.hid hx; have HY := Lib.hid hy; clear hx hy
  go_enter Tryd.func7, Tryd.ntmps7
  go_wp2_with fail
  refine (awake _).mono ?_; rintro e w1 ⟨rfl, hb1⟩
  go_wp2_with fail
  refine (wrap_any _ _).mono ?_; rintro e w' ⟨rfl, rfl⟩
  rw [← HX.out]
  go_wp2_with fail
  refine (wrap_any _ _).mono ?_; rintro e w' ⟨rfl, rfl⟩
  rw [← HY.out]
  go_wp2_with fail
  refine (op_add _ _ _).mono ?_; rintro e w2 ⟨rfl, hb2⟩
  rw [c63w]
  unfold num
  have B2 := Lib.hid (below2 hb1 hb2)
  go_wp2_with fail
  refine (op_sub _ _ _).mono ?_; rintro e w3 ⟨rfl, hb3⟩
  have B3 := Lib.hid (below2 (below2 B2.out (belowA _ _)) hb3)
  have hd : wrap63 (wrap64 (wrap63 (x + y) - y)) = x := by rw [c63w, c63, c63]; omega
  rw [hd]
  clear hd hb1 hb2 hb3
  unfold num
  have cD := Lib.hid (box_cell w3 1 x)
  go_wp2_with fail
  refine (op_mul _ _ _).mono ?_; rintro e w4 ⟨rfl, hb4⟩
  have B4 := Lib.hid (below2 (below2 B3.out (belowA _ _)) hb4)
  have cD4 := Lib.hid (keepC hb4 cD.out)
  rw [c63w]
  obtain ⟨pm, hpm⟩ : ∃ pm, pm = wrap63 (x * m) := ⟨_, rfl⟩
  rw [← hpm]
  have HPM := Lib.hid hpm; clear hpm hb4
  unfold num
  have cP := Lib.hid (box_cell w4 1 pm)
  have B5 := Lib.hid (below2 B4.out (belowA w4 (box 1 pm)))
  have cD5 := Lib.hid (keepA (box 1 pm) cD4.out)
  go_wp2
  go_loopw [13, 14] (fun su i wr => ∃ (k : Nat) (z : Int), k ≤ m ∧ i = .int .i64 k ∧ su = .int .i64 z ∧ Hid (z = wrap63 (x * k)) ∧ Hid (Below w.heap.size w wr) ∧ Hid (wr.cell? ⟨w3.heap.size, 1, none⟩ = some (.int .i64 x)) ∧ Hid (wr.cell? ⟨w4.heap.size, 1, none⟩ = some (.int .i64 pm))) (fun _ i _ => m - (intOf i).toNat)
  case atStart => exact ⟨0, 0, by omega, rfl, rfl, Lib.hid (by rw [c63]; simp), B5, cD5, cP⟩
  case round =>
    obtain ⟨k, z, hk, rfl, rfl, hz, hb, hcd, hcp⟩ := hrel
    by_cases hlt : k < m
    · have HN : Hid (wrap63 (wrap64 (z + x)) = wrap63 (x * ((k + 1 : Nat) : Int))) := Lib.hid (by
        rw [c63w, hz.out, show x * ((k + 1 : Nat) : Int) = x * k + x from by rw [show ((k + 1 : Nat) : Int) = (k : Int) + 1 from by omega, Int.mul_add, Int.mul_one], c63, c63, c63]; omega)
      go_wp2_with fail
      refine (op_add _ _ _).mono ?_; rintro e w5 ⟨rfl, hb5⟩
      rw [HN.out]
      obtain ⟨z2, hz2⟩ : ∃ z2, z2 = wrap63 (x * ((k + 1 : Nat) : Int)) := ⟨_, rfl⟩
      rw [← hz2]
      have HZ2 := Lib.hid hz2; clear hz2
      unfold num
      have B6 := Lib.hid (below2 (below2 hb.out hb5) (belowA w5 (box 1 z2)))
      have cD6 := Lib.hid (keepA (box 1 z2) (keepC hb5 hcd.out))
      have cP6 := Lib.hid (keepA (box 1 z2) (keepC hb5 hcp.out))
      clear hb5
      go_wp2
      go_roundw
      case rel => exact ⟨k + 1, z2, by omega, by go_num, rfl, HZ2, B6, cD6, cP6⟩
      case measure => simp [intOf]; omega
    · obtain rfl : k = m := by omega
      clear hlt
      obtain ⟨vl, hvl⟩ : ∃ v : Int, v = if x < y then 1 else 0 := ⟨_, rfl⟩
      obtain ⟨vg, hvg⟩ : ∃ v : Int, v = if y < x then 1 else 0 := ⟨_, rfl⟩
      obtain ⟨ve, hve⟩ : ∃ v : Int, v = if x = y then 1 else 0 := ⟨_, rfl⟩
      have hs : vl + vg + ve = 1 := by rw [hvl, hvg, hve]; split <;> split <;> split <;> omega
      have l1 : 0 ≤ vl := by rw [hvl]; split <;> omega
      have l2 : vl ≤ 1 := by rw [hvl]; split <;> omega
      have g1 : 0 ≤ vg := by rw [hvg]; split <;> omega
      have g2 : vg ≤ 1 := by rw [hvg]; split <;> omega
      have e1 : 0 ≤ ve := by rw [hve]; split <;> omega
      have e2 : ve ≤ 1 := by rw [hve]; split <;> omega
      have hsb : (vl + vg + ve == 1) = true := by rw [hs]; rfl
      have HVL := Lib.hid hvl; have HVG := Lib.hid hvg; have HVE := Lib.hid hve; have HSB := Lib.hid hsb
      clear hvl hvg hve hs hsb
      have HPZ : Hid (pm = z) := Lib.hid (by rw [HPM.out, hz.out])
      go_wp2_with fail
      refine (op_lt _ _ _).mono ?_; rintro e w5 ⟨rfl, hb5⟩
      rw [← HVL.out]
      unfold num
      have B6 := Lib.hid (below2 (below2 hb.out hb5) (belowA w5 (box 2 vl)))
      have cD6 := Lib.hid (keepA (box 2 vl) (keepC hb5 hcd.out))
      have cP6 := Lib.hid (keepA (box 2 vl) (keepC hb5 hcp.out))
      have cL6 := Lib.hid (box_cell w5 2 vl)
      clear hb5
      go_wp2_with fail
      refine (op_lt _ _ _).mono ?_; rintro e w6 ⟨rfl, hb5⟩
      rw [← HVG.out]
      unfold num
      have B7 := Lib.hid (below2 (below2 B6.out hb5) (belowA w6 (box 2 vg)))
      have cD7 := Lib.hid (keepA (box 2 vg) (keepC hb5 cD6.out))
      have cP7 := Lib.hid (keepA (box 2 vg) (keepC hb5 cP6.out))
      have cL7 := Lib.hid (keepA (box 2 vg) (keepC hb5 cL6.out))
      have cG7 := Lib.hid (box_cell w6 2 vg)
      clear hb5
      go_wp2_with fail
      refine (op_eq _ _ _).mono ?_; rintro e w7 ⟨rfl, hb5⟩
      rw [← HVE.out]
      unfold num
      have B8 := Lib.hid (below2 (below2 B7.out hb5) (belowA w7 (box 2 ve)))
      have cD8 := keepA (box 2 ve) (keepC hb5 cD7.out)
      have cP8 := keepA (box 2 ve) (keepC hb5 cP7.out)
      have cL8 := keepA (box 2 ve) (keepC hb5 cL7.out)
      have cG8 := keepA (box 2 ve) (keepC hb5 cG7.out)
      have cE8 := box_cell w7 2 ve
      clear hb5
      rw [HPZ.out] at cP8
      unfold box at cD8 cP8 cL8 cG8 cE8
      have hsb := HSB.out
      go_wp2
      go_ret
      exact ⟨rfl, B8.out⟩
end Go.Proofs.YtclilpabdcdeoaaDoor
