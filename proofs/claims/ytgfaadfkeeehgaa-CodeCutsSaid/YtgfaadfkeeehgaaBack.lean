import Derived.Test.YtgfaadfkeeehgaaConc
import Derived.Laws.StructEq
namespace Go.Proofs.Ytgfaadfkeeehgaa
open Go.ChangeShapes Go.WideShapes Go.ChangeAt Go.RowKit
set_option linter.unusedVariables false
theorem neqS (x y z : Int) (W : World) : (binOp .neq 24 (.agg #[.int .i64 x, .int .i64 y, .int .i64 z]) (.agg #[.int .i64 x, .int .i64 y, .int .i64 z])).run Try.prog W = .ok (.bool false) W := by
  go_simp
/-- a slice of instructions that reads xs. -/
def RdI (w : World) (h off : Nat) (xs : List (Int × Int × Int)) : Prop := ∀ j u, (ins xs)[j]? = some u → w.cell? ⟨h, off + j, none⟩ = some u
theorem RdI.at_ {w : World} {h off : Nat} {xs : List (Int × Int × Int)} (r : RdI w h off xs) (i : Nat) (x : Int × Int × Int) (m : List (Int × Int × Int)) (e : xs.drop i = x :: m) :
    w.cell? ⟨h, off + i * 3, none⟩ = some (.int .i64 x.1) ∧ w.cell? ⟨h, off + i * 3 + 1, none⟩ = some (.int .i64 x.2.1) ∧ w.cell? ⟨h, off + i * 3 + 2, none⟩ = some (.int .i64 x.2.2) := by
  obtain ⟨a, b, c⟩ := ins_at xs i x m e
  exact ⟨r _ _ a, r _ _ b, r _ _ c⟩
theorem take_succ (xs : List (Int × Int × Int)) (i : Nat) (x : Int × Int × Int) (m : List (Int × Int × Int)) (e : xs.drop i = x :: m) : xs.take (i + 1) = xs.take i ++ [x] ∧ i < xs.length ∧ xs.drop (i + 1) = m := by
  have hi : i < xs.length := by
    rcases Nat.lt_or_ge i xs.length with h | h
    · exact h
    · rw [List.drop_eq_nil_of_le h] at e; cases e
  have e2 := List.drop_eq_getElem_cons hi
  rw [e] at e2
  injection e2 with q1 q2
  refine ⟨?_, hi, q2.symm⟩
  rw [List.take_succ_eq_append_getElem hi, q1]
theorem code_one (x : Int × Int × Int) : code [x] = putS x.1 x.2.1 x.2.2 := by simp [code]
set_option maxRecDepth 100000 in
set_option maxHeartbeats 4000000 in
theorem back_long (A : Option Addr) (n c : Nat) (w : World) (hn : 50 < n) : Calls Try.prog 5 #[.slice A n c] w fun e w' => e = .returned (.bool true) ∧ Below w.heap.size w w' := by
  have hn' : (50 : Int) < n := by omega
  go_enter Try.func5, Try.ntmps5
  go_wp2_with fail
  refine (awake _).mono ?_; rintro e w1 ⟨rfl, hb1⟩
  go_wp2
  go_ret
  exact ⟨rfl, hb1⟩
set_option maxRecDepth 100000 in
set_option maxHeartbeats 4000000 in
theorem back_nil (A : Option Addr) (c : Nat) (w : World) : Calls Try.prog 5 #[.slice A 0 c] w fun e w' => e = .returned (.bool true) ∧ Below w.heap.size w w' := by
  go_enter Try.func5, Try.ntmps5
  go_wp2_with fail
  refine (awake _).mono ?_; rintro e w1 ⟨rfl, hb1⟩
  go_wp2
  refine wp_loop_rounds 1 ?_
  rw [rounds_succ]
  go_wp2_with fail
  refine (all_e none 0 _).mono ?_; rintro e w2 ⟨rfl, rfl⟩
  go_wp2
  refine wp_loop_rounds 1 ?_
  rw [rounds_succ]
  go_wp2
  go_ret
  exact ⟨rfl, hb1⟩
set_option maxRecDepth 100000 in
set_option maxHeartbeats 8000000 in
theorem back_in {w : World} {h off cap : Nat} {xs : List (Int × Int × Int)} (hr : RdI w h off xs) (hlt : h < w.heap.size) (hx0 : 0 < xs.length) (hl : xs.length ≤ 50)
    (hrng : ∀ x ∈ xs, -9223372036854775808 ≤ x.2.1 ∧ x.2.1 < 9223372036854775808 ∧ -9223372036854775808 ≤ x.2.2 ∧ x.2.2 < 9223372036854775808) :
    Calls Try.prog 5 #[.slice (some ⟨h, off, none⟩) xs.length cap] w fun e w' => e = .returned (.bool true) ∧ Below w.heap.size w w' := by
  have HR : Hid (∀ W, Below w.heap.size w W → RdI W h off xs) := Lib.hid (fun W hW j u hu => by rw [hW.cell (p := ⟨h, off + j, none⟩) hlt]; exact hr j u hu)
  have RNG := Lib.hid hrng
  clear hr hrng
  have hlz : (xs.length : Int) ≤ 50 := by omega
  go_enter Try.func5, Try.ntmps5
  go_wp2_with fail
  refine (awake _).mono ?_; rintro e w1 ⟨rfl, hb1⟩
  have B1 := Lib.hid hb1; clear hb1
  go_wp2
  go_loopw [3, 4, 5] (fun b n i wr => ∃ (k z nn base : Nat), k ≤ xs.length ∧ i = .int .i64 k ∧ n = .int .i64 z ∧ Hid (z = (code (xs.take k)).length) ∧ Hid (Below w.heap.size w wr) ∧ Hid (base ≤ wr.heap.size) ∧ Hid (wr.ownsRow base 5 1 b nn (bys (code (xs.take k)))) ∧ Hid (∀ x ∈ xs.take k, Fine x)) (fun _ _ i _ => xs.length - (intOf i).toNat)
  case atStart => exact ⟨0, 0, 0, 0, by omega, rfl, rfl, Lib.hid rfl, B1, Lib.hid (by omega), Lib.hid (World.ownsRow_nil _ _ _ _), Lib.hid (by simp)⟩
  case round =>
    obtain ⟨k, z, nn, base, hk, rfl, rfl, hz, hbw, hbase, own, hfine⟩ := hrel
    by_cases hkl : k < xs.length
    · obtain ⟨y, m, hym⟩ : ∃ y m, xs.drop k = y :: m := ⟨xs[k], xs.drop (k + 1), List.drop_eq_getElem_cons hkl⟩
      obtain ⟨t1, t2, t3⟩ := take_succ xs k y m hym
      have ry := RNG.out y (by have : y ∈ xs.drop k := by rw [hym]; exact List.mem_cons_self ..
                               exact List.mem_of_mem_drop this)
      have C : Hid (∀ W, Below w.heap.size w W → W.cell? ⟨h, off + k * 3, none⟩ = some (.int .i64 y.1) ∧ W.cell? ⟨h, off + k * 3 + 1, none⟩ = some (.int .i64 y.2.1) ∧ W.cell? ⟨h, off + k * 3 + 2, none⟩ = some (.int .i64 y.2.2)) := Lib.hid (fun W hW => (HR.out W hW).at_ k y m hym)
      obtain ⟨y1, y2, y3⟩ := y
      simp only at C ry
      have cl := code_byte (xs.take k) hfine.out
      have zl : z ≤ 1050 := by rw [hz.out]; have := cl.2; rw [List.length_take] at this; omega
      have R1 := Lib.hid ry.1; have R2 := Lib.hid ry.2.1; have R3 := Lib.hid ry.2.2.1; have R4 := Lib.hid ry.2.2.2
      have T1 := Lib.hid t1
      have HYM := Lib.hid hym
      have CL := Lib.hid cl
      clear t1 t2 t3 ry hym cl
      obtain ⟨c0, c1, c2⟩ := C.out wr hbw.out
      by_cases hg : 0 ≤ y1 ∧ y1 ≤ 63
      · have GV : Hid ((decide (0 ≤ y1) && decide (y1 ≤ 63)) = true) := Lib.hid (by simp [hg.1, hg.2])
        have FY : Hid (Fine (y1, y2, y3)) := Lib.hid ⟨hg.1, hg.2, R1.out, R2.out, R3.out, R4.out⟩
        have pl : (putS y1 y2 y3).length ≤ 21 := by unfold putS; rw [if_pos hg]; exact addS_len _ _ _
        clear hg
        go_wp2_with fail
        refine (good_any _ _ _ _).mono ?_; rintro e w3 ⟨rfl, hb3⟩
        rw [GV.out]
        have B3 := Lib.hid (bt hbw.out hb3)
        have SRC := Lib.hid (Src.of_own (own_below own.out hb3))
        obtain ⟨c0, c1, c2⟩ := C.out w3 B3.out
        clear hb3
        go_wp2_with fail
        refine (put_src y1 y2 y3 SRC.out (by have := CL.out.2; rw [List.length_take] at this; omega) R1 R2 R3 R4).mono ?_; rintro e w4 ⟨v4, n4, rfl, own4, hb4⟩
        have B4 := Lib.hid (bt B3.out hb4)
        have hs4 := hb4.size
        have OWN4 := Lib.hid own4
        obtain ⟨c0, c1, c2⟩ := C.out w4 B4.out
        clear hb4 own4
        go_wp2_with fail
        refine (size_any y1 y2 y3 R1 R2 R3 R4).mono ?_; rintro e w5 ⟨rfl, hb5⟩
        have B5 := Lib.hid (bt B4.out hb5)
        have HS5 : Hid (w3.heap.size ≤ w5.heap.size) := Lib.hid (Nat.le_trans hs4 hb5.size)
        obtain ⟨q, hq⟩ : ∃ q, q = (putS y1 y2 y3).length := ⟨_, rfl⟩
        rw [← hq] at pl ⊢
        have CODE : Hid (code (xs.take (k + 1)) = code (xs.take k) ++ putS y1 y2 y3) := Lib.hid (by rw [T1.out, code_app, code_one])
        have OWN5 : Hid (w5.ownsRow w3.heap.size 5 1 v4 n4 (bys (code (xs.take (k + 1))))) := Lib.hid (by rw [CODE.out]; exact own_below OWN4.out hb5)
        have HZ : Hid (z + q = (code (xs.take (k + 1))).length) := Lib.hid (by have := hz.out; rw [CODE.out, List.length_append]; omega)
        have FN : Hid (∀ x ∈ xs.take (k + 1), Fine x) := Lib.hid (fun x hx => by
          rw [T1.out, List.mem_append, List.mem_singleton] at hx
          rcases hx with hx | rfl
          · exact hfine.out x hx
          · exact FY.out)
        have WK := Lib.hid (wk_add z q (by omega))
        have hk1 : k + 1 ≤ xs.length := by omega
        have MEAS : Hid (xs.length - (k + 1) < xs.length - k) := Lib.hid (by omega)
        have KN : Hid (((k : Int) + 1).toNat = k + 1) := Lib.hid (by omega)
        clear hq hb5 c0 c1 c2
        obtain ⟨wk, wk2⟩ := WK.out
        go_wp2
        clear wk wk2
        go_roundw
        case rel => exact ⟨k + 1, z + q, n4, w3.heap.size, hk1, by go_num, by rw [Int.natCast_add], HZ, B5, HS5, OWN5, FN⟩
        case measure =>
          simp only [intOf]
          rw [KN.out, Int.toNat_natCast]
          exact MEAS.out
      · have GV : Hid ((decide (0 ≤ y1) && decide (y1 ≤ 63)) = false) := Lib.hid (by
          rcases Classical.em (0 ≤ y1) with h | h
          · have : ¬ y1 ≤ 63 := fun h2 => hg ⟨h, h2⟩
            simp [this]
          · simp [h])
        clear hg
        go_wp2_with fail
        refine (good_any _ _ _ _).mono ?_; rintro e w3 ⟨rfl, hb3⟩
        rw [GV.out]
        have B3 := Lib.hid (bt hbw.out hb3)
        go_wp2
        go_ret
        exact ⟨rfl, B3.out⟩
    · obtain rfl : k = xs.length := by omega
      have HZ : Hid (z = (code xs).length) := Lib.hid (by have := hz.out; rwa [List.take_length] at this)
      have OWN : Hid (wr.ownsRow base 5 1 u3 nn (bys (code xs))) := Lib.hid (by have := own.out; rwa [List.take_length] at this)
      have FN : Hid (∀ x ∈ xs, Fine x) := Lib.hid (by have := hfine.out; rwa [List.take_length] at this)
      clear hz own hfine hkl
      have hall := allS_code xs FN.out
      have hbyte := code_byte xs FN.out
      have hne : code xs ≠ [] := fun e => by
        rw [e] at hall
        injection hall with e2
        rw [← e2] at hx0; simp at hx0
      rcases own_open OWN.out with ⟨_, h0⟩ | ⟨g, cp, rfl, _, hg, hcp, hcell⟩
      · exact absurd h0 hne
      have AL := Lib.hid (all_any hcell hg hbyte.1 (by have := hbyte.2; omega) hcp)
      have HALL := Lib.hid hall
      have bz : ((z : Int) != (((code xs).length : Nat) : Int)) = false := by rw [HZ.out]; simp
      clear hall hbyte hne hcell hg hcp
      go_wp2_with fail
      refine AL.out.mono ?_; rintro e w6 hpost
      unfold AllPost at hpost
      rw [HALL.out] at hpost
      obtain ⟨v, x, rfl, hb6, rfl, own6⟩ := hpost
      have hv : ∃ g cp, v = .slice (some ⟨g, 0, none⟩) xs.length cp := by
        rcases own6.2 with ⟨_, h⟩ | ⟨g, cp, cur, e, _⟩
        · omega
        · exact ⟨g, cp, e⟩
      obtain ⟨gl, cpl, rfl⟩ := hv
      have OWN6 := Lib.hid own6
      have B6 := Lib.hid (bt hbw.out hb6)
      clear hb6 own6
      go_wp2
      go_loopw [8] (fun i wq => ∃ (k nd : Nat), k ≤ xs.length ∧ i = .int .i64 k ∧ wq = w6.drewN nd) (fun i _ => xs.length - (intOf i).toNat)
      case atStart => exact ⟨0, 0, by omega, rfl, rfl⟩
      case round =>
        obtain ⟨k, nd, hk, rfl, rfl⟩ := hrel
        by_cases hkl : k < xs.length
        · obtain ⟨y, m, hym⟩ : ∃ y m, xs.drop k = y :: m := ⟨xs[k], xs.drop (k + 1), List.drop_eq_getElem_cons hkl⟩
          obtain ⟨c0, c1, c2⟩ := (HR.out w6 B6.out).at_ k y m hym
          obtain ⟨i0, i1, i2⟩ := ins_at xs k y m hym
          have d0 := (OWN6.out.cellAt (k * 3) (by omega)).trans i0
          have d1 := (OWN6.out.cellAt (k * 3 + 1) (by omega)).trans i1
          have d2 := (OWN6.out.cellAt (k * 3 + 2) (by omega)).trans i2
          obtain ⟨y1, y2, y3⟩ := y
          simp only at c0 c1 c2 d0 d1 d2
          have ns := neqS y1 y2 y3
          clear hym i0 i1 i2
          go_wp2
          go_quiet (fail)
          go_wp2
          go_roundw
          case rel => exact ⟨k + 1, _, by omega, by go_num, rfl⟩
          case measure => simp [intOf]; omega
        · have hge : xs.length ≤ k := by omega
          clear hkl
          go_wp2
          go_ret
          exact ⟨rfl, bt B6.out (below_drewN _ _)⟩
theorem back_walk (A : Option Addr) (n c : Nat) (xs : List (Int × Int × Int)) (w : World) (hn : xs.length = n) (hA : n = 0 ∨ ∃ h off, A = some ⟨h, off, none⟩ ∧ h < w.heap.size ∧ RdI w h off xs)
    (hrng : ∀ x ∈ xs, -9223372036854775808 ≤ x.2.1 ∧ x.2.1 < 9223372036854775808 ∧ -9223372036854775808 ≤ x.2.2 ∧ x.2.2 < 9223372036854775808) :
    Calls Try.prog 5 #[.slice A n c] w fun e w' => e = .returned (.bool true) ∧ Below w.heap.size w w' := by
  by_cases hl : 50 < n
  · exact back_long A n c w hl
  rcases hA with rfl | ⟨h, off, rfl, hlt, hr⟩
  · exact back_nil A c w
  subst hn
  rcases Nat.eq_zero_or_pos xs.length with h0 | hpos
  · rw [h0]; exact back_nil _ c w
  · exact back_in hr hlt hpos (by omega) hrng
end Go.Proofs.Ytgfaadfkeeehgaa
