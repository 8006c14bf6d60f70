import Derived.Test.YtifopogkbjhkjaaDoorUd
namespace Go.Proofs.YtifopogkbjhkjaaDoor
open Go.ChangeShapes Go.WideShapes Go.ChangeAt Go.RowKit Go.WideMaps
set_option linter.unusedVariables false
set_option linter.unusedSimpArgs false
set_option maxRecDepth 100000 in
set_option maxHeartbeats 16000000 in
theorem takes_walk {V : TT} {all : List Int} {Al A : Option Addr} {ca c : Nat} {n : Int} {w : World} (hAw : ∀ W, Calls Tryd.prog 7 #[] W fun e W' => e = .returned (.bool true) ∧ Below W.heap.size W W') (ha : IRow w Al all) (hA : TRow w any0 A V.args) : Calls Tryd.prog 6 #[scv Al all.length ca V A c, .int .i64 n] w fun e w' => e = .returned (.bool true) ∧ Below w.heap.size w w' := by
  have HAW := Lib.hid hAw
  have CS := Lib.hid (fun W (hW : Below w.heap.size w W) => small_any 7 V _ 64 W most64 (tv_in (c := c) hA hW))
  obtain ⟨N, hN⟩ : ∃ N, N = all.length := ⟨_, rfl⟩
  have CG0 := Lib.hid (fun W (hW : Below w.heap.size w W) (hbg : bigT 7 V = false) (hl : all.length ≤ 10) => sgood_any (ca := ca) (c := c) (Nat.le_refl 7) hbg hl (ha.later hW) (hA.later hW))
  have OA0 := Lib.hid (fun W (sb : Nat) (n m : Int) (hbg : bigT 7 V = false) (hsg : sgoodT V all = true) (hl : all.length ≤ 10) (h0 : 0 ≤ n) (hn : n ≤ 1900) (hm : m = n + all.length) (hs : SubE W sb n) (hle : w.heap.size ≤ sb) (hW : Below w.heap.size w W) => open_any (ca := ca) (c := c) (Nat.le_refl 7) hbg hsg hl h0 hn hm hs (fun w' hw' => ha.later (hW.trans (hw'.mono hle))) (fun w' hw' => hA.later (hW.trans (hw'.mono hle))))
  have HN := Lib.hid hN
  rw [← hN] at CG0 OA0 ⊢
  clear hN
  unfold tv at CS
  unfold scv at CG0 OA0 ⊢
  have hx := heap_alloc_new w (.cells #[.slice Al N ca, .int .i64 V.k, .string V.nm, .int .i64 V.vr, .slice A V.args.length c] SchT)
  have hsz : (w.alloc (.cells #[.slice Al N ca, .int .i64 V.k, .string V.nm, .int .i64 V.vr, .slice A V.args.length c] SchT)).heap.size = w.heap.size + 1 := by simp
  have HB := Lib.hid (below_alloc w (.cells #[.slice Al N ca, .int .i64 V.k, .string V.nm, .int .i64 V.vr, .slice A V.args.length c] SchT))
  have HX := Lib.hid hx; have HZ := Lib.hid hsz
  cases hbg : bigT 7 V with
  | true =>
    rw [hbg] at CS
    clear CG0 OA0 hbg
    clear hAw hx hsz hA ha
    go_enter Tryd.func6, Tryd.ntmps6
    go_wp2_with fail
    refine (HAW.out _).mono ?_; rintro e w1 ⟨rfl, b1⟩
    have B1 := Lib.hid (bt HB.out b1)
    have z1 := (b1.block w.heap.size (by rw [HZ.out]; omega)).trans HX.out
    obtain ⟨⟨x0, x1, x2, x3, x4⟩, -⟩ := five_cells z1
    have Q1 := Lib.hid (show w.heap.size + 1 ≤ w1.heap.size by have := b1.size; rw [HZ.out] at this; exact this)
    have Z1 := Lib.hid z1
    clear b1 z1
    go_wp2_with fail
    refine (CS.out _ B1.out).mono ?_; rintro e w2 ⟨rfl, b2⟩
    have B2 := Lib.hid (bt B1.out b2)
    have z2 := (b2.block w.heap.size (by have := Q1.out; omega)).trans Z1.out
    obtain ⟨⟨y0, y1, y2, y3, y4⟩, -⟩ := five_cells z2
    have Q2 := Lib.hid (Nat.le_trans Q1.out b2.size)
    have Z2 := Lib.hid z2
    clear b2 z2 x0 x1 x2 x3 x4
    go_wp2
    go_ret
    exact ⟨rfl, B2.out⟩
  | false =>
    rw [hbg] at CS
    by_cases hN10 : N ≤ 10
    · have dN : decide ((10 : Int) < (N : Int)) = false := decide_eq_false (by omega)
      have CG := Lib.hid (fun W (hW : Below w.heap.size w W) => CG0.out W hW hbg hN10)
      cases hsg : sgoodT V all with
      | false =>
        rw [hsg] at CG
        clear CG0 OA0 hbg hsg
        clear hAw hx hsz hA ha
        go_enter Tryd.func6, Tryd.ntmps6
        go_wp2_with fail
        refine (HAW.out _).mono ?_; rintro e w1 ⟨rfl, b1⟩
        have B1 := Lib.hid (bt HB.out b1)
        have z1 := (b1.block w.heap.size (by rw [HZ.out]; omega)).trans HX.out
        obtain ⟨⟨x0, x1, x2, x3, x4⟩, -⟩ := five_cells z1
        have Q1 := Lib.hid (show w.heap.size + 1 ≤ w1.heap.size by have := b1.size; rw [HZ.out] at this; exact this)
        have Z1 := Lib.hid z1
        clear b1 z1
        go_wp2_with fail
        refine (CS.out _ B1.out).mono ?_; rintro e w2 ⟨rfl, b2⟩
        have B2 := Lib.hid (bt B1.out b2)
        have z2 := (b2.block w.heap.size (by have := Q1.out; omega)).trans Z1.out
        obtain ⟨⟨y0, y1, y2, y3, y4⟩, -⟩ := five_cells z2
        have Q2 := Lib.hid (Nat.le_trans Q1.out b2.size)
        have Z2 := Lib.hid z2
        clear b2 z2 x0 x1 x2 x3 x4
        go_wp2_with fail
        refine (CG.out _ B2.out).mono ?_; rintro e w3 ⟨rfl, b3⟩
        have B3 := Lib.hid (bt B2.out b3)
        have Z3 := Lib.hid ((b3.block w.heap.size (by have := Q2.out; omega)).trans Z2.out)
        have Q3 := Lib.hid (Nat.le_trans Q2.out b3.size)
        clear b3 y0 y1 y2 y3 y4
        go_wp2
        go_ret
        exact ⟨rfl, B3.out⟩
      | true =>
        rw [hsg] at CG
        have OA := Lib.hid (fun W (sb : Nat) (n m : Int) (h0 : 0 ≤ n) (hn : n ≤ 1900) (hm : m = n + (N : Int)) (hs : SubE W sb n) (hle : w.heap.size ≤ sb) (hW : Below w.heap.size w W) => OA0.out W sb n m hbg hsg hN10 h0 hn hm hs hle hW)
        clear CG0 OA0 hbg hsg
        by_cases h0 : n < 0
        · have n0 : decide (n < 0) = true := decide_eq_true h0
          clear OA
          clear hAw hx hsz hA ha
          go_enter Tryd.func6, Tryd.ntmps6
          go_wp2_with fail
          refine (HAW.out _).mono ?_; rintro e w1 ⟨rfl, b1⟩
          have B1 := Lib.hid (bt HB.out b1)
          have z1 := (b1.block w.heap.size (by rw [HZ.out]; omega)).trans HX.out
          obtain ⟨⟨x0, x1, x2, x3, x4⟩, -⟩ := five_cells z1
          have Q1 := Lib.hid (show w.heap.size + 1 ≤ w1.heap.size by have := b1.size; rw [HZ.out] at this; exact this)
          have Z1 := Lib.hid z1
          clear b1 z1
          go_wp2_with fail
          refine (CS.out _ B1.out).mono ?_; rintro e w2 ⟨rfl, b2⟩
          have B2 := Lib.hid (bt B1.out b2)
          have z2 := (b2.block w.heap.size (by have := Q1.out; omega)).trans Z1.out
          obtain ⟨⟨y0, y1, y2, y3, y4⟩, -⟩ := five_cells z2
          have Q2 := Lib.hid (Nat.le_trans Q1.out b2.size)
          have Z2 := Lib.hid z2
          clear b2 z2 x0 x1 x2 x3 x4
          go_wp2_with fail
          refine (CG.out _ B2.out).mono ?_; rintro e w3 ⟨rfl, b3⟩
          have B3 := Lib.hid (bt B2.out b3)
          have Z3 := Lib.hid ((b3.block w.heap.size (by have := Q2.out; omega)).trans Z2.out)
          have Q3 := Lib.hid (Nat.le_trans Q2.out b3.size)
          clear b3 y0 y1 y2 y3 y4
          go_wp2
          go_ret
          exact ⟨rfl, B3.out⟩
        by_cases h20 : 20 < n
        · have n0 : decide (n < 0) = false := decide_eq_false h0
          have n1 : decide (20 < n) = true := decide_eq_true h20
          clear OA
          clear hAw hx hsz hA ha
          go_enter Tryd.func6, Tryd.ntmps6
          go_wp2_with fail
          refine (HAW.out _).mono ?_; rintro e w1 ⟨rfl, b1⟩
          have B1 := Lib.hid (bt HB.out b1)
          have z1 := (b1.block w.heap.size (by rw [HZ.out]; omega)).trans HX.out
          obtain ⟨⟨x0, x1, x2, x3, x4⟩, -⟩ := five_cells z1
          have Q1 := Lib.hid (show w.heap.size + 1 ≤ w1.heap.size by have := b1.size; rw [HZ.out] at this; exact this)
          have Z1 := Lib.hid z1
          clear b1 z1
          go_wp2_with fail
          refine (CS.out _ B1.out).mono ?_; rintro e w2 ⟨rfl, b2⟩
          have B2 := Lib.hid (bt B1.out b2)
          have z2 := (b2.block w.heap.size (by have := Q1.out; omega)).trans Z1.out
          obtain ⟨⟨y0, y1, y2, y3, y4⟩, -⟩ := five_cells z2
          have Q2 := Lib.hid (Nat.le_trans Q1.out b2.size)
          have Z2 := Lib.hid z2
          clear b2 z2 x0 x1 x2 x3 x4
          go_wp2_with fail
          refine (CG.out _ B2.out).mono ?_; rintro e w3 ⟨rfl, b3⟩
          have B3 := Lib.hid (bt B2.out b3)
          have Z3 := Lib.hid ((b3.block w.heap.size (by have := Q2.out; omega)).trans Z2.out)
          have Q3 := Lib.hid (Nat.le_trans Q2.out b3.size)
          clear b3 y0 y1 y2 y3 y4
          go_wp2
          go_ret
          exact ⟨rfl, B3.out⟩
        obtain ⟨t, rfl⟩ := Int.eq_ofNat_of_zero_le (show 0 ≤ n by omega)
        have ht : t ≤ 20 := by omega
        have n0 : decide ((t : Int) < 0) = false := decide_eq_false (by omega)
        have n1 : decide ((20 : Int) < (t : Int)) = false := decide_eq_false (by omega)
        clear hAw hx hsz hA ha
        go_enter Tryd.func6, Tryd.ntmps6
        go_wp2_with fail
        refine (HAW.out _).mono ?_; rintro e w1 ⟨rfl, b1⟩
        have B1 := Lib.hid (bt HB.out b1)
        have z1 := (b1.block w.heap.size (by rw [HZ.out]; omega)).trans HX.out
        obtain ⟨⟨x0, x1, x2, x3, x4⟩, -⟩ := five_cells z1
        have Q1 := Lib.hid (show w.heap.size + 1 ≤ w1.heap.size by have := b1.size; rw [HZ.out] at this; exact this)
        have Z1 := Lib.hid z1
        clear b1 z1
        go_wp2_with fail
        refine (CS.out _ B1.out).mono ?_; rintro e w2 ⟨rfl, b2⟩
        have B2 := Lib.hid (bt B1.out b2)
        have z2 := (b2.block w.heap.size (by have := Q1.out; omega)).trans Z1.out
        obtain ⟨⟨y0, y1, y2, y3, y4⟩, -⟩ := five_cells z2
        have Q2 := Lib.hid (Nat.le_trans Q1.out b2.size)
        have Z2 := Lib.hid z2
        clear b2 z2 x0 x1 x2 x3 x4
        go_wp2_with fail
        refine (CG.out _ B2.out).mono ?_; rintro e w3 ⟨rfl, b3⟩
        have B3 := Lib.hid (bt B2.out b3)
        have Z3 := Lib.hid ((b3.block w.heap.size (by have := Q2.out; omega)).trans Z2.out)
        have Q3 := Lib.hid (Nat.le_trans Q2.out b3.size)
        clear b3 y0 y1 y2 y3 y4
        go_wp2_with fail
        refine (new_any _).mono ?_; rintro e w4 ⟨rfl, s4, b4⟩
        have B4 := Lib.hid (bt B3.out b4)
        have Z4 := Lib.hid ((b4.block w.heap.size (by have := Q3.out; omega)).trans Z3.out)
        obtain ⟨sb, hsb⟩ : ∃ sb, sb = w3.heap.size := ⟨_, rfl⟩
        rw [← hsb] at s4 Q3 ⊢
        have S4 := Lib.hid s4
        have QS := Lib.hid (show w.heap.size < sb by have := Q3.out; omega)
        have Q4 := Lib.hid (show sb < w4.heap.size from s4.lt)
        clear b4 s4 hsb CS CG Z1 Z2 Z3 HX HZ B1 B2 B3
        go_wp2
        go_loopw [6] (fun i wr => ∃ k : Nat, k ≤ t ∧ i = .int .i64 k ∧ Hid (SubE wr sb ((k * N : Nat) : Int)) ∧ Hid (Below sb w4 wr)) (fun i _ => t - (intOf i).toNat)
        case atStart => exact ⟨0, by omega, by first | rfl | trivial, Lib.hid (by rw [Nat.zero_mul]; exact S4.out), Lib.hid (Below.refl _ _)⟩
        case round =>
          obtain ⟨k, hk, rfl, SW, BW⟩ := hrel
          have zr := (BW.out.block w.heap.size QS.out).trans Z4.out
          obtain ⟨⟨z0, z1, z2, z3, z4⟩, -⟩ := five_cells zr
          have ZR := Lib.hid zr
          have BR := Lib.hid (show Below w.heap.size w wr from B4.out.trans (BW.out.mono (Nat.le_of_lt QS.out)))
          have hkN : k * N ≤ 20 * 10 := Nat.mul_le_mul (by omega) hN10
          clear zr
          by_cases hlt : k < t
          · have hlti : (k : Int) < (t : Int) := by omega
            have CO := Lib.hid (OA.out wr sb ((k * N : Nat) : Int) (((k + 1) * N : Nat) : Int) (by omega) (by omega) (by rw [Nat.add_mul, Nat.one_mul]; omega) SW.out (Nat.le_of_lt QS.out) BR.out)
            clear OA hkN
            go_wp2_with fail
            refine CO.out.mono ?_; rintro e w7 ⟨⟨u, rfl⟩, s7, b7⟩
            have S7 := Lib.hid s7
            have B7 := Lib.hid (BW.out.trans b7)
            clear s7 b7 z0 z1 z2 z3 z4
            go_wp2
            go_roundw
            case rel => exact ⟨k + 1, by omega, by go_num, S7, B7⟩
            case measure => simp [intOf]; omega
          · obtain rfl : k = t := by omega
            have hge : ¬ (k : Int) < (k : Int) := by omega
            have hw : IntKind.i64.wrap ((k : Int) * (N : Int)) = ((k * N : Nat) : Int) := by rw [show (k : Int) * (N : Int) = ((k * N : Nat) : Int) from (Int.natCast_mul k N).symm]; exact IntWalk.i64_in _ (by omega)
            obtain ⟨q, hq⟩ : ∃ q : Int, q = ((k * N : Nat) : Int) := ⟨_, rfl⟩
            rw [← hq] at hw SW
            have CF := Lib.hid (fun W (hW : W = wr.drew) => hW ▸ fresh_frm (w := wr.drew) (n := q) (m := q + 1) (by omega) (by omega) rfl (show SubE wr.drew sb q from SW.out))
            have QR := Lib.hid (show w.heap.size < wr.heap.size from (Array.getElem?_eq_some_iff.1 ZR.out).1)
            clear hq OA hkN z0 z1 z2 z3 z4
            go_wp2_with fail
            refine wp_region_held_drew (S := fun w' => w'.heap[w.heap.size]? = some (.cells #[.slice Al N ca, .int .i64 V.k, .string V.nm, .int .i64 V.vr, .slice A V.args.length c] SchT (0, 0))) (by kernel_rfl) ?_ (fun hHeld => ?_)
            · exact ZR.out
            refine wpAnyH_take (i := 0) (oi := { dst := some 41, op := Go.Op.move (Go.Operand.tmp 5), type := 29, pos := _, after := #[], guard := none }) (v := ?va0) rfl (by kernel_rfl) (by kernel_rfl) (by kernel_rfl) (fun _ _ _ h => h) (Or.inl ⟨by rfl, ?hya0⟩) (by assumption) ?_
            case hya0 => (intro wz hSw; (try dsimp only at hSw); go_simp; try with_reducible rfl)
            (try simp only [Act.put, List.setIfInBounds_toArray, List.set_cons_zero, List.set_cons_succ])
            refine wpAnyH_take (i := 2) (oi := { dst := some 43, op := Go.Op.move (Go.Operand.tmp 1), type := 3, pos := _, after := #[], guard := none }) (v := ?va2) rfl (by kernel_rfl) (by kernel_rfl) (by kernel_rfl) (fun _ _ _ h => h) (Or.inl ⟨by rfl, ?hya2⟩) (by assumption) ?_
            case hya2 => (intro wz hSw; (try dsimp only at hSw); go_simp; try with_reducible rfl)
            (try simp only [Act.put, List.setIfInBounds_toArray, List.set_cons_zero, List.set_cons_succ])
            refine wpAnyH_take (i := 3) (oi := { dst := some 44, op := Go.Op.fieldAddr 34 (Go.Operand.tmp 2) 0, type := 0, pos := _, after := #[], guard := none }) (v := ?va3) rfl (by kernel_rfl) (by kernel_rfl) (by kernel_rfl) (fun _ _ _ h => h) (Or.inl ⟨by rfl, ?hya3⟩) (by assumption) ?_
            case hya3 => (intro wz hSw; (try dsimp only at hSw); go_simp; try with_reducible rfl)
            (try simp only [Act.put, List.setIfInBounds_toArray, List.set_cons_zero, List.set_cons_succ])
            refine wpAnyH_take (i := 4) (oi := { dst := some 45, op := Go.Op.load 32 (Go.Operand.tmp 44), type := 32, pos := _, after := #[{ on := 3, ground := Go.Ground.data }], guard := none }) (v := ?va4) rfl (by kernel_rfl) (by kernel_rfl) (by kernel_rfl) (fun _ _ _ h => h) (Or.inl ⟨by rfl, ?hya4⟩) (by assumption) ?_
            case hya4 => (intro wz hSw; (try dsimp only at hSw); have zc := (five_cells hSw).1; have z0 := zc.1; have z1 := zc.2.1; have z2 := zc.2.2.1; have z3 := zc.2.2.2.1; have z4 := zc.2.2.2.2; clear zc; go_simp; try with_reducible rfl)
            (try simp only [Act.put, List.setIfInBounds_toArray, List.set_cons_zero, List.set_cons_succ])
            refine wpAnyH_take (i := 5) (oi := { dst := some 46, op := Go.Op.call { callee := Go.Callee.builtin Go.Builtin.len, args := #[Go.Operand.tmp 45], argTypes := #[32] }, type := 3, pos := _, after := #[{ on := 4, ground := Go.Ground.data }], guard := none }) (v := ?va5) rfl (by kernel_rfl) (by kernel_rfl) (by kernel_rfl) (fun _ _ _ h => h) (Or.inl ⟨by rfl, ?hya5⟩) (by assumption) ?_
            case hya5 => (intro wz hSw; (try dsimp only at hSw); go_simp; try with_reducible rfl)
            (try simp only [Act.put, List.setIfInBounds_toArray, List.set_cons_zero, List.set_cons_succ])
            refine wpAnyH_take (i := 6) (oi := { dst := some 47, op := Go.Op.binOp Go.BinOp.mul 3 (Go.Operand.tmp 43) (Go.Operand.tmp 46) 3, type := 3, pos := _, after := #[{ on := 2, ground := Go.Ground.data }, { on := 5, ground := Go.Ground.data }], guard := none }) (v := ?va6) rfl (by kernel_rfl) (by kernel_rfl) (by kernel_rfl) (fun _ _ _ h => h) (Or.inl ⟨by rfl, ?hya6⟩) (by assumption) ?_
            case hya6 => (intro wz hSw; (try dsimp only at hSw); go_simp; try with_reducible rfl)
            (try simp only [Act.put, List.setIfInBounds_toArray, List.set_cons_zero, List.set_cons_succ])
            refine wpAnyH_ready (rs := [1]) (by kernel_rfl) (by simp) ?_
            refine AllReadyH.cons (o := { dst := some 42, op := Go.Op.call { callee := Go.Callee.value (Go.Operand.func 11), args := #[Go.Operand.tmp 41], argTypes := #[29] }, type := 24, pos := _, after := #[{ on := 0, ground := Go.Ground.data }], guard := none }) rfl (fun K hK => ?_) AllReadyH.nil
            go_simp
            refine (CF.out _ rfl).mono ?_; rintro e w8 ⟨rfl, -, f8⟩
            have z8 := (f8.block w.heap.size (show w.heap.size < wr.drew.heap.size from QR.out) (by show ¬ w.heap.size = sb; have := QS.out; omega)).trans (show wr.drew.heap[w.heap.size]? = _ from ZR.out)
            go_wp2_with fail
            refine hK.out _ _ ?_ (fun hHeld => ?_)
            · exact z8
            clear hK K
            (try simp only [Act.put, List.setIfInBounds_toArray, List.set_cons_zero, List.set_cons_succ])
            refine wpAnyH_ready (rs := [7]) (by kernel_rfl) (by simp) ?_
            refine AllReadyH.cons (o := { dst := some 48, op := Go.Op.call { callee := Go.Callee.value (Go.Operand.func 19), args := #[Go.Operand.tmp 47], argTypes := #[3] }, type := 24, pos := _, after := #[{ on := 6, ground := Go.Ground.data }, { on := 1, ground := Go.Ground.chain }], guard := none }) rfl (fun K hK => ?_) AllReadyH.nil
            go_simp
            refine (vlaw_any _ _).mono ?_; rintro e w9 ⟨rfl, b9⟩
            go_wp2_with fail
            refine hK.out _ _ ?_ (fun hHeld => ?_)
            · exact (b9.block w.heap.size (Array.getElem?_eq_some_iff.1 hHeld).1).trans hHeld
            clear hK K
            (try simp only [Act.put, List.setIfInBounds_toArray, List.set_cons_zero, List.set_cons_succ])
            refine wpAnyH_ready (rs := [8]) (by kernel_rfl) (by simp) ?_
            refine AllReadyH.cons (o := { dst := some 49, op := Go.Op.call { callee := Go.Callee.value (Go.Operand.func 18), args := #[Go.Operand.tmp 42, Go.Operand.tmp 48], argTypes := #[24, 24] }, type := 4, pos := _, after := #[{ on := 1, ground := Go.Ground.data }, { on := 7, ground := Go.Ground.data }, { on := 7, ground := Go.Ground.chain }], guard := none }) rfl (fun K hK => ?_) AllReadyH.nil
            go_simp
            refine (Same_self (d := 1) (V := varT q) (by omega) (by rfl) (⟨none, 0, rfl, .inl rfl⟩) (varT_in _ _ q)).mono ?_; rintro e w10 ⟨rfl, b10⟩
            go_wp2_with fail
            refine hK.out _ _ ?_ (fun hHeld => ?_)
            · exact (b10.block w.heap.size (Array.getElem?_eq_some_iff.1 hHeld).1).trans hHeld
            clear hK K
            (try simp only [Act.put, List.setIfInBounds_toArray, List.set_cons_zero, List.set_cons_succ])
            refine wpAnyH_take (i := 9) (oi := { dst := some 4, op := Go.Op.assign (Go.Operand.tmp 49), type := 4, pos := _, after := #[{ on := 8, ground := Go.Ground.data }, { on := 8, ground := Go.Ground.chain }, { on := 0, ground := Go.Ground.phase }, { on := 1, ground := Go.Ground.phase }, { on := 2, ground := Go.Ground.phase }, { on := 3, ground := Go.Ground.phase }, { on := 4, ground := Go.Ground.phase }, { on := 5, ground := Go.Ground.phase }, { on := 6, ground := Go.Ground.phase }, { on := 7, ground := Go.Ground.phase }, { on := 8, ground := Go.Ground.phase }], guard := none }) (v := ?va9) rfl (by kernel_rfl) (by kernel_rfl) (by kernel_rfl) (fun _ _ _ h => h) (Or.inl ⟨by rfl, ?hya9⟩) (by assumption) ?_
            case hya9 => (intro wz hSw; (try dsimp only at hSw); go_simp; try with_reducible rfl)
            (try simp only [Act.put, List.setIfInBounds_toArray, List.set_cons_zero, List.set_cons_succ])
            refine wpAnyH_done (by kernel_rfl) ?_ _
            have h1 : Below w.heap.size w wr.drew := BR.out.drew
            have h2 : Below w.heap.size wr.drew w8 := f8.below (fun k hk => by have := QS.out; have : k = sb := hk; omega) h1.size
            have h12 := h1.trans h2
            have h3 := h12.trans (b9.mono h12.size)
            have FIN := Lib.hid (h3.trans (b10.mono h3.size))
            clear h1 h2 h12 h3 f8 b9 b10 z8 hHeld hw
            go_wp2
            go_ret
            exact ⟨rfl, FIN.out⟩
    · have dN : decide ((10 : Int) < (N : Int)) = true := decide_eq_true (by omega)
      clear CG0 OA0 hbg
      clear hAw hx hsz hA ha
      go_enter Tryd.func6, Tryd.ntmps6
      go_wp2_with fail
      refine (HAW.out _).mono ?_; rintro e w1 ⟨rfl, b1⟩
      have B1 := Lib.hid (bt HB.out b1)
      have z1 := (b1.block w.heap.size (by rw [HZ.out]; omega)).trans HX.out
      obtain ⟨⟨x0, x1, x2, x3, x4⟩, -⟩ := five_cells z1
      have Q1 := Lib.hid (show w.heap.size + 1 ≤ w1.heap.size by have := b1.size; rw [HZ.out] at this; exact this)
      have Z1 := Lib.hid z1
      clear b1 z1
      go_wp2_with fail
      refine (CS.out _ B1.out).mono ?_; rintro e w2 ⟨rfl, b2⟩
      have B2 := Lib.hid (bt B1.out b2)
      have z2 := (b2.block w.heap.size (by have := Q1.out; omega)).trans Z1.out
      obtain ⟨⟨y0, y1, y2, y3, y4⟩, -⟩ := five_cells z2
      have Q2 := Lib.hid (Nat.le_trans Q1.out b2.size)
      have Z2 := Lib.hid z2
      clear b2 z2 x0 x1 x2 x3 x4
      go_wp2
      go_ret
      exact ⟨rfl, B2.out⟩
end Go.Proofs.YtifopogkbjhkjaaDoor
