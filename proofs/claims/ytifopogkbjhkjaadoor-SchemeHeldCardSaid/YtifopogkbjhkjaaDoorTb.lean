import Derived.Test.YtifopogkbjhkjaaDoorTa
import Derived.Test.YtifopogkbjhkjaaDoorDr
namespace Go.Proofs.YtifopogkbjhkjaaDoor
open DR
open Go.ChangeShapes Go.WideShapes Go.ChangeAt Go.RowKit Go.WideMaps
set_option linter.unusedVariables false
set_option linter.unusedSimpArgs false
theorem WD_mono {P : Program} {ops : Array Oper} {Q : Exit → Act → World → Prop} {S S' : World → Prop} {ds : List Nat} {n : Nat} {listed : Array Bool} {a : Act} {w : World} (hs : ∀ w, S' w → S w) (h : WD P ops Q ds S' n listed a w) : WD P ops Q ds S n listed a w := fun hc => wpD_mono hs _ _ _ _ (h hc)
set_option maxRecDepth 100000 in
set_option maxHeartbeats 8000000 in
theorem mono_walk {V : TT} {v : Value} {w : World} (hAw : ∀ W, Calls Tryd.prog 7 #[] W fun e W' => e = .returned (.bool true) ∧ Below W.heap.size W W') (h : TIn w any0 V v) : Calls Tryd.prog 4 #[v] w fun e w' => e = .returned (.bool true) ∧ Below w.heap.size w w' := by
  have HAW := Lib.hid hAw
  have hin := h
  obtain ⟨A, c, rfl, hA⟩ := h
  have CS := Lib.hid (fun W (hW : Below w.heap.size w W) => small_any 7 V _ 64 W most64 (hin.later hW))
  have hx := heap_alloc_new w (.cells #[.int .i64 V.k, .string V.nm, .int .i64 V.vr, .slice A V.args.length c] 24)
  have hsz : (w.alloc (.cells #[.int .i64 V.k, .string V.nm, .int .i64 V.vr, .slice A V.args.length c] 24)).heap.size = w.heap.size + 1 := by simp
  have HB := Lib.hid (below_alloc w (.cells #[.int .i64 V.k, .string V.nm, .int .i64 V.vr, .slice A V.args.length c] 24))
  have HX := Lib.hid hx; have HZ := Lib.hid hsz
  cases hbg : bigT 7 V with
  | true =>
    rw [hbg] at CS
    unfold tv at CS ⊢
    clear hA hin hAw hx hsz hbg
    go_enter Tryd.func4, Tryd.ntmps4
    go_wp2_with fail
    refine (HAW.out _).mono ?_; rintro e w1 ⟨rfl, b1⟩
    have B1 := Lib.hid (bt HB.out b1)
    have z1 := (b1.block w.heap.size (by rw [HZ.out]; omega)).trans HX.out
    obtain ⟨x0, x1, x2, x3⟩ := cell4 z1
    clear b1 z1
    go_wp2_with fail
    refine (CS.out _ B1.out).mono ?_; rintro e w2 ⟨rfl, b2⟩
    have B2 := Lib.hid (bt B1.out b2)
    clear b2
    go_wp2
    go_ret
    exact ⟨rfl, B2.out⟩
  | false =>
    have CG := Lib.hid (fun W (hW : Below w.heap.size w W) => good_any (Nat.le_refl 7) hbg (hin.later hW))
    rw [hbg] at CS
    have HBG := Lib.hid hbg; have HIN := Lib.hid hin; have HA := Lib.hid hA
    cases hg : goodT V with
    | false =>
      rw [hg] at CG
      unfold tv at CS CG ⊢
      clear hA hin hAw hx hsz hbg hg HIN
      go_enter Tryd.func4, Tryd.ntmps4
      go_wp2_with fail
      refine (HAW.out _).mono ?_; rintro e w1 ⟨rfl, b1⟩
      have B1 := Lib.hid (bt HB.out b1)
      have z1 := (b1.block w.heap.size (by rw [HZ.out]; omega)).trans HX.out
      obtain ⟨x0, x1, x2, x3⟩ := cell4 z1
      have Q1 := Lib.hid (show w.heap.size + 1 ≤ w1.heap.size by have := b1.size; rw [HZ.out] at this; exact this)
      have Z1 := Lib.hid z1
      clear b1 z1
      go_wp2_with fail
      refine (CS.out _ B1.out).mono ?_; rintro e w2 ⟨rfl, b2⟩
      have B2 := Lib.hid (bt B1.out b2)
      have z2 := (b2.block w.heap.size (by have := Q1.out; omega)).trans Z1.out
      obtain ⟨y0, y1, y2, y3⟩ := cell4 z2
      clear b2 z2 x0 x1 x2 x3
      go_wp2_with fail
      refine (CG.out _ B2.out).mono ?_; rintro e w3 ⟨rfl, b3⟩
      have B3 := Lib.hid (bt B2.out b3)
      clear b3 y0 y1 y2 y3
      go_wp2
      go_ret
      exact ⟨rfl, B3.out⟩
    | true =>
      have hg' := hg
      rw [hg] at CG
      have CM := Lib.hid (fun W (hW : Below w.heap.size w W) => mono_any (show 7 ≤ 500 by omega) hbg (hin.later hW))
      have HG := Lib.hid hg
      unfold tv at CS CG CM HIN ⊢
      clear hA hin hAw hx hsz hbg hg hg'
      go_enter Tryd.func4, Tryd.ntmps4
      go_wp2_with fail
      refine (HAW.out _).mono ?_; rintro e w1 ⟨rfl, b1⟩
      have B1 := Lib.hid (bt HB.out b1)
      have z1 := (b1.block w.heap.size (by rw [HZ.out]; omega)).trans HX.out
      obtain ⟨x0, x1, x2, x3⟩ := cell4 z1
      have Q1 := Lib.hid (show w.heap.size + 1 ≤ w1.heap.size by have := b1.size; rw [HZ.out] at this; exact this)
      have Z1 := Lib.hid z1
      clear b1 z1
      go_wp2_with fail
      refine (CS.out _ B1.out).mono ?_; rintro e w2 ⟨rfl, b2⟩
      have B2 := Lib.hid (bt B1.out b2)
      have z2 := (b2.block w.heap.size (by have := Q1.out; omega)).trans Z1.out
      have Q2 := Lib.hid (Nat.le_trans Q1.out b2.size)
      have Z2 := Lib.hid z2
      obtain ⟨y0, y1, y2, y3⟩ := cell4 z2
      clear b2 z2 x0 x1 x2 x3
      go_wp2_with fail
      refine (CG.out _ B2.out).mono ?_; rintro e w3 ⟨rfl, b3⟩
      have B3 := Lib.hid (bt B2.out b3)
      have Z3 := Lib.hid ((b3.block w.heap.size (by have := Q2.out; omega)).trans Z2.out)
      have Q3 := Lib.hid (Nat.le_trans Q2.out b3.size)
      clear b3 y0 y1 y2 y3
      go_wp2_with fail
      refine (new_any _).mono ?_; rintro e w4 ⟨rfl, s4, b4⟩
      have B4 := Lib.hid (bt B3.out b4)
      have z4 := (b4.block w.heap.size (by have := Q3.out; omega)).trans Z3.out
      have Q4 := Lib.hid (Nat.le_trans Q3.out b4.size)
      have Z4 := Lib.hid z4
      have S4 := Lib.hid s4
      obtain ⟨y0, y1, y2, y3⟩ := cell4 z4
      obtain ⟨sb, hsb⟩ : ∃ sb, sb = w3.heap.size := ⟨_, rfl⟩
      rw [← hsb] at S4 Q3 ⊢
      have HSB := Lib.hid hsb
      clear b4 z4 s4 hsb
      go_wp2_with fail
      refine (CM.out _ B4.out).mono ?_; rintro e w5 ⟨A5, c5, rfl, r5, b5⟩
      have B5 := Lib.hid (bt B4.out b5)
      have Z5 := Lib.hid ((b5.block w.heap.size (by have := Q4.out; omega)).trans Z4.out)
      have S5 := Lib.hid (S4.out.below b5)
      have R5 := Lib.hid (r5.weak (fun _ _ _ => trivial : ∀ b, b < w5.heap.size → w4.heap.size ≤ b → any0 b))
      have Q5 := Lib.hid (Nat.le_trans Q4.out b5.size)
      clear b5 r5 y0 y1 y2 y3
      unfold scv
      obtain ⟨wB, hwB⟩ : ∃ z, z = w5.alloc (.cells #[.slice none 0 0, .int .i64 V.k, .string V.nm, .int .i64 V.vr, .slice A5 V.args.length c5] SchT) := ⟨_, rfl⟩
      have b6 : Below w5.heap.size w5 wB := by rw [hwB]; exact below_alloc _ _
      have T4 := Lib.hid (show wB.heap[w5.heap.size]? = some (.cells #[.slice none 0 0, .int .i64 V.k, .string V.nm, .int .i64 V.vr, .slice A5 V.args.length c5] SchT (0, 0)) by rw [hwB]; exact heap_alloc_new _ _)
      have T1 := Lib.hid ((b6.block w.heap.size (by have := Q5.out; omega)).trans Z5.out)
      have SB := Lib.hid (S5.out.below b6)
      have RB := Lib.hid (R5.out.later b6)
      have BB := Lib.hid (bt B5.out b6)
      have QB := Lib.hid (show w5.heap.size < wB.heap.size by rw [hwB]; simp)
      have HWB := Lib.hid hwB
      clear b6 hwB S4 S5 R5 Z1 Z2 Z3 Z4 Z5
      go_wp2_with fail
      rw [← HWB.out]
      have QW := Lib.hid (show w.heap.size < wB.heap.size by have := Q5.out; have := QB.out; omega)
      have CG5 := Lib.hid (fun W (hW : Below wB.heap.size wB W) => sgood0 (c := c5) (Nat.le_refl 7) HBG.out HG.out (RB.out.later hW))
      have CO5 := Lib.hid (fun W (hW : Below wB.heap.size wB W) => open0 (c := c5) (Nat.le_refl 7) HBG.out HG.out (SB.out.below hW) (RB.out.later hW))
      unfold scv at CG5 CO5
      have CE := Lib.hid (fun A7 c7 W (h7 : TRow W any0 A7 V.args) (hW : Below wB.heap.size wB W) => Same_self (show 7 ≤ 500 by omega) HBG.out (⟨A7, c7, rfl, h7⟩ : TIn W any0 V (.agg #[.int .i64 V.k, .string V.nm, .int .i64 V.vr, .slice A7 V.args.length c7])) (HIN.out.later (bt BB.out hW)))
      clear Q1 Q2 Q4 Q5 B1 B2 B3 B4 B5 CS CG CM RB HB HX HZ
      refine wp_region_D [18, 19, 20] (fun w' => Below wB.heap.size wB w') (by kernel_rfl) (bdr wB) (fun hHeld => ?_)
      refine WD_take (i := 0) (oi := { dst := some 18, op := Go.Op.load 34 (Go.Operand.tmp 4), type := 34, pos := _, after := #[], guard := none }) (v := ?va0) rfl (by kernel_rfl) (by kernel_rfl) (by kernel_rfl) (by kernel_rfl) (fun _ _ _ h => h) (Or.inl ⟨by rfl, ?hya0⟩) hHeld ?_
      case hya0 => (intro wz hSw; (try dsimp only at hSw); have zc := (five_cells ((hSw.block _ QB.out).trans T4.out)).1; have z0 := zc.1; have z1 := zc.2.1; have z2 := zc.2.2.1; have z3 := zc.2.2.2.1; have z4 := zc.2.2.2.2; clear zc; go_simp; try with_reducible rfl)
      (try simp only [Act.put, List.setIfInBounds_toArray, List.set_cons_zero, List.set_cons_succ])
      refine WD_ready (rs := [1]) (by kernel_rfl) (by simp) ?_
      refine AllD.cons (o := { dst := some 19, op := Go.Op.call { callee := Go.Callee.value (Go.Operand.func 12), args := #[Go.Operand.tmp 18], argTypes := #[34] }, type := 4, pos := _, after := #[{ on := 0, ground := Go.Ground.data }], guard := none }) rfl (fun K hK => ?_) AllD.nil
      rw [if_pos (by rfl)]
      go_simp
      refine (CG5.out _ hHeld).mono ?_; rintro e w6 ⟨rfl, b6⟩
      try go_wp2_with fail
      refine hK.out _ _ (bt hHeld b6) (fun hHeld => ?_)
      clear hK K
      (try simp only [Act.put, List.setIfInBounds_toArray, List.set_cons_zero, List.set_cons_succ])
      clear b6
      refine WD_take (i := 2) (oi := { dst := some 20, op := Go.Op.move (Go.Operand.tmp 19), type := 4, pos := _, after := #[{ on := 1, ground := Go.Ground.data }, { on := 1, ground := Go.Ground.chain }], guard := none }) (v := ?va2) rfl (by kernel_rfl) (by kernel_rfl) (by kernel_rfl) (by kernel_rfl) (fun _ _ _ h => h) (Or.inl ⟨by rfl, ?hya2⟩) hHeld ?_
      case hya2 => (intro wz hSw; (try dsimp only at hSw); go_simp; try with_reducible rfl)
      (try simp only [Act.put, List.setIfInBounds_toArray, List.set_cons_zero, List.set_cons_succ])
      refine WD_take (i := 3) (oi := { dst := some 21, op := Go.Op.move (Go.Operand.tmp 3), type := 29, pos := _, after := #[{ on := 2, ground := Go.Ground.guard }], guard := some (2, true) }) (v := ?va3) rfl (by kernel_rfl) (by kernel_rfl) (by kernel_rfl) (by kernel_rfl) (fun _ _ _ h => h) (Or.inl ⟨by rfl, ?hya3⟩) hHeld ?_
      case hya3 => (intro wz hSw; (try dsimp only at hSw); go_simp; try with_reducible rfl)
      (try simp only [Act.put, List.setIfInBounds_toArray, List.set_cons_zero, List.set_cons_succ])
      refine WD_take (i := 4) (oi := { dst := some 22, op := Go.Op.load 34 (Go.Operand.tmp 4), type := 34, pos := _, after := #[{ on := 2, ground := Go.Ground.guard }], guard := some (2, true) }) (v := ?va4) rfl (by kernel_rfl) (by kernel_rfl) (by kernel_rfl) (by kernel_rfl) (fun _ _ _ h => h) (Or.inl ⟨by rfl, ?hya4⟩) hHeld ?_
      case hya4 => (intro wz hSw; (try dsimp only at hSw); have zc := (five_cells ((hSw.block _ QB.out).trans T4.out)).1; have z0 := zc.1; have z1 := zc.2.1; have z2 := zc.2.2.1; have z3 := zc.2.2.2.1; have z4 := zc.2.2.2.2; clear zc; go_simp; try with_reducible rfl)
      (try simp only [Act.put, List.setIfInBounds_toArray, List.set_cons_zero, List.set_cons_succ])
      refine WD_take (i := 6) (oi := { dst := some 24, op := Go.Op.load 24 (Go.Operand.tmp 1), type := 24, pos := _, after := #[{ on := 2, ground := Go.Ground.guard }], guard := some (2, true) }) (v := ?va6) rfl (by kernel_rfl) (by kernel_rfl) (by kernel_rfl) (by kernel_rfl) (fun _ _ _ h => h) (Or.inl ⟨by rfl, ?hya6⟩) hHeld ?_
      case hya6 => (intro wz hSw; (try dsimp only at hSw); have zc := cell4 ((hSw.block _ QW.out).trans T1.out); have z0 := zc.1; have z1 := zc.2.1; have z2 := zc.2.2.1; have z3 := zc.2.2.2; clear zc; go_simp; try with_reducible rfl)
      (try simp only [Act.put, List.setIfInBounds_toArray, List.set_cons_zero, List.set_cons_succ])
      refine WD_ready (rs := [5]) (by kernel_rfl) (by simp) ?_
      refine AllD.cons (o := { dst := some 23, op := Go.Op.call { callee := Go.Callee.value (Go.Operand.func 15), args := #[Go.Operand.tmp 21, Go.Operand.tmp 22], argTypes := #[29, 34] }, type := 24, pos := _, after := #[{ on := 3, ground := Go.Ground.data }, { on := 4, ground := Go.Ground.data }, { on := 2, ground := Go.Ground.chain }, { on := 2, ground := Go.Ground.guard }], guard := some (2, true) }) rfl (fun K hK => ?_) AllD.nil
      rw [if_pos (by rfl)]
      go_simp
      refine (CO5.out _ hHeld).mono ?_; rintro e w7 ⟨A7, c7, rfl, r7, b7⟩
      unfold tv
      try go_wp2_with fail
      refine hK.out _ _ (bt hHeld b7) (fun hHeld => ?_)
      clear hK K
      (try simp only [Act.put, List.setIfInBounds_toArray, List.set_cons_zero, List.set_cons_succ])
      have G7 := Lib.hid hHeld
      have R7 := Lib.hid (r7.weak (P' := any0) (fun _ _ _ => trivial))
      clear b7 r7 hHeld
      refine WD_mono (S' := fun w' => Below w7.heap.size w7 w') (fun w' h => bt G7.out h) ?_
      refine WD_ready (rs := [7]) (by kernel_rfl) (by simp) ?_
      refine AllD.cons (o := { dst := some 25, op := Go.Op.call { callee := Go.Callee.value (Go.Operand.func 18), args := #[Go.Operand.tmp 23, Go.Operand.tmp 24], argTypes := #[24, 24] }, type := 4, pos := _, after := #[{ on := 5, ground := Go.Ground.data }, { on := 6, ground := Go.Ground.data }, { on := 5, ground := Go.Ground.chain }, { on := 2, ground := Go.Ground.guard }], guard := some (2, true) }) rfl (fun K hK => ?_) AllD.nil
      rw [if_pos (by rfl)]
      go_simp
      refine (CE.out _ _ w7 R7.out G7.out).mono ?_; rintro e w8 ⟨rfl, b8⟩
      try go_wp2_with fail
      refine hK.out _ _ (b8) (fun hHeld => ?_)
      clear hK K
      (try simp only [Act.put, List.setIfInBounds_toArray, List.set_cons_zero, List.set_cons_succ])
      clear b8 R7
      refine WD_take (i := 8) (oi := { dst := some 26, op := Go.Op.pick (Go.Operand.tmp 20) (Go.Operand.tmp 25) (Go.Operand.const (Go.Value.bool false)), type := 4, pos := _, after := #[{ on := 2, ground := Go.Ground.data }, { on := 7, ground := Go.Ground.data }], guard := none }) (v := ?va8) rfl (by kernel_rfl) (by kernel_rfl) (by kernel_rfl) (by kernel_rfl) (fun _ _ _ h => h) (Or.inl ⟨by rfl, ?hya8⟩) hHeld ?_
      case hya8 => (intro wz hSw; (try dsimp only at hSw); go_simp; try with_reducible rfl)
      (try simp only [Act.put, List.setIfInBounds_toArray, List.set_cons_zero, List.set_cons_succ])
      refine WD_take (i := 9) (oi := { dst := some 27, op := Go.Op.move (Go.Operand.tmp 26), type := 4, pos := _, after := #[{ on := 8, ground := Go.Ground.data }, { on := 7, ground := Go.Ground.chain }], guard := none }) (v := ?va9) rfl (by kernel_rfl) (by kernel_rfl) (by kernel_rfl) (by kernel_rfl) (fun _ _ _ h => h) (Or.inl ⟨by rfl, ?hya9⟩) hHeld ?_
      case hya9 => (intro wz hSw; (try dsimp only at hSw); go_simp; try with_reducible rfl)
      (try simp only [Act.put, List.setIfInBounds_toArray, List.set_cons_zero, List.set_cons_succ])
      refine WD_take (i := 10) (oi := { dst := some 28, op := Go.Op.move (Go.Operand.tmp 3), type := 29, pos := _, after := #[{ on := 9, ground := Go.Ground.guard }], guard := some (9, true) }) (v := ?va10) rfl (by kernel_rfl) (by kernel_rfl) (by kernel_rfl) (by kernel_rfl) (fun _ _ _ h => h) (Or.inl ⟨by rfl, ?hya10⟩) hHeld ?_
      case hya10 => (intro wz hSw; (try dsimp only at hSw); go_simp; try with_reducible rfl)
      (try simp only [Act.put, List.setIfInBounds_toArray, List.set_cons_zero, List.set_cons_succ])
      refine WD_take (i := 11) (oi := { dst := some 29, op := Go.Op.load 34 (Go.Operand.tmp 4), type := 34, pos := _, after := #[{ on := 9, ground := Go.Ground.guard }], guard := some (9, true) }) (v := ?va11) rfl (by kernel_rfl) (by kernel_rfl) (by kernel_rfl) (by kernel_rfl) (fun _ _ _ h => h) (Or.inl ⟨by rfl, ?hya11⟩) hHeld ?_
      case hya11 => (intro wz hSw; (try dsimp only at hSw); have zc := (five_cells (((bt G7.out hSw).block _ QB.out).trans T4.out)).1; have z0 := zc.1; have z1 := zc.2.1; have z2 := zc.2.2.1; have z3 := zc.2.2.2.1; have z4 := zc.2.2.2.2; clear zc; go_simp; try with_reducible rfl)
      (try simp only [Act.put, List.setIfInBounds_toArray, List.set_cons_zero, List.set_cons_succ])
      refine WD_take (i := 13) (oi := { dst := some 31, op := Go.Op.load 24 (Go.Operand.tmp 1), type := 24, pos := _, after := #[{ on := 9, ground := Go.Ground.guard }], guard := some (9, true) }) (v := ?va13) rfl (by kernel_rfl) (by kernel_rfl) (by kernel_rfl) (by kernel_rfl) (fun _ _ _ h => h) (Or.inl ⟨by rfl, ?hya13⟩) hHeld ?_
      case hya13 => (intro wz hSw; (try dsimp only at hSw); have zc := cell4 (((bt G7.out hSw).block _ QW.out).trans T1.out); have z0 := zc.1; have z1 := zc.2.1; have z2 := zc.2.2.1; have z3 := zc.2.2.2; clear zc; go_simp; try with_reducible rfl)
      (try simp only [Act.put, List.setIfInBounds_toArray, List.set_cons_zero, List.set_cons_succ])
      refine WD_ready (rs := [12]) (by kernel_rfl) (by simp) ?_
      refine AllD.cons (o := { dst := some 30, op := Go.Op.call { callee := Go.Callee.value (Go.Operand.func 15), args := #[Go.Operand.tmp 28, Go.Operand.tmp 29], argTypes := #[29, 34] }, type := 24, pos := _, after := #[{ on := 10, ground := Go.Ground.data }, { on := 11, ground := Go.Ground.data }, { on := 9, ground := Go.Ground.chain }, { on := 9, ground := Go.Ground.guard }], guard := some (9, true) }) rfl (fun K hK => ?_) AllD.nil
      rw [if_pos (by rfl)]
      go_simp
      refine (CO5.out _ (bt G7.out hHeld)).mono ?_; rintro e w9 ⟨A9, c9, rfl, r9, b9⟩
      unfold tv
      try go_wp2_with fail
      refine hK.out _ _ (bt hHeld b9) (fun hHeld => ?_)
      clear hK K
      (try simp only [Act.put, List.setIfInBounds_toArray, List.set_cons_zero, List.set_cons_succ])
      have G9 := Lib.hid (bt G7.out hHeld)
      have G79 := Lib.hid hHeld
      have R9 := Lib.hid (r9.weak (P' := any0) (fun _ _ _ => trivial))
      clear b9 r9 hHeld
      refine WD_mono (S' := fun w' => Below w9.heap.size w9 w') (fun w' h => bt G79.out h) ?_
      refine WD_ready (rs := [14]) (by kernel_rfl) (by simp) ?_
      refine AllD.cons (o := { dst := some 32, op := Go.Op.call { callee := Go.Callee.value (Go.Operand.func 18), args := #[Go.Operand.tmp 30, Go.Operand.tmp 31], argTypes := #[24, 24] }, type := 4, pos := _, after := #[{ on := 12, ground := Go.Ground.data }, { on := 13, ground := Go.Ground.data }, { on := 12, ground := Go.Ground.chain }, { on := 9, ground := Go.Ground.guard }], guard := some (9, true) }) rfl (fun K hK => ?_) AllD.nil
      rw [if_pos (by rfl)]
      go_simp
      refine (CE.out _ _ w9 R9.out G9.out).mono ?_; rintro e w10 ⟨rfl, b10⟩
      try go_wp2_with fail
      refine hK.out _ _ (b10) (fun hHeld => ?_)
      clear hK K
      (try simp only [Act.put, List.setIfInBounds_toArray, List.set_cons_zero, List.set_cons_succ])
      clear b10 R9
      refine WD_take (i := 15) (oi := { dst := some 33, op := Go.Op.pick (Go.Operand.tmp 27) (Go.Operand.tmp 32) (Go.Operand.const (Go.Value.bool false)), type := 4, pos := _, after := #[{ on := 9, ground := Go.Ground.data }, { on := 14, ground := Go.Ground.data }], guard := none }) (v := ?va15) rfl (by kernel_rfl) (by kernel_rfl) (by kernel_rfl) (by kernel_rfl) (fun _ _ _ h => h) (Or.inl ⟨by rfl, ?hya15⟩) hHeld ?_
      case hya15 => (intro wz hSw; (try dsimp only at hSw); go_simp; try with_reducible rfl)
      (try simp only [Act.put, List.setIfInBounds_toArray, List.set_cons_zero, List.set_cons_succ])
      refine WD_take (i := 16) (oi := { dst := some 34, op := Go.Op.move (Go.Operand.tmp 33), type := 4, pos := _, after := #[{ on := 15, ground := Go.Ground.data }, { on := 14, ground := Go.Ground.chain }], guard := none }) (v := ?va16) rfl (by kernel_rfl) (by kernel_rfl) (by kernel_rfl) (by kernel_rfl) (fun _ _ _ h => h) (Or.inl ⟨by rfl, ?hya16⟩) hHeld ?_
      case hya16 => (intro wz hSw; (try dsimp only at hSw); go_simp; try with_reducible rfl)
      (try simp only [Act.put, List.setIfInBounds_toArray, List.set_cons_zero, List.set_cons_succ])
      refine WD_take (i := 17) (oi := { dst := some 35, op := Go.Op.move (Go.Operand.tmp 3), type := 29, pos := _, after := #[{ on := 16, ground := Go.Ground.guard }], guard := some (16, true) }) (v := ?va17) rfl (by kernel_rfl) (by kernel_rfl) (by kernel_rfl) (by kernel_rfl) (fun _ _ _ h => h) (Or.inl ⟨by rfl, ?hya17⟩) hHeld ?_
      case hya17 => (intro wz hSw; (try dsimp only at hSw); go_simp; try with_reducible rfl)
      (try simp only [Act.put, List.setIfInBounds_toArray, List.set_cons_zero, List.set_cons_succ])
      have S10 := Lib.hid (SB.out.below (bt G9.out hHeld))
      have G10 := Lib.hid (bt G9.out hHeld)
      refine WD_ready (rs := [18]) (by kernel_rfl) (by simp) ?_
      refine AllD.last (o := { dst := some 36, op := Go.Op.call { callee := Go.Callee.value (Go.Operand.func 11), args := #[Go.Operand.tmp 35], argTypes := #[29] }, type := 24, pos := _, after := #[{ on := 17, ground := Go.Ground.data }, { on := 16, ground := Go.Ground.chain }, { on := 16, ground := Go.Ground.guard }], guard := some (16, true) }) rfl (by kernel_rfl) (fun K hK => ?_) AllD.nil
      rw [if_pos (by rfl)]
      go_simp
      refine (fresh_any (by omega) (by omega) (show (1 : Int) = min (0 + 1) 1999 by omega) S10.out).mono ?_; rintro e w11 ⟨rfl, s11, b11⟩
      try go_wp2_with fail
      refine hK.out _ _ ?_
      clear hK K
      (try simp only [Act.put, List.setIfInBounds_toArray, List.set_cons_zero, List.set_cons_succ])
      refine WD_ready (rs := [19]) (by kernel_rfl) (by simp) ?_
      refine AllD.last (o := { dst := some 37, op := Go.Op.call { callee := Go.Callee.value (Go.Operand.func 19), args := #[Go.Operand.const (Go.Value.int Go.IntKind.i64 0)], argTypes := #[3] }, type := 24, pos := _, after := #[{ on := 18, ground := Go.Ground.chain }, { on := 16, ground := Go.Ground.guard }], guard := some (16, true) }) rfl (by kernel_rfl) (fun K hK => ?_) AllD.nil
      rw [if_pos (by rfl)]
      go_simp
      refine (vlaw_any 0 _).mono ?_; rintro e w12 ⟨rfl, b12⟩
      try go_wp2_with fail
      refine hK.out _ _ ?_
      clear hK K
      (try simp only [Act.put, List.setIfInBounds_toArray, List.set_cons_zero, List.set_cons_succ])
      refine WD_ready (rs := [20]) (by kernel_rfl) (by simp) ?_
      refine AllD.last (o := { dst := some 38, op := Go.Op.call { callee := Go.Callee.value (Go.Operand.func 18), args := #[Go.Operand.tmp 36, Go.Operand.tmp 37], argTypes := #[24, 24] }, type := 4, pos := _, after := #[{ on := 18, ground := Go.Ground.data }, { on := 19, ground := Go.Ground.data }, { on := 19, ground := Go.Ground.chain }, { on := 16, ground := Go.Ground.guard }], guard := some (16, true) }) rfl (by kernel_rfl) (fun K hK => ?_) AllD.nil
      rw [if_pos (by rfl)]
      go_simp
      refine (Same_self (d := 1) (V := varT 0) (by omega) (by rfl) (varT_in _ _ 0) (varT_in _ _ 0)).mono ?_; rintro e w13 ⟨rfl, b13⟩
      try go_wp2_with fail
      refine hK.out _ _ ?_
      clear hK K
      (try simp only [Act.put, List.setIfInBounds_toArray, List.set_cons_zero, List.set_cons_succ])
      refine WD_takeAny (i := 21) (oi := { dst := some 39, op := Go.Op.pick (Go.Operand.tmp 34) (Go.Operand.tmp 38) (Go.Operand.const (Go.Value.bool false)), type := 4, pos := _, after := #[{ on := 16, ground := Go.Ground.data }, { on := 20, ground := Go.Ground.data }], guard := none }) (v := ?va21) rfl (by kernel_rfl) (by kernel_rfl) (by kernel_rfl) (by kernel_rfl) (fun _ _ _ h => h) (Or.inl ⟨by rfl, ?hya21⟩) ?_
      case hya21 => (intro wz _; go_simp; try with_reducible rfl)
      (try simp only [Act.put, List.setIfInBounds_toArray, List.set_cons_zero, List.set_cons_succ])
      refine WD_takeAny (i := 22) (oi := { dst := some 2, op := Go.Op.assign (Go.Operand.tmp 39), type := 4, pos := _, after := #[{ on := 21, ground := Go.Ground.data }, { on := 20, ground := Go.Ground.chain }, { on := 0, ground := Go.Ground.phase }, { on := 1, ground := Go.Ground.phase }, { on := 2, ground := Go.Ground.phase }, { on := 3, ground := Go.Ground.phase }, { on := 4, ground := Go.Ground.phase }, { on := 5, ground := Go.Ground.phase }, { on := 6, ground := Go.Ground.phase }, { on := 7, ground := Go.Ground.phase }, { on := 8, ground := Go.Ground.phase }, { on := 9, ground := Go.Ground.phase }, { on := 10, ground := Go.Ground.phase }, { on := 11, ground := Go.Ground.phase }, { on := 12, ground := Go.Ground.phase }, { on := 13, ground := Go.Ground.phase }, { on := 14, ground := Go.Ground.phase }, { on := 15, ground := Go.Ground.phase }, { on := 16, ground := Go.Ground.phase }, { on := 17, ground := Go.Ground.phase }, { on := 18, ground := Go.Ground.phase }, { on := 19, ground := Go.Ground.phase }, { on := 20, ground := Go.Ground.phase }, { on := 21, ground := Go.Ground.phase }], guard := none }) (v := ?va22) rfl (by kernel_rfl) (by kernel_rfl) (by kernel_rfl) (by kernel_rfl) (fun _ _ _ h => h) (Or.inl ⟨by rfl, ?hya22⟩) ?_
      case hya22 => (intro wz _; go_simp; try with_reducible rfl)
      (try simp only [Act.put, List.setIfInBounds_toArray, List.set_cons_zero, List.set_cons_succ])
      refine WD_done (by kernel_rfl) ?_ _
      have BF := bt BB.out G10.out
      have q11 := b11.size
      have q10 := BF.size
      have q12 := b12.size
      have FIN : Below w.heap.size w w13 := ((BF.trans (b11.mono (by have := Q3.out; omega))).trans (b12.mono (by omega))).trans (b13.mono (by omega))
      have HFIN := Lib.hid FIN
      clear BF q11 q10 q12 FIN b11 b12 b13 s11
      go_wp2
      go_ret
      exact ⟨rfl, HFIN.out⟩
end Go.Proofs.YtifopogkbjhkjaaDoor
