import Derived.Test.YtifopogkbjhkjaaDoorTb
import Derived.Test.YtifopogkbjhkjaaDoorSj
namespace Go.Proofs.YtifopogkbjhkjaaDoor
open DR
open Go.ChangeShapes Go.WideShapes Go.ChangeAt Go.RowKit Go.WideMaps
set_option linter.unusedVariables false
set_option linter.unusedSimpArgs false
theorem set5_heap {w : World} {R : Nat} {y0 y1 y2 y3 y4 : Value} (a b c d e : Value) (h : w.heap[R]? = some (.cells #[y0, y1, y2, y3, y4] SchT (0, 0))) : (set5 w R a b c d e).heap[R]? = some (.cells #[a, b, c, d, e] SchT (0, 0)) := by simp [World.setCell, Array.getElem?_modify, h]
/-- the box of a closed scheme. -/
def HeldJ (w4 w' : World) (V : TT) (m : Nat) (C : Nat) (Al : Option Addr) (ca : Nat) (A7 : Option Addr) (c7 : Nat) : Prop := w'.heap[C]? = some (.cells #[.slice Al m ca, .int .i64 V.k, .string V.nm, .int .i64 V.vr, .slice A7 V.args.length c7] SchT (0, 0)) ∧ w4.heap.size ≤ C ∧ TRow w' any0 A7 V.args ∧ Below w4.heap.size w4 w'
theorem held_store {w4 w : World} {V : TT} {m C ca c7 : Nat} {Al A7 : Option Addr} {y0 y1 y2 y3 y4 : Value} (hC : w.heap[C]? = some (.cells #[y0, y1, y2, y3, y4] SchT (0, 0))) (hc : w4.heap.size ≤ C) (hb : Below w4.heap.size w4 w) (ht : TRow w (· ≠ C) A7 V.args) :
    HeldJ w4 (set5 w C (.slice Al m ca) (.int .i64 V.k) (.string V.nm) (.int .i64 V.vr) (.slice A7 V.args.length c7)) V m C Al ca A7 c7 :=
  ⟨set5_heap _ _ _ _ _ hC, hc, ht.move (fun b _ hp => ⟨set5_keep _ _ _ _ _ _ _ _ hp, trivial⟩) (by rw [set5_size]; exact Nat.le_refl _), set5_below _ _ _ _ _ hb hc⟩
set_option maxRecDepth 100000 in
set_option maxHeartbeats 8000000 in
theorem held_walk {V : TT} {v : Value} {w : World} (hAw : ∀ W, Calls Tryd.prog 7 #[] W fun e W' => e = .returned (.bool true) ∧ Below W.heap.size W W') (h : TIn w any0 V v) : Calls Tryd.prog 5 #[v] w fun e w' => e = .returned (.bool true) ∧ Below w.heap.size w w' := by
  have HAW := Lib.hid hAw
  have hin := h
  obtain ⟨A, c, rfl, hA⟩ := h
  have CS := Lib.hid (fun W (hW : Below w.heap.size w W) => small_any 7 V _ 64 W most64 (hin.later hW))
  have hx := heap_alloc_new w (.cells #[.int .i64 V.k, .string V.nm, .int .i64 V.vr, .slice A V.args.length c] 24)
  have hsz : (w.alloc (.cells #[.int .i64 V.k, .string V.nm, .int .i64 V.vr, .slice A V.args.length c] 24)).heap.size = w.heap.size + 1 := by simp
  have HB := Lib.hid (below_alloc w (.cells #[.int .i64 V.k, .string V.nm, .int .i64 V.vr, .slice A V.args.length c] 24))
  have HX := Lib.hid hx; have HZ := Lib.hid hsz
  cases hbg : bigT 7 V with
  | true =>
    rw [hbg] at CS
    unfold tv at CS ⊢
    clear hA hin hAw hx hsz hbg
    go_enter Tryd.func5, Tryd.ntmps5
    go_wp2_with fail
    refine (HAW.out _).mono ?_; rintro e w1 ⟨rfl, b1⟩
    have B1 := Lib.hid (bt HB.out b1)
    have z1 := (b1.block w.heap.size (by rw [HZ.out]; omega)).trans HX.out
    obtain ⟨x0, x1, x2, x3⟩ := cell4 z1
    clear b1 z1
    go_wp2_with fail
    refine (CS.out _ B1.out).mono ?_; rintro e w2 ⟨rfl, b2⟩
    have B2 := Lib.hid (bt B1.out b2)
    clear b2
    go_wp2
    go_ret
    exact ⟨rfl, B2.out⟩
  | false =>
    have CG := Lib.hid (fun W (hW : Below w.heap.size w W) => good_any (Nat.le_refl 7) hbg (hin.later hW))
    rw [hbg] at CS
    have HBG := Lib.hid hbg; have HIN := Lib.hid hin; have HA := Lib.hid hA
    cases hg : goodT V with
    | false =>
      rw [hg] at CG
      unfold tv at CS CG ⊢
      clear hA hin hAw hx hsz hbg hg HIN
      go_enter Tryd.func5, Tryd.ntmps5
      go_wp2_with fail
      refine (HAW.out _).mono ?_; rintro e w1 ⟨rfl, b1⟩
      have B1 := Lib.hid (bt HB.out b1)
      have z1 := (b1.block w.heap.size (by rw [HZ.out]; omega)).trans HX.out
      obtain ⟨x0, x1, x2, x3⟩ := cell4 z1
      have Q1 := Lib.hid (show w.heap.size + 1 ≤ w1.heap.size by have := b1.size; rw [HZ.out] at this; exact this)
      have Z1 := Lib.hid z1
      clear b1 z1
      go_wp2_with fail
      refine (CS.out _ B1.out).mono ?_; rintro e w2 ⟨rfl, b2⟩
      have B2 := Lib.hid (bt B1.out b2)
      have z2 := (b2.block w.heap.size (by have := Q1.out; omega)).trans Z1.out
      obtain ⟨y0, y1, y2, y3⟩ := cell4 z2
      clear b2 z2 x0 x1 x2 x3
      go_wp2_with fail
      refine (CG.out _ B2.out).mono ?_; rintro e w3 ⟨rfl, b3⟩
      have B3 := Lib.hid (bt B2.out b3)
      clear b3 y0 y1 y2 y3
      go_wp2
      go_ret
      exact ⟨rfl, B3.out⟩
    | true =>
      have hg' := hg
      rw [hg] at CG
      have CM := Lib.hid (fun W (hW : Below w.heap.size w W) => mono_any (show 7 ≤ 500 by omega) hbg (hin.later hW))
      have CZ := Lib.hid (fun W sb (hW : Below w.heap.size w W) (hs : SubE W sb 0) => close0 hbg hg' hs (hin.later hW))
      have hsh : shp V = true := by have q := hg'; unfold goodT at q; rw [Bool.and_eq_true] at q; exact q.2
      have CV := Lib.hid (fun W (hW : Below w.heap.size w W) => vars_any (Nat.le_refl 7) hbg hsh (hin.later hW))
      have SH := Lib.hid (fun W (Al : Option Addr) (m ca : Nat) A' c' (h : TRow W any0 A' V.args) => sshow_any (Al := Al) (m := m) (ca := ca) (c := c') hbg hsh h)
      obtain ⟨SW, hSW⟩ : ∃ s, s = showT V := ⟨_, rfl⟩
      rw [← hSW] at SH
      obtain ⟨VL, hVL⟩ : ∃ s, s = varsOf V := ⟨_, rfl⟩
      rw [← hVL] at CV CZ
      clear hSW hVL hsh
      have CC := Lib.hid (fun (W : World) (Ae : Option Addr) (ce ge ca0 sb : Nat) (h1 : W.heap[ge]? = some (.cells #[.slice none 0 0, .int .i64 V.k, .string V.nm, .int .i64 V.vr, .slice Ae V.args.length ce] SchT (0, 0))) (h2 : TRow W any0 Ae V.args) (hW : Below w.heap.size w W) (hs : SubE W sb 0) => close1 (ca0 := ca0) h1 h2 hbg hg' hs (hin.later hW))
      have HG := Lib.hid hg
      unfold tv at CS CG CM CC CZ CV HIN ⊢
      clear hA hin hAw hx hsz hbg hg hg'
      go_enter Tryd.func5, Tryd.ntmps5
      go_wp2_with fail
      refine (HAW.out _).mono ?_; rintro e w1 ⟨rfl, b1⟩
      have B1 := Lib.hid (bt HB.out b1)
      have z1 := (b1.block w.heap.size (by rw [HZ.out]; omega)).trans HX.out
      obtain ⟨x0, x1, x2, x3⟩ := cell4 z1
      have Q1 := Lib.hid (show w.heap.size + 1 ≤ w1.heap.size by have := b1.size; rw [HZ.out] at this; exact this)
      have Z1 := Lib.hid z1
      clear b1 z1
      go_wp2_with fail
      refine (CS.out _ B1.out).mono ?_; rintro e w2 ⟨rfl, b2⟩
      have B2 := Lib.hid (bt B1.out b2)
      have z2 := (b2.block w.heap.size (by have := Q1.out; omega)).trans Z1.out
      have Q2 := Lib.hid (Nat.le_trans Q1.out b2.size)
      have Z2 := Lib.hid z2
      obtain ⟨y0, y1, y2, y3⟩ := cell4 z2
      clear b2 z2 x0 x1 x2 x3
      go_wp2_with fail
      refine (CG.out _ B2.out).mono ?_; rintro e w3 ⟨rfl, b3⟩
      have B3 := Lib.hid (bt B2.out b3)
      have Z3 := Lib.hid ((b3.block w.heap.size (by have := Q2.out; omega)).trans Z2.out)
      have Q3 := Lib.hid (Nat.le_trans Q2.out b3.size)
      clear b3 y0 y1 y2 y3
      go_wp2_with fail
      refine (new_any _).mono ?_; rintro e w4 ⟨rfl, s4, b4⟩
      have B4 := Lib.hid (bt B3.out b4)
      have z4 := (b4.block w.heap.size (by have := Q3.out; omega)).trans Z3.out
      have Q4 := Lib.hid (Nat.le_trans Q3.out b4.size)
      have Z4 := Lib.hid z4
      have S4 := Lib.hid s4
      obtain ⟨y0, y1, y2, y3⟩ := cell4 z4
      obtain ⟨sb, hsb⟩ : ∃ sb, sb = w3.heap.size := ⟨_, rfl⟩
      rw [← hsb] at S4 Q3 ⊢
      have HSB := Lib.hid hsb
      clear b4 z4 s4 hsb y0 y1 y2 y3
      have QW := Lib.hid (show w.heap.size < w4.heap.size by have := Q4.out; omega)
      go_wp2_with fail
      rename_i K hK
      refine Code.wp_mono (Q := Exit.then (fun a' w' => ∃ C Al ca A7 c7 t17 t18 t19 t20 t21 t22, a' = ⟨#[.agg #[.int .i64 V.k, .string V.nm, .int .i64 V.vr, .slice A V.args.length c], .pointer (some ⟨w.heap.size, 0, none⟩), .bool false, .pointer (some ⟨sb, 0, none⟩), .pointer (some ⟨C, 0, none⟩), undef, .bool true, .bool false, .agg #[.int .i64 V.k, .string V.nm, .int .i64 V.vr, .slice A V.args.length c], .bool true, .bool false, .bool false, .agg #[.int .i64 V.k, .string V.nm, .int .i64 V.vr, .slice A V.args.length c], .bool true, .bool false, .bool false, .pointer (some ⟨sb, 0, none⟩), t17, t18, t19, t20, t21, t22, undef, undef, undef, undef, undef, undef, undef, undef, undef, undef, undef, undef, undef, undef, undef, undef, undef, undef, undef, undef, undef, undef, undef, undef, undef, undef, undef, undef, undef], []⟩ ∧ HeldJ w4 w' V 0 C Al ca A7 c7) (fun _ _ _ => False)) ?rest ?_
      case rest =>
        intro e a' W hq
        cases e
        case normal =>
          obtain ⟨C, Al, ca, A7, c7, t17, t18, t19, t20, t21, t22, rfl, HJ⟩ := hq
          show K _ _
          refine hK _ _ ?_
          clear hK K
          have BJ := Lib.hid (bt B4.out HJ.2.2.2)
          have SJ := Lib.hid (S4.out.below HJ.2.2.2)
          have ZJ := Lib.hid ((HJ.2.2.2.block w.heap.size QW.out).trans Z4.out)
          have QJ := Lib.hid (show w.heap.size < W.heap.size from Nat.lt_of_lt_of_le QW.out HJ.2.2.2.size)
          have CJ := Lib.hid HJ.1
          have RJ := Lib.hid HJ.2.2.1
          clear HJ
          obtain ⟨y0, y1, y2, y3⟩ := cell4 ZJ.out
          go_wp2_with fail
          refine (CZ.out _ _ BJ.out SJ.out).mono ?_; rintro e w9 ⟨Al8, ca8, A8, c8, rfl, r8, b9⟩
          unfold scv
          obtain ⟨wD, hwD⟩ : ∃ z, z = w9.alloc (.cells #[.slice Al8 VL.length ca8, .int .i64 V.k, .string V.nm, .int .i64 V.vr, .slice A8 V.args.length c8] SchT) := ⟨_, rfl⟩
          have bD : Below w9.heap.size w9 wD := by rw [hwD]; exact below_alloc _ _
          have D4 := Lib.hid (show wD.heap[w9.heap.size]? = some (.cells #[.slice Al8 VL.length ca8, .int .i64 V.k, .string V.nm, .int .i64 V.vr, .slice A8 V.args.length c8] SchT (0, 0)) by rw [hwD]; exact heap_alloc_new _ _)
          have BD := Lib.hid (bt BJ.out (bt b9 bD))
          have ZD := Lib.hid (((bt b9 bD).block w.heap.size QJ.out).trans ZJ.out)
          have CD := Lib.hid (((bt b9 bD).block C (Array.getElem?_eq_some_iff.1 CJ.out).1).trans CJ.out)
          have RD := Lib.hid (RJ.out.later (bt b9 bD))
          have RE := Lib.hid ((r8.weak (P' := any0) (fun _ _ _ => trivial)).later bD)
          have QD := Lib.hid (show w.heap.size < wD.heap.size ∧ C < wD.heap.size ∧ w9.heap.size < wD.heap.size from ⟨Nat.lt_of_lt_of_le QJ.out (bt b9 bD).size, (Array.getElem?_eq_some_iff.1 CD.out).1, by rw [hwD]; simp⟩)
          have HWD := Lib.hid hwD
          clear b9 r8 bD hwD y0 y1 y2 y3 CC CZ CM CG CS
          have CE := Lib.hid (fun W (hW : Below wD.heap.size wD W) => Same_self (show 7 ≤ 500 by omega) HBG.out (⟨A7, c7, rfl, RD.out.later hW⟩ : TIn W any0 V (.agg #[.int .i64 V.k, .string V.nm, .int .i64 V.vr, .slice A7 V.args.length c7])) (HIN.out.later (bt BD.out hW)))
          have CW := Lib.hid (fun W (hW : Below wD.heap.size wD W) => CV.out W (bt BD.out hW))
          have S1 := Lib.hid (fun W (hW : Below wD.heap.size wD W) => SH.out W Al 0 ca A7 c7 (RD.out.later hW))
          have S2 := Lib.hid (fun W (hW : Below wD.heap.size wD W) => SH.out W Al8 VL.length ca8 A8 c8 (RE.out.later hW))
          unfold scv at S1 S2
          go_wp2_with fail
          rw [← HWD.out]
          refine wp_region_D [23] (fun w' => Below wD.heap.size wD w') (by kernel_rfl) (bdr wD) (fun hHeld => ?_)
          refine WD_take (i := 0) (oi := { dst := some 26, op := Go.Op.fieldAddr 34 (Go.Operand.tmp 4) 0, type := 0, pos := _, after := #[], guard := none }) (v := ?vb0) rfl (by kernel_rfl) (by kernel_rfl) (by kernel_rfl) (by kernel_rfl) (fun _ _ _ h => h) (Or.inl ⟨by rfl, ?hyb0⟩) hHeld ?_
          case hyb0 => (intro wz hSw; (try dsimp only at hSw); go_simp; try with_reducible rfl)
          (try simp only [Act.put, List.setIfInBounds_toArray, List.set_cons_zero, List.set_cons_succ])
          refine WD_take (i := 1) (oi := { dst := some 27, op := Go.Op.load 32 (Go.Operand.tmp 26), type := 32, pos := _, after := #[{ on := 0, ground := Go.Ground.data }], guard := none }) (v := ?vb1) rfl (by kernel_rfl) (by kernel_rfl) (by kernel_rfl) (by kernel_rfl) (fun _ _ _ h => h) (Or.inl ⟨by rfl, ?hyb1⟩) hHeld ?_
          case hyb1 => (intro wz hSw; (try dsimp only at hSw); have zc := (five_cells ((hSw.block _ QD.out.2.1).trans CD.out)).1; have z0 := zc.1; have z1 := zc.2.1; have z2 := zc.2.2.1; have z3 := zc.2.2.2.1; have z4 := zc.2.2.2.2; clear zc; go_simp; try with_reducible rfl)
          (try simp only [Act.put, List.setIfInBounds_toArray, List.set_cons_zero, List.set_cons_succ])
          refine WD_take (i := 2) (oi := { dst := some 28, op := Go.Op.call { callee := Go.Callee.builtin Go.Builtin.len, args := #[Go.Operand.tmp 27], argTypes := #[32] }, type := 3, pos := _, after := #[{ on := 1, ground := Go.Ground.data }], guard := none }) (v := ?vb2) rfl (by kernel_rfl) (by kernel_rfl) (by kernel_rfl) (by kernel_rfl) (fun _ _ _ h => h) (Or.inl ⟨by rfl, ?hyb2⟩) hHeld ?_
          case hyb2 => (intro wz hSw; (try dsimp only at hSw); go_simp; try with_reducible rfl)
          (try simp only [Act.put, List.setIfInBounds_toArray, List.set_cons_zero, List.set_cons_succ])
          refine WD_take (i := 3) (oi := { dst := some 29, op := Go.Op.binOp Go.BinOp.eql 3 (Go.Operand.tmp 28) (Go.Operand.const (Go.Value.int Go.IntKind.i64 0)) 3, type := 4, pos := _, after := #[{ on := 2, ground := Go.Ground.data }], guard := none }) (v := ?vb3) rfl (by kernel_rfl) (by kernel_rfl) (by kernel_rfl) (by kernel_rfl) (fun _ _ _ h => h) (Or.inl ⟨by rfl, ?hyb3⟩) hHeld ?_
          case hyb3 => (intro wz hSw; (try dsimp only at hSw); go_simp; try with_reducible rfl)
          (try simp only [Act.put, List.setIfInBounds_toArray, List.set_cons_zero, List.set_cons_succ])
          refine WD_take (i := 4) (oi := { dst := some 30, op := Go.Op.move (Go.Operand.tmp 29), type := 4, pos := _, after := #[{ on := 3, ground := Go.Ground.data }], guard := none }) (v := ?vb4) rfl (by kernel_rfl) (by kernel_rfl) (by kernel_rfl) (by kernel_rfl) (fun _ _ _ h => h) (Or.inl ⟨by rfl, ?hyb4⟩) hHeld ?_
          case hyb4 => (intro wz hSw; (try dsimp only at hSw); go_simp; try with_reducible rfl)
          (try simp only [Act.put, List.setIfInBounds_toArray, List.set_cons_zero, List.set_cons_succ])
          refine WD_take (i := 5) (oi := { dst := some 31, op := Go.Op.fieldAddr 34 (Go.Operand.tmp 4) 1, type := 0, pos := _, after := #[{ on := 4, ground := Go.Ground.guard }], guard := some (4, true) }) (v := ?vb5) rfl (by kernel_rfl) (by kernel_rfl) (by kernel_rfl) (by kernel_rfl) (fun _ _ _ h => h) (Or.inl ⟨by rfl, ?hyb5⟩) hHeld ?_
          case hyb5 => (intro wz hSw; (try dsimp only at hSw); go_simp; try with_reducible rfl)
          (try simp only [Act.put, List.setIfInBounds_toArray, List.set_cons_zero, List.set_cons_succ])
          refine WD_take (i := 6) (oi := { dst := some 32, op := Go.Op.load 24 (Go.Operand.tmp 31), type := 24, pos := _, after := #[{ on := 5, ground := Go.Ground.data }, { on := 4, ground := Go.Ground.guard }], guard := some (4, true) }) (v := ?vb6) rfl (by kernel_rfl) (by kernel_rfl) (by kernel_rfl) (by kernel_rfl) (fun _ _ _ h => h) (Or.inl ⟨by rfl, ?hyb6⟩) hHeld ?_
          case hyb6 => (intro wz hSw; (try dsimp only at hSw); have zc := (five_cells ((hSw.block _ QD.out.2.1).trans CD.out)).1; have z0 := zc.1; have z1 := zc.2.1; have z2 := zc.2.2.1; have z3 := zc.2.2.2.1; have z4 := zc.2.2.2.2; clear zc; go_simp; try with_reducible rfl)
          (try simp only [Act.put, List.setIfInBounds_toArray, List.set_cons_zero, List.set_cons_succ])
          refine WD_take (i := 7) (oi := { dst := some 33, op := Go.Op.load 24 (Go.Operand.tmp 1), type := 24, pos := _, after := #[{ on := 4, ground := Go.Ground.guard }], guard := some (4, true) }) (v := ?vb7) rfl (by kernel_rfl) (by kernel_rfl) (by kernel_rfl) (by kernel_rfl) (fun _ _ _ h => h) (Or.inl ⟨by rfl, ?hyb7⟩) hHeld ?_
          case hyb7 => (intro wz hSw; (try dsimp only at hSw); have zc := cell4 ((hSw.block _ QD.out.1).trans ZD.out); have z0 := zc.1; have z1 := zc.2.1; have z2 := zc.2.2.1; have z3 := zc.2.2.2; clear zc; go_simp; try with_reducible rfl)
          (try simp only [Act.put, List.setIfInBounds_toArray, List.set_cons_zero, List.set_cons_succ])
          refine WD_ready (rs := [8]) (by kernel_rfl) (by simp) ?_
          refine AllD.cons (o := { dst := some 34, op := Go.Op.call { callee := Go.Callee.value (Go.Operand.func 18), args := #[Go.Operand.tmp 32, Go.Operand.tmp 33], argTypes := #[24, 24] }, type := 4, pos := _, after := #[{ on := 6, ground := Go.Ground.data }, { on := 7, ground := Go.Ground.data }, { on := 4, ground := Go.Ground.chain }, { on := 4, ground := Go.Ground.guard }], guard := some (4, true) }) rfl (fun K hK => ?_) AllD.nil
          rw [if_pos (by rfl)]
          go_simp
          refine (CE.out _ hHeld).mono ?_; rintro e w10 ⟨rfl, b10⟩
          try go_wp2_with fail
          refine hK.out _ _ (bt hHeld b10) (fun hHeld => ?_)
          clear hK K
          (try simp only [Act.put, List.setIfInBounds_toArray, List.set_cons_zero, List.set_cons_succ])
          clear b10
          refine WD_take (i := 9) (oi := { dst := some 35, op := Go.Op.pick (Go.Operand.tmp 30) (Go.Operand.tmp 34) (Go.Operand.const (Go.Value.bool false)), type := 4, pos := _, after := #[{ on := 4, ground := Go.Ground.data }, { on := 8, ground := Go.Ground.data }], guard := none }) (v := ?vb9) rfl (by kernel_rfl) (by kernel_rfl) (by kernel_rfl) (by kernel_rfl) (fun _ _ _ h => h) (Or.inl ⟨by rfl, ?hyb9⟩) hHeld ?_
          case hyb9 => (intro wz hSw; (try dsimp only at hSw); go_simp; try with_reducible rfl)
          (try simp only [Act.put, List.setIfInBounds_toArray, List.set_cons_zero, List.set_cons_succ])
          refine WD_take (i := 10) (oi := { dst := some 36, op := Go.Op.move (Go.Operand.tmp 35), type := 4, pos := _, after := #[{ on := 9, ground := Go.Ground.data }, { on := 8, ground := Go.Ground.chain }], guard := none }) (v := ?vb10) rfl (by kernel_rfl) (by kernel_rfl) (by kernel_rfl) (by kernel_rfl) (fun _ _ _ h => h) (Or.inl ⟨by rfl, ?hyb10⟩) hHeld ?_
          case hyb10 => (intro wz hSw; (try dsimp only at hSw); go_simp; try with_reducible rfl)
          (try simp only [Act.put, List.setIfInBounds_toArray, List.set_cons_zero, List.set_cons_succ])
          refine WD_take (i := 11) (oi := { dst := some 37, op := Go.Op.fieldAddr 34 (Go.Operand.tmp 5) 0, type := 0, pos := _, after := #[{ on := 10, ground := Go.Ground.guard }], guard := some (10, true) }) (v := ?vb11) rfl (by kernel_rfl) (by kernel_rfl) (by kernel_rfl) (by kernel_rfl) (fun _ _ _ h => h) (Or.inl ⟨by rfl, ?hyb11⟩) hHeld ?_
          case hyb11 => (intro wz hSw; (try dsimp only at hSw); go_simp; try with_reducible rfl)
          (try simp only [Act.put, List.setIfInBounds_toArray, List.set_cons_zero, List.set_cons_succ])
          refine WD_take (i := 12) (oi := { dst := some 38, op := Go.Op.load 32 (Go.Operand.tmp 37), type := 32, pos := _, after := #[{ on := 11, ground := Go.Ground.data }, { on := 10, ground := Go.Ground.guard }], guard := some (10, true) }) (v := ?vb12) rfl (by kernel_rfl) (by kernel_rfl) (by kernel_rfl) (by kernel_rfl) (fun _ _ _ h => h) (Or.inl ⟨by rfl, ?hyb12⟩) hHeld ?_
          case hyb12 => (intro wz hSw; (try dsimp only at hSw); have zc := (five_cells ((hSw.block _ QD.out.2.2).trans D4.out)).1; have z0 := zc.1; have z1 := zc.2.1; have z2 := zc.2.2.1; have z3 := zc.2.2.2.1; have z4 := zc.2.2.2.2; clear zc; go_simp; try with_reducible rfl)
          (try simp only [Act.put, List.setIfInBounds_toArray, List.set_cons_zero, List.set_cons_succ])
          refine WD_take (i := 13) (oi := { dst := some 39, op := Go.Op.call { callee := Go.Callee.builtin Go.Builtin.len, args := #[Go.Operand.tmp 38], argTypes := #[32] }, type := 3, pos := _, after := #[{ on := 12, ground := Go.Ground.data }, { on := 10, ground := Go.Ground.guard }], guard := some (10, true) }) (v := ?vb13) rfl (by kernel_rfl) (by kernel_rfl) (by kernel_rfl) (by kernel_rfl) (fun _ _ _ h => h) (Or.inl ⟨by rfl, ?hyb13⟩) hHeld ?_
          case hyb13 => (intro wz hSw; (try dsimp only at hSw); go_simp; try with_reducible rfl)
          (try simp only [Act.put, List.setIfInBounds_toArray, List.set_cons_zero, List.set_cons_succ])
          refine WD_take (i := 14) (oi := { dst := some 40, op := Go.Op.load 24 (Go.Operand.tmp 1), type := 24, pos := _, after := #[{ on := 10, ground := Go.Ground.guard }], guard := some (10, true) }) (v := ?vb14) rfl (by kernel_rfl) (by kernel_rfl) (by kernel_rfl) (by kernel_rfl) (fun _ _ _ h => h) (Or.inl ⟨by rfl, ?hyb14⟩) hHeld ?_
          case hyb14 => (intro wz hSw; (try dsimp only at hSw); have zc := cell4 ((hSw.block _ QD.out.1).trans ZD.out); have z0 := zc.1; have z1 := zc.2.1; have z2 := zc.2.2.1; have z3 := zc.2.2.2; clear zc; go_simp; try with_reducible rfl)
          (try simp only [Act.put, List.setIfInBounds_toArray, List.set_cons_zero, List.set_cons_succ])
          refine WD_ready (rs := [15]) (by kernel_rfl) (by simp) ?_
          refine AllD.cons (o := { dst := some 41, op := Go.Op.call { callee := Go.Callee.value (Go.Operand.func 13), args := #[Go.Operand.tmp 40], argTypes := #[24] }, type := 32, pos := _, after := #[{ on := 14, ground := Go.Ground.data }, { on := 10, ground := Go.Ground.chain }, { on := 10, ground := Go.Ground.guard }], guard := some (10, true) }) rfl (fun K hK => ?_) AllD.nil
          rw [if_pos (by rfl)]
          go_simp
          refine (CW.out _ hHeld).mono ?_; rintro e w11 ⟨A11, c11, rfl, o11, b11⟩
          try go_wp2_with fail
          refine hK.out _ _ (bt hHeld b11.out) (fun hHeld => ?_)
          clear hK K
          (try simp only [Act.put, List.setIfInBounds_toArray, List.set_cons_zero, List.set_cons_succ])
          clear b11 o11
          refine WD_take (i := 16) (oi := { dst := some 42, op := Go.Op.call { callee := Go.Callee.builtin Go.Builtin.len, args := #[Go.Operand.tmp 41], argTypes := #[32] }, type := 3, pos := _, after := #[{ on := 15, ground := Go.Ground.data }, { on := 10, ground := Go.Ground.guard }], guard := some (10, true) }) (v := ?vb16) rfl (by kernel_rfl) (by kernel_rfl) (by kernel_rfl) (by kernel_rfl) (fun _ _ _ h => h) (Or.inl ⟨by rfl, ?hyb16⟩) hHeld ?_
          case hyb16 => (intro wz hSw; (try dsimp only at hSw); go_simp; try with_reducible rfl)
          (try simp only [Act.put, List.setIfInBounds_toArray, List.set_cons_zero, List.set_cons_succ])
          refine WD_take (i := 17) (oi := { dst := some 43, op := Go.Op.binOp Go.BinOp.eql 3 (Go.Operand.tmp 39) (Go.Operand.tmp 42) 3, type := 4, pos := _, after := #[{ on := 13, ground := Go.Ground.data }, { on := 16, ground := Go.Ground.data }, { on := 10, ground := Go.Ground.guard }], guard := some (10, true) }) (v := ?vb17) rfl (by kernel_rfl) (by kernel_rfl) (by kernel_rfl) (by kernel_rfl) (fun _ _ _ h => h) (Or.inl ⟨by rfl, ?hyb17⟩) hHeld ?_
          case hyb17 => (intro wz hSw; (try dsimp only at hSw); go_simp; try with_reducible rfl)
          (try simp only [Act.put, List.setIfInBounds_toArray, List.set_cons_zero, List.set_cons_succ])
          refine WD_take (i := 18) (oi := { dst := some 44, op := Go.Op.pick (Go.Operand.tmp 36) (Go.Operand.tmp 43) (Go.Operand.const (Go.Value.bool false)), type := 4, pos := _, after := #[{ on := 10, ground := Go.Ground.data }, { on := 17, ground := Go.Ground.data }], guard := none }) (v := ?vb18) rfl (by kernel_rfl) (by kernel_rfl) (by kernel_rfl) (by kernel_rfl) (fun _ _ _ h => h) (Or.inl ⟨by rfl, ?hyb18⟩) hHeld ?_
          case hyb18 => (intro wz hSw; (try dsimp only at hSw); go_simp; try with_reducible rfl)
          (try simp only [Act.put, List.setIfInBounds_toArray, List.set_cons_zero, List.set_cons_succ])
          refine WD_take (i := 19) (oi := { dst := some 45, op := Go.Op.move (Go.Operand.tmp 44), type := 4, pos := _, after := #[{ on := 18, ground := Go.Ground.data }, { on := 15, ground := Go.Ground.chain }], guard := none }) (v := ?vb19) rfl (by kernel_rfl) (by kernel_rfl) (by kernel_rfl) (by kernel_rfl) (fun _ _ _ h => h) (Or.inl ⟨by rfl, ?hyb19⟩) hHeld ?_
          case hyb19 => (intro wz hSw; (try dsimp only at hSw); go_simp; try with_reducible rfl)
          (try simp only [Act.put, List.setIfInBounds_toArray, List.set_cons_zero, List.set_cons_succ])
          refine WD_take (i := 20) (oi := { dst := some 46, op := Go.Op.load 34 (Go.Operand.tmp 4), type := 34, pos := _, after := #[{ on := 19, ground := Go.Ground.guard }], guard := some (19, true) }) (v := ?vb20) rfl (by kernel_rfl) (by kernel_rfl) (by kernel_rfl) (by kernel_rfl) (fun _ _ _ h => h) (Or.inl ⟨by rfl, ?hyb20⟩) hHeld ?_
          case hyb20 => (intro wz hSw; (try dsimp only at hSw); have zc := (five_cells ((hSw.block _ QD.out.2.1).trans CD.out)).1; have z0 := zc.1; have z1 := zc.2.1; have z2 := zc.2.2.1; have z3 := zc.2.2.2.1; have z4 := zc.2.2.2.2; clear zc; go_simp; try with_reducible rfl)
          (try simp only [Act.put, List.setIfInBounds_toArray, List.set_cons_zero, List.set_cons_succ])
          refine WD_take (i := 22) (oi := { dst := some 48, op := Go.Op.load 34 (Go.Operand.tmp 5), type := 34, pos := _, after := #[{ on := 19, ground := Go.Ground.guard }], guard := some (19, true) }) (v := ?vb22) rfl (by kernel_rfl) (by kernel_rfl) (by kernel_rfl) (by kernel_rfl) (fun _ _ _ h => h) (Or.inl ⟨by rfl, ?hyb22⟩) hHeld ?_
          case hyb22 => (intro wz hSw; (try dsimp only at hSw); have zc := (five_cells ((hSw.block _ QD.out.2.2).trans D4.out)).1; have z0 := zc.1; have z1 := zc.2.1; have z2 := zc.2.2.1; have z3 := zc.2.2.2.1; have z4 := zc.2.2.2.2; clear zc; go_simp; try with_reducible rfl)
          (try simp only [Act.put, List.setIfInBounds_toArray, List.set_cons_zero, List.set_cons_succ])
          refine WD_ready (rs := [21]) (by kernel_rfl) (by simp) ?_
          refine AllD.cons (o := { dst := some 47, op := Go.Op.call { callee := Go.Callee.value (Go.Operand.func 20), args := #[Go.Operand.tmp 46], argTypes := #[34] }, type := 9, pos := _, after := #[{ on := 20, ground := Go.Ground.data }, { on := 19, ground := Go.Ground.chain }, { on := 19, ground := Go.Ground.guard }], guard := some (19, true) }) rfl (fun K hK => ?_) AllD.nil
          rw [if_pos (by rfl)]
          go_simp
          refine (S1.out _ hHeld).mono ?_; rintro e w12 ⟨rfl, b12⟩
          try go_wp2_with fail
          refine hK.out _ _ (bt hHeld b12) (fun hHeld => ?_)
          clear hK K
          (try simp only [Act.put, List.setIfInBounds_toArray, List.set_cons_zero, List.set_cons_succ])
          clear b12
          have H22 := Lib.hid hHeld
          refine WD_ready (rs := [23]) (by kernel_rfl) (by simp) ?_
          refine AllD.last (o := { dst := some 49, op := Go.Op.call { callee := Go.Callee.value (Go.Operand.func 20), args := #[Go.Operand.tmp 48], argTypes := #[34] }, type := 9, pos := _, after := #[{ on := 22, ground := Go.Ground.data }, { on := 21, ground := Go.Ground.chain }, { on := 19, ground := Go.Ground.guard }], guard := some (19, true) }) rfl (by kernel_rfl) (fun K hK => ?_) AllD.nil
          rw [if_pos (by rfl)]
          go_simp
          refine (S2.out _ H22.out).mono ?_; rintro e w13 ⟨rfl, b13⟩
          try go_wp2_with fail
          refine hK.out _ _ ?_
          clear hK K
          (try simp only [Act.put, List.setIfInBounds_toArray, List.set_cons_zero, List.set_cons_succ])
          refine WD_takeAny (i := 24) (oi := { dst := some 50, op := Go.Op.binOp Go.BinOp.eql 9 (Go.Operand.tmp 47) (Go.Operand.tmp 49) 9, type := 4, pos := _, after := #[{ on := 21, ground := Go.Ground.data }, { on := 23, ground := Go.Ground.data }, { on := 19, ground := Go.Ground.guard }], guard := some (19, true) }) (v := ?vb24) rfl (by kernel_rfl) (by kernel_rfl) (by kernel_rfl) (by kernel_rfl) (fun _ _ _ h => h) (Or.inl ⟨by rfl, ?hyb24⟩) ?_
          case hyb24 => (intro wz _; go_simp; try with_reducible rfl)
          (try simp only [Act.put, List.setIfInBounds_toArray, List.set_cons_zero, List.set_cons_succ])
          refine WD_takeAny (i := 25) (oi := { dst := some 51, op := Go.Op.pick (Go.Operand.tmp 45) (Go.Operand.tmp 50) (Go.Operand.const (Go.Value.bool false)), type := 4, pos := _, after := #[{ on := 19, ground := Go.Ground.data }, { on := 24, ground := Go.Ground.data }], guard := none }) (v := ?vb25) rfl (by kernel_rfl) (by kernel_rfl) (by kernel_rfl) (by kernel_rfl) (fun _ _ _ h => h) (Or.inl ⟨by rfl, ?hyb25⟩) ?_
          case hyb25 => (intro wz _; go_simp; try with_reducible rfl)
          (try simp only [Act.put, List.setIfInBounds_toArray, List.set_cons_zero, List.set_cons_succ])
          refine WD_takeAny (i := 26) (oi := { dst := some 2, op := Go.Op.assign (Go.Operand.tmp 51), type := 4, pos := _, after := #[{ on := 25, ground := Go.Ground.data }, { on := 23, ground := Go.Ground.chain }, { on := 0, ground := Go.Ground.phase }, { on := 1, ground := Go.Ground.phase }, { on := 2, ground := Go.Ground.phase }, { on := 3, ground := Go.Ground.phase }, { on := 4, ground := Go.Ground.phase }, { on := 5, ground := Go.Ground.phase }, { on := 6, ground := Go.Ground.phase }, { on := 7, ground := Go.Ground.phase }, { on := 8, ground := Go.Ground.phase }, { on := 9, ground := Go.Ground.phase }, { on := 10, ground := Go.Ground.phase }, { on := 11, ground := Go.Ground.phase }, { on := 12, ground := Go.Ground.phase }, { on := 13, ground := Go.Ground.phase }, { on := 14, ground := Go.Ground.phase }, { on := 15, ground := Go.Ground.phase }, { on := 16, ground := Go.Ground.phase }, { on := 17, ground := Go.Ground.phase }, { on := 18, ground := Go.Ground.phase }, { on := 19, ground := Go.Ground.phase }, { on := 20, ground := Go.Ground.phase }, { on := 21, ground := Go.Ground.phase }, { on := 22, ground := Go.Ground.phase }, { on := 23, ground := Go.Ground.phase }, { on := 24, ground := Go.Ground.phase }, { on := 25, ground := Go.Ground.phase }], guard := none }) (v := ?vb26) rfl (by kernel_rfl) (by kernel_rfl) (by kernel_rfl) (by kernel_rfl) (fun _ _ _ h => h) (Or.inl ⟨by rfl, ?hyb26⟩) ?_
          case hyb26 => (intro wz _; go_simp; try with_reducible rfl)
          (try simp only [Act.put, List.setIfInBounds_toArray, List.set_cons_zero, List.set_cons_succ])
          refine WD_done (by kernel_rfl) ?_ _
          have HE := bt H22.out b13
          clear b13 H22
          have FIN := Lib.hid (bt BD.out HE)
          clear HE
          go_wp2
          go_ret
          exact ⟨rfl, FIN.out⟩
        all_goals exact hq.elim
      clear hK K
      refine wp_region_D [7] (fun w' => Below w4.heap.size w4 w') (by kernel_rfl) (bdr w4) (fun hHeld => ?_)
      refine WD_take (i := 0) (oi := { dst := some 17, op := Go.Op.move (Go.Operand.tmp 3), type := 29, pos := _, after := #[], guard := none }) (v := ?va0) rfl (by kernel_rfl) (by kernel_rfl) (by kernel_rfl) (by kernel_rfl) (fun _ _ _ h => h) (Or.inl ⟨by rfl, ?hya0⟩) hHeld ?_
      case hya0 => (intro wz hSw; (try dsimp only at hSw); go_simp; try with_reducible rfl)
      (try simp only [Act.put, List.setIfInBounds_toArray, List.set_cons_zero, List.set_cons_succ])
      refine WD_take (i := 1) (oi := { dst := some 18, op := Go.Op.load 24 (Go.Operand.tmp 1), type := 24, pos := _, after := #[], guard := none }) (v := ?va1) rfl (by kernel_rfl) (by kernel_rfl) (by kernel_rfl) (by kernel_rfl) (fun _ _ _ h => h) (Or.inl ⟨by rfl, ?hya1⟩) hHeld ?_
      case hya1 => (intro wz hSw; (try dsimp only at hSw); have zc := cell4 ((hSw.block _ QW.out).trans Z4.out); have z0 := zc.1; have z1 := zc.2.1; have z2 := zc.2.2.1; have z3 := zc.2.2.2; clear zc; go_simp; try with_reducible rfl)
      (try simp only [Act.put, List.setIfInBounds_toArray, List.set_cons_zero, List.set_cons_succ])
      refine WD_take (i := 2) (oi := { dst := some 19, op := Go.Op.load 24 (Go.Operand.tmp 1), type := 24, pos := _, after := #[], guard := none }) (v := ?va2) rfl (by kernel_rfl) (by kernel_rfl) (by kernel_rfl) (by kernel_rfl) (fun _ _ _ h => h) (Or.inl ⟨by rfl, ?hya2⟩) hHeld ?_
      case hya2 => (intro wz hSw; (try dsimp only at hSw); have zc := cell4 ((hSw.block _ QW.out).trans Z4.out); have z0 := zc.1; have z1 := zc.2.1; have z2 := zc.2.2.1; have z3 := zc.2.2.2; clear zc; go_simp; try with_reducible rfl)
      (try simp only [Act.put, List.setIfInBounds_toArray, List.set_cons_zero, List.set_cons_succ])
      obtain ⟨w_0, hw_0⟩ : ∃ z, z = w4.drew := ⟨_, rfl⟩
      rw [← hw_0] at hHeld ⊢
      clear hw_0
      have B_0 := Lib.hid hHeld
      clear hHeld
      refine WD_ready (rs := [3, 6]) (by kernel_rfl) (by simp) ?_
      refine AllD.cons (o := { dst := some 20, op := Go.Op.call { callee := Go.Callee.value (Go.Operand.func 17), args := #[Go.Operand.tmp 19], argTypes := #[24] }, type := 34, pos := _, after := #[{ on := 2, ground := Go.Ground.data }], guard := none }) rfl (fun K hK => ?_) (AllD.cons (o := { dst := some 4, op := Go.Op.alloc 34, type := 0, pos := _, after := #[], guard := none }) rfl (fun K hK => ?_) AllD.nil)
      · rw [if_pos (by rfl)]
        go_simp
        refine (CM.out _ (bt B4.out B_0.out)).mono ?_; rintro e w_1 ⟨A5, c5, rfl, r_1, l_1⟩
        unfold scv
        try go_wp2_with fail
        refine hK.out _ _ (bt B_0.out l_1) (fun hHeld => ?_)
        clear hK K
        (try simp only [Act.put, List.setIfInBounds_toArray, List.set_cons_zero, List.set_cons_succ])
        have B_1 := Lib.hid hHeld
        have L_1 := Lib.hid l_1
        have R_1 := Lib.hid (r_1.weak (P' := any0) (fun _ _ _ => trivial))
        clear hHeld l_1 r_1
        refine WD_ready (rs := [4, 6]) (by kernel_rfl) (by simp) ?_
        refine AllD.cons (o := { dst := some 21, op := Go.Op.buildSlice 25 1 #[(0, Go.Operand.tmp 20)], type := 25, pos := _, after := #[{ on := 3, ground := Go.Ground.data }], guard := none }) rfl (fun K hK => ?_) (AllD.cons (o := { dst := some 4, op := Go.Op.alloc 34, type := 0, pos := _, after := #[], guard := none }) rfl (fun K hK => ?_) AllD.nil)
        · rw [if_pos (by rfl)]
          go_simp
          refine hK.out _ _ (bt B_1.out (below_alloc w_1 _)) (fun hHeld => ?_)
          clear hK K
          (try simp only [Act.put, List.setIfInBounds_toArray, List.set_cons_zero, List.set_cons_succ])
          obtain ⟨w_2, hw_2⟩ : ∃ z, z = w_1.alloc (.cells #[.slice none 0 0, .int .i64 V.k, .string V.nm, .int .i64 V.vr, .slice A5 V.args.length c5] SchT) := ⟨_, rfl⟩
          try rw [← hw_2] at hHeld
          try rw [← hw_2]
          have B_2 := Lib.hid hHeld
          have L_2 : Hid (Below w_1.heap.size w_1 w_2) := Lib.hid (by rw [hw_2]; exact below_alloc w_1 _)
          have N_2 : Hid (w_2.heap[w_1.heap.size]? = some (.cells #[.slice none 0 0, .int .i64 V.k, .string V.nm, .int .i64 V.vr, .slice A5 V.args.length c5] SchT (0, 0))) := Lib.hid (by rw [hw_2]; exact heap_alloc_new w_1 _)
          have R_2 := Lib.hid (R_1.out.later L_2.out)
          obtain ⟨ge, hge_2⟩ : ∃ g, g = w_1.heap.size := ⟨_, rfl⟩
          rw [← hge_2] at N_2 ⊢
          clear hge_2
          clear hHeld hw_2
          refine WD_ready (rs := [5, 6]) (by kernel_rfl) (by simp) ?_
          refine AllD.cons (o := { dst := some 22, op := Go.Op.call { callee := Go.Callee.value (Go.Operand.func 14), args := #[Go.Operand.tmp 17, Go.Operand.tmp 18, Go.Operand.tmp 21], argTypes := #[29, 24, 25] }, type := 34, pos := _, after := #[{ on := 0, ground := Go.Ground.data }, { on := 1, ground := Go.Ground.data }, { on := 4, ground := Go.Ground.data }, { on := 3, ground := Go.Ground.chain }], guard := none }) rfl (fun K hK => ?_) (AllD.cons (o := { dst := some 4, op := Go.Op.alloc 34, type := 0, pos := _, after := #[], guard := none }) rfl (fun K hK => ?_) AllD.nil)
          · rw [if_pos (by rfl)]
            go_simp
            refine (CC.out _ _ _ _ 1 _ N_2.out R_2.out (bt B4.out B_2.out) (S4.out.below B_2.out)).mono ?_; rintro e w_3 ⟨Al7, ca7, A7, c7, rfl, r_3, l_3⟩
            unfold scv
            try go_wp2_with fail
            refine hK.out _ _ (bt B_2.out l_3) (fun hHeld => ?_)
            clear hK K
            (try simp only [Act.put, List.setIfInBounds_toArray, List.set_cons_zero, List.set_cons_succ])
            have B_3 := Lib.hid hHeld
            have L_3 := Lib.hid l_3
            have R_3 := Lib.hid (R_2.out.later L_3.out)
            have G_3 := Lib.hid ((L_3.out.block _ (Array.getElem?_eq_some_iff.1 N_2.out).1).trans N_2.out)
            have T_3 := Lib.hid (r_3.weak (P' := any0) (fun _ _ _ => trivial))
            clear hHeld l_3 r_3
            refine WD_ready (rs := [6]) (by kernel_rfl) (by simp) ?_
            refine AllD.cons (o := { dst := some 4, op := Go.Op.alloc 34, type := 0, pos := _, after := #[], guard := none }) rfl (fun K hK => ?_) AllD.nil
            · rw [if_pos (by rfl)]
              go_simp
              refine hK.out _ _ (bt B_3.out (below_alloc w_3 _)) (fun hHeld => ?_)
              clear hK K
              (try simp only [Act.put, List.setIfInBounds_toArray, List.set_cons_zero, List.set_cons_succ])
              obtain ⟨w_4, hw_4⟩ : ∃ z, z = w_3.alloc (.cells #[.slice none 0 0, .int .i64 0, .string ⟨#[]⟩, .int .i64 0, .slice none 0 0] SchT) := ⟨_, rfl⟩
              try rw [← hw_4] at hHeld
              try rw [← hw_4]
              have B_4 := Lib.hid hHeld
              have L_4 : Hid (Below w_3.heap.size w_3 w_4) := Lib.hid (by rw [hw_4]; exact below_alloc w_3 _)
              have N_4 : Hid (w_4.heap[w_3.heap.size]? = some (.cells #[.slice none 0 0, .int .i64 0, .string ⟨#[]⟩, .int .i64 0, .slice none 0 0] SchT (0, 0))) := Lib.hid (by rw [hw_4]; exact heap_alloc_new w_3 _)
              have R_4 := Lib.hid (R_3.out.later L_4.out)
              have G_4 := Lib.hid ((L_4.out.block _ (Array.getElem?_eq_some_iff.1 G_3.out).1).trans G_3.out)
              obtain ⟨C, hC_4⟩ : ∃ C, C = w_3.heap.size := ⟨_, rfl⟩
              rw [← hC_4] at N_4 ⊢
              have ZC_4 : Hid (w4.heap.size ≤ C) := Lib.hid (by rw [hC_4]; exact B_3.out.size)
              have T_4 : Hid (TRow w_4 (· ≠ C) A7 V.args) := Lib.hid (T_3.out.move (fun b hb _ => ⟨L_4.out.block b hb, by have h0 := hb; rw [← hC_4] at h0; exact Nat.ne_of_lt h0⟩) L_4.out.size)
              clear hC_4
              clear hHeld hw_4
              obtain ⟨⟨y0, y1, y2, y3, y4⟩, k0, k1, k2, k3, k4⟩ := five_cells N_4.out
              refine WD_ready (rs := [7]) (by kernel_rfl) (by simp) ?_
              refine AllD.last (o := { dst := none, op := Go.Op.store 34 (Go.Operand.tmp 4) (Go.Operand.tmp 22), type := 0, pos := _, after := #[{ on := 6, ground := Go.Ground.data }, { on := 5, ground := Go.Ground.data }, { on := 5, ground := Go.Ground.chain }, { on := 0, ground := Go.Ground.phase }, { on := 1, ground := Go.Ground.phase }, { on := 2, ground := Go.Ground.phase }, { on := 3, ground := Go.Ground.phase }, { on := 4, ground := Go.Ground.phase }, { on := 5, ground := Go.Ground.phase }, { on := 6, ground := Go.Ground.phase }], guard := none }) rfl (by kernel_rfl) (fun K hK => ?_) AllD.nil
              rw [if_pos (by rfl)]
              go_simp
              refine hK.out _ _ ?_
              clear hK K
              (try simp only [Act.put, List.setIfInBounds_toArray, List.set_cons_zero, List.set_cons_succ])
              refine WD_done (by kernel_rfl) ?_ _
              refine ⟨C, Al7, ca7, A7, c7, _, _, _, _, _, _, by rfl, ?_⟩
              exact held_store N_4.out ZC_4.out B_4.out T_4.out
          · rw [if_pos (by rfl)]
            go_simp
            refine hK.out _ _ (bt B_2.out (below_alloc w_2 _)) (fun hHeld => ?_)
            clear hK K
            (try simp only [Act.put, List.setIfInBounds_toArray, List.set_cons_zero, List.set_cons_succ])
            obtain ⟨w_5, hw_5⟩ : ∃ z, z = w_2.alloc (.cells #[.slice none 0 0, .int .i64 0, .string ⟨#[]⟩, .int .i64 0, .slice none 0 0] SchT) := ⟨_, rfl⟩
            try rw [← hw_5] at hHeld
            try rw [← hw_5]
            have B_5 := Lib.hid hHeld
            have L_5 : Hid (Below w_2.heap.size w_2 w_5) := Lib.hid (by rw [hw_5]; exact below_alloc w_2 _)
            have N_5 : Hid (w_5.heap[w_2.heap.size]? = some (.cells #[.slice none 0 0, .int .i64 0, .string ⟨#[]⟩, .int .i64 0, .slice none 0 0] SchT (0, 0))) := Lib.hid (by rw [hw_5]; exact heap_alloc_new w_2 _)
            have R_5 := Lib.hid (R_2.out.later L_5.out)
            have G_5 := Lib.hid ((L_5.out.block _ (Array.getElem?_eq_some_iff.1 N_2.out).1).trans N_2.out)
            obtain ⟨C, hC_5⟩ : ∃ C, C = w_2.heap.size := ⟨_, rfl⟩
            rw [← hC_5] at N_5 ⊢
            have ZC_5 : Hid (w4.heap.size ≤ C) := Lib.hid (by rw [hC_5]; exact B_2.out.size)
            clear hC_5
            clear hHeld hw_5
            refine WD_ready (rs := [5]) (by kernel_rfl) (by simp) ?_
            refine AllD.cons (o := { dst := some 22, op := Go.Op.call { callee := Go.Callee.value (Go.Operand.func 14), args := #[Go.Operand.tmp 17, Go.Operand.tmp 18, Go.Operand.tmp 21], argTypes := #[29, 24, 25] }, type := 34, pos := _, after := #[{ on := 0, ground := Go.Ground.data }, { on := 1, ground := Go.Ground.data }, { on := 4, ground := Go.Ground.data }, { on := 3, ground := Go.Ground.chain }], guard := none }) rfl (fun K hK => ?_) AllD.nil
            · rw [if_pos (by rfl)]
              go_simp
              refine (CC.out _ _ _ _ 1 _ G_5.out R_5.out (bt B4.out B_5.out) (S4.out.below B_5.out)).mono ?_; rintro e w_6 ⟨Al7, ca7, A7, c7, rfl, r_6, l_6⟩
              unfold scv
              try go_wp2_with fail
              refine hK.out _ _ (bt B_5.out l_6) (fun hHeld => ?_)
              clear hK K
              (try simp only [Act.put, List.setIfInBounds_toArray, List.set_cons_zero, List.set_cons_succ])
              have B_6 := Lib.hid hHeld
              have L_6 := Lib.hid l_6
              have R_6 := Lib.hid (R_5.out.later L_6.out)
              have G_6 := Lib.hid ((L_6.out.block _ (Array.getElem?_eq_some_iff.1 G_5.out).1).trans G_5.out)
              have C_6 := Lib.hid ((L_6.out.block _ (Array.getElem?_eq_some_iff.1 N_5.out).1).trans N_5.out)
              have T_6 := Lib.hid (r_6.weak (P' := (· ≠ C)) (fun b _ (hp : w_5.heap.size ≤ b) => by have := (Array.getElem?_eq_some_iff.1 N_5.out).1; exact Nat.ne_of_gt (Nat.lt_of_lt_of_le this hp)))
              clear hHeld l_6 r_6
              obtain ⟨⟨y0, y1, y2, y3, y4⟩, k0, k1, k2, k3, k4⟩ := five_cells C_6.out
              refine WD_ready (rs := [7]) (by kernel_rfl) (by simp) ?_
              refine AllD.last (o := { dst := none, op := Go.Op.store 34 (Go.Operand.tmp 4) (Go.Operand.tmp 22), type := 0, pos := _, after := #[{ on := 6, ground := Go.Ground.data }, { on := 5, ground := Go.Ground.data }, { on := 5, ground := Go.Ground.chain }, { on := 0, ground := Go.Ground.phase }, { on := 1, ground := Go.Ground.phase }, { on := 2, ground := Go.Ground.phase }, { on := 3, ground := Go.Ground.phase }, { on := 4, ground := Go.Ground.phase }, { on := 5, ground := Go.Ground.phase }, { on := 6, ground := Go.Ground.phase }], guard := none }) rfl (by kernel_rfl) (fun K hK => ?_) AllD.nil
              rw [if_pos (by rfl)]
              go_simp
              refine hK.out _ _ ?_
              clear hK K
              (try simp only [Act.put, List.setIfInBounds_toArray, List.set_cons_zero, List.set_cons_succ])
              refine WD_done (by kernel_rfl) ?_ _
              refine ⟨C, Al7, ca7, A7, c7, _, _, _, _, _, _, by rfl, ?_⟩
              exact held_store C_6.out ZC_5.out B_6.out T_6.out
        · rw [if_pos (by rfl)]
          go_simp
          refine hK.out _ _ (bt B_1.out (below_alloc w_1 _)) (fun hHeld => ?_)
          clear hK K
          (try simp only [Act.put, List.setIfInBounds_toArray, List.set_cons_zero, List.set_cons_succ])
          obtain ⟨w_7, hw_7⟩ : ∃ z, z = w_1.alloc (.cells #[.slice none 0 0, .int .i64 0, .string ⟨#[]⟩, .int .i64 0, .slice none 0 0] SchT) := ⟨_, rfl⟩
          try rw [← hw_7] at hHeld
          try rw [← hw_7]
          have B_7 := Lib.hid hHeld
          have L_7 : Hid (Below w_1.heap.size w_1 w_7) := Lib.hid (by rw [hw_7]; exact below_alloc w_1 _)
          have N_7 : Hid (w_7.heap[w_1.heap.size]? = some (.cells #[.slice none 0 0, .int .i64 0, .string ⟨#[]⟩, .int .i64 0, .slice none 0 0] SchT (0, 0))) := Lib.hid (by rw [hw_7]; exact heap_alloc_new w_1 _)
          have R_7 := Lib.hid (R_1.out.later L_7.out)
          obtain ⟨C, hC_7⟩ : ∃ C, C = w_1.heap.size := ⟨_, rfl⟩
          rw [← hC_7] at N_7 ⊢
          have ZC_7 : Hid (w4.heap.size ≤ C) := Lib.hid (by rw [hC_7]; exact B_1.out.size)
          clear hC_7
          clear hHeld hw_7
          refine WD_ready (rs := [4]) (by kernel_rfl) (by simp) ?_
          refine AllD.cons (o := { dst := some 21, op := Go.Op.buildSlice 25 1 #[(0, Go.Operand.tmp 20)], type := 25, pos := _, after := #[{ on := 3, ground := Go.Ground.data }], guard := none }) rfl (fun K hK => ?_) AllD.nil
          · rw [if_pos (by rfl)]
            go_simp
            refine hK.out _ _ (bt B_7.out (below_alloc w_7 _)) (fun hHeld => ?_)
            clear hK K
            (try simp only [Act.put, List.setIfInBounds_toArray, List.set_cons_zero, List.set_cons_succ])
            obtain ⟨w_8, hw_8⟩ : ∃ z, z = w_7.alloc (.cells #[.slice none 0 0, .int .i64 V.k, .string V.nm, .int .i64 V.vr, .slice A5 V.args.length c5] SchT) := ⟨_, rfl⟩
            try rw [← hw_8] at hHeld
            try rw [← hw_8]
            have B_8 := Lib.hid hHeld
            have L_8 : Hid (Below w_7.heap.size w_7 w_8) := Lib.hid (by rw [hw_8]; exact below_alloc w_7 _)
            have N_8 : Hid (w_8.heap[w_7.heap.size]? = some (.cells #[.slice none 0 0, .int .i64 V.k, .string V.nm, .int .i64 V.vr, .slice A5 V.args.length c5] SchT (0, 0))) := Lib.hid (by rw [hw_8]; exact heap_alloc_new w_7 _)
            have R_8 := Lib.hid (R_7.out.later L_8.out)
            have C_8 := Lib.hid ((L_8.out.block _ (Array.getElem?_eq_some_iff.1 N_7.out).1).trans N_7.out)
            obtain ⟨ge, hge_8⟩ : ∃ g, g = w_7.heap.size := ⟨_, rfl⟩
            rw [← hge_8] at N_8 ⊢
            clear hge_8
            clear hHeld hw_8
            refine WD_ready (rs := [5]) (by kernel_rfl) (by simp) ?_
            refine AllD.cons (o := { dst := some 22, op := Go.Op.call { callee := Go.Callee.value (Go.Operand.func 14), args := #[Go.Operand.tmp 17, Go.Operand.tmp 18, Go.Operand.tmp 21], argTypes := #[29, 24, 25] }, type := 34, pos := _, after := #[{ on := 0, ground := Go.Ground.data }, { on := 1, ground := Go.Ground.data }, { on := 4, ground := Go.Ground.data }, { on := 3, ground := Go.Ground.chain }], guard := none }) rfl (fun K hK => ?_) AllD.nil
            · rw [if_pos (by rfl)]
              go_simp
              refine (CC.out _ _ _ _ 1 _ N_8.out R_8.out (bt B4.out B_8.out) (S4.out.below B_8.out)).mono ?_; rintro e w_9 ⟨Al7, ca7, A7, c7, rfl, r_9, l_9⟩
              unfold scv
              try go_wp2_with fail
              refine hK.out _ _ (bt B_8.out l_9) (fun hHeld => ?_)
              clear hK K
              (try simp only [Act.put, List.setIfInBounds_toArray, List.set_cons_zero, List.set_cons_succ])
              have B_9 := Lib.hid hHeld
              have L_9 := Lib.hid l_9
              have R_9 := Lib.hid (R_8.out.later L_9.out)
              have G_9 := Lib.hid ((L_9.out.block _ (Array.getElem?_eq_some_iff.1 N_8.out).1).trans N_8.out)
              have C_9 := Lib.hid ((L_9.out.block _ (Array.getElem?_eq_some_iff.1 C_8.out).1).trans C_8.out)
              have T_9 := Lib.hid (r_9.weak (P' := (· ≠ C)) (fun b _ (hp : w_8.heap.size ≤ b) => by have := (Array.getElem?_eq_some_iff.1 C_8.out).1; exact Nat.ne_of_gt (Nat.lt_of_lt_of_le this hp)))
              clear hHeld l_9 r_9
              obtain ⟨⟨y0, y1, y2, y3, y4⟩, k0, k1, k2, k3, k4⟩ := five_cells C_9.out
              refine WD_ready (rs := [7]) (by kernel_rfl) (by simp) ?_
              refine AllD.last (o := { dst := none, op := Go.Op.store 34 (Go.Operand.tmp 4) (Go.Operand.tmp 22), type := 0, pos := _, after := #[{ on := 6, ground := Go.Ground.data }, { on := 5, ground := Go.Ground.data }, { on := 5, ground := Go.Ground.chain }, { on := 0, ground := Go.Ground.phase }, { on := 1, ground := Go.Ground.phase }, { on := 2, ground := Go.Ground.phase }, { on := 3, ground := Go.Ground.phase }, { on := 4, ground := Go.Ground.phase }, { on := 5, ground := Go.Ground.phase }, { on := 6, ground := Go.Ground.phase }], guard := none }) rfl (by kernel_rfl) (fun K hK => ?_) AllD.nil
              rw [if_pos (by rfl)]
              go_simp
              refine hK.out _ _ ?_
              clear hK K
              (try simp only [Act.put, List.setIfInBounds_toArray, List.set_cons_zero, List.set_cons_succ])
              refine WD_done (by kernel_rfl) ?_ _
              refine ⟨C, Al7, ca7, A7, c7, _, _, _, _, _, _, by rfl, ?_⟩
              exact held_store C_9.out ZC_7.out B_9.out T_9.out
      · rw [if_pos (by rfl)]
        go_simp
        refine hK.out _ _ (bt B_0.out (below_alloc w_0 _)) (fun hHeld => ?_)
        clear hK K
        (try simp only [Act.put, List.setIfInBounds_toArray, List.set_cons_zero, List.set_cons_succ])
        obtain ⟨w_10, hw_10⟩ : ∃ z, z = w_0.alloc (.cells #[.slice none 0 0, .int .i64 0, .string ⟨#[]⟩, .int .i64 0, .slice none 0 0] SchT) := ⟨_, rfl⟩
        try rw [← hw_10] at hHeld
        try rw [← hw_10]
        have B_10 := Lib.hid hHeld
        have L_10 : Hid (Below w_0.heap.size w_0 w_10) := Lib.hid (by rw [hw_10]; exact below_alloc w_0 _)
        have N_10 : Hid (w_10.heap[w_0.heap.size]? = some (.cells #[.slice none 0 0, .int .i64 0, .string ⟨#[]⟩, .int .i64 0, .slice none 0 0] SchT (0, 0))) := Lib.hid (by rw [hw_10]; exact heap_alloc_new w_0 _)
        obtain ⟨C, hC_10⟩ : ∃ C, C = w_0.heap.size := ⟨_, rfl⟩
        rw [← hC_10] at N_10 ⊢
        have ZC_10 : Hid (w4.heap.size ≤ C) := Lib.hid (by rw [hC_10]; exact B_0.out.size)
        clear hC_10
        clear hHeld hw_10
        refine WD_ready (rs := [3]) (by kernel_rfl) (by simp) ?_
        refine AllD.cons (o := { dst := some 20, op := Go.Op.call { callee := Go.Callee.value (Go.Operand.func 17), args := #[Go.Operand.tmp 19], argTypes := #[24] }, type := 34, pos := _, after := #[{ on := 2, ground := Go.Ground.data }], guard := none }) rfl (fun K hK => ?_) AllD.nil
        · rw [if_pos (by rfl)]
          go_simp
          refine (CM.out _ (bt B4.out B_10.out)).mono ?_; rintro e w_11 ⟨A5, c5, rfl, r_11, l_11⟩
          unfold scv
          try go_wp2_with fail
          refine hK.out _ _ (bt B_10.out l_11) (fun hHeld => ?_)
          clear hK K
          (try simp only [Act.put, List.setIfInBounds_toArray, List.set_cons_zero, List.set_cons_succ])
          have B_11 := Lib.hid hHeld
          have L_11 := Lib.hid l_11
          have C_11 := Lib.hid ((L_11.out.block _ (Array.getElem?_eq_some_iff.1 N_10.out).1).trans N_10.out)
          have R_11 := Lib.hid (r_11.weak (P' := any0) (fun _ _ _ => trivial))
          clear hHeld l_11 r_11
          refine WD_ready (rs := [4]) (by kernel_rfl) (by simp) ?_
          refine AllD.cons (o := { dst := some 21, op := Go.Op.buildSlice 25 1 #[(0, Go.Operand.tmp 20)], type := 25, pos := _, after := #[{ on := 3, ground := Go.Ground.data }], guard := none }) rfl (fun K hK => ?_) AllD.nil
          · rw [if_pos (by rfl)]
            go_simp
            refine hK.out _ _ (bt B_11.out (below_alloc w_11 _)) (fun hHeld => ?_)
            clear hK K
            (try simp only [Act.put, List.setIfInBounds_toArray, List.set_cons_zero, List.set_cons_succ])
            obtain ⟨w_12, hw_12⟩ : ∃ z, z = w_11.alloc (.cells #[.slice none 0 0, .int .i64 V.k, .string V.nm, .int .i64 V.vr, .slice A5 V.args.length c5] SchT) := ⟨_, rfl⟩
            try rw [← hw_12] at hHeld
            try rw [← hw_12]
            have B_12 := Lib.hid hHeld
            have L_12 : Hid (Below w_11.heap.size w_11 w_12) := Lib.hid (by rw [hw_12]; exact below_alloc w_11 _)
            have N_12 : Hid (w_12.heap[w_11.heap.size]? = some (.cells #[.slice none 0 0, .int .i64 V.k, .string V.nm, .int .i64 V.vr, .slice A5 V.args.length c5] SchT (0, 0))) := Lib.hid (by rw [hw_12]; exact heap_alloc_new w_11 _)
            have R_12 := Lib.hid (R_11.out.later L_12.out)
            have C_12 := Lib.hid ((L_12.out.block _ (Array.getElem?_eq_some_iff.1 C_11.out).1).trans C_11.out)
            obtain ⟨ge, hge_12⟩ : ∃ g, g = w_11.heap.size := ⟨_, rfl⟩
            rw [← hge_12] at N_12 ⊢
            clear hge_12
            clear hHeld hw_12
            refine WD_ready (rs := [5]) (by kernel_rfl) (by simp) ?_
            refine AllD.cons (o := { dst := some 22, op := Go.Op.call { callee := Go.Callee.value (Go.Operand.func 14), args := #[Go.Operand.tmp 17, Go.Operand.tmp 18, Go.Operand.tmp 21], argTypes := #[29, 24, 25] }, type := 34, pos := _, after := #[{ on := 0, ground := Go.Ground.data }, { on := 1, ground := Go.Ground.data }, { on := 4, ground := Go.Ground.data }, { on := 3, ground := Go.Ground.chain }], guard := none }) rfl (fun K hK => ?_) AllD.nil
            · rw [if_pos (by rfl)]
              go_simp
              refine (CC.out _ _ _ _ 1 _ N_12.out R_12.out (bt B4.out B_12.out) (S4.out.below B_12.out)).mono ?_; rintro e w_13 ⟨Al7, ca7, A7, c7, rfl, r_13, l_13⟩
              unfold scv
              try go_wp2_with fail
              refine hK.out _ _ (bt B_12.out l_13) (fun hHeld => ?_)
              clear hK K
              (try simp only [Act.put, List.setIfInBounds_toArray, List.set_cons_zero, List.set_cons_succ])
              have B_13 := Lib.hid hHeld
              have L_13 := Lib.hid l_13
              have R_13 := Lib.hid (R_12.out.later L_13.out)
              have G_13 := Lib.hid ((L_13.out.block _ (Array.getElem?_eq_some_iff.1 N_12.out).1).trans N_12.out)
              have C_13 := Lib.hid ((L_13.out.block _ (Array.getElem?_eq_some_iff.1 C_12.out).1).trans C_12.out)
              have T_13 := Lib.hid (r_13.weak (P' := (· ≠ C)) (fun b _ (hp : w_12.heap.size ≤ b) => by have := (Array.getElem?_eq_some_iff.1 C_12.out).1; exact Nat.ne_of_gt (Nat.lt_of_lt_of_le this hp)))
              clear hHeld l_13 r_13
              obtain ⟨⟨y0, y1, y2, y3, y4⟩, k0, k1, k2, k3, k4⟩ := five_cells C_13.out
              refine WD_ready (rs := [7]) (by kernel_rfl) (by simp) ?_
              refine AllD.last (o := { dst := none, op := Go.Op.store 34 (Go.Operand.tmp 4) (Go.Operand.tmp 22), type := 0, pos := _, after := #[{ on := 6, ground := Go.Ground.data }, { on := 5, ground := Go.Ground.data }, { on := 5, ground := Go.Ground.chain }, { on := 0, ground := Go.Ground.phase }, { on := 1, ground := Go.Ground.phase }, { on := 2, ground := Go.Ground.phase }, { on := 3, ground := Go.Ground.phase }, { on := 4, ground := Go.Ground.phase }, { on := 5, ground := Go.Ground.phase }, { on := 6, ground := Go.Ground.phase }], guard := none }) rfl (by kernel_rfl) (fun K hK => ?_) AllD.nil
              rw [if_pos (by rfl)]
              go_simp
              refine hK.out _ _ ?_
              clear hK K
              (try simp only [Act.put, List.setIfInBounds_toArray, List.set_cons_zero, List.set_cons_succ])
              refine WD_done (by kernel_rfl) ?_ _
              refine ⟨C, Al7, ca7, A7, c7, _, _, _, _, _, _, by rfl, ?_⟩
              exact held_store C_13.out ZC_10.out B_13.out T_13.out
end Go.Proofs.YtifopogkbjhkjaaDoor
