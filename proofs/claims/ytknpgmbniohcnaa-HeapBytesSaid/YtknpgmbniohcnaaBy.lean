import Derived.Test.YtknpgmbniohcnaaBq
namespace Go.Proofs.Ytknpgmbniohcnaa
open Go.ChangeShapes Go.WideShapes Go.ChangeAt Go.RowKit
set_option linter.unusedVariables false
set_option linter.unusedSimpArgs false
set_option maxRecDepth 100000 in
set_option maxHeartbeats 32000000 in
theorem bytes_walk {w : World} {A : Option Addr} {n c : Nat} {l : List Int} (hl : l.length = n) (hi : 0 < n → InB w A c l) (hby : ∀ x ∈ l, Byte x) {A1 : Option Addr} {n1 c1 : Nat} {acts : List AcR} (ha : AcsIn w A1 n1 acts) {Ax : Option Addr} {nx cx : Nat} (r : AcR) (hx : InU w Ax nx cx r.l) :
    Calls Try.prog 5 #[.slice A n c, .slice A1 n1 c1, .agg #[.int .i64 r.op, .int .i64 r.kind, .int .i64 r.tag, .int .i64 r.i, .int .u64 r.p, .int .u64 r.x, .slice Ax nx cx]] w fun e w' => e = .returned (.bool true) ∧ Below w.heap.size w w' := by
  have AW := Lib.hid (fun W => awake_any W)
  have X0 : Hid (XC (w.alloc (.cells #[.int .i64 r.op, .int .i64 r.kind, .int .i64 r.tag, .int .i64 r.i, .int .u64 r.p, .int .u64 r.x, .slice Ax nx cx] 49)) w.heap.size r Ax nx cx) := Lib.hid (by
    unfold XC
    show (w.heap.push _)[w.heap.size]? = _
    rw [Array.getElem?_push, if_pos rfl])
  have BX := Lib.hid (below_alloc w (.cells #[.int .i64 r.op, .int .i64 r.kind, .int .i64 r.tag, .int .i64 r.i, .int .u64 r.p, .int .u64 r.x, .slice Ax nx cx] 49))
  obtain ⟨w0, hw0⟩ : ∃ z, z = w.alloc (.cells #[.int .i64 r.op, .int .i64 r.kind, .int .i64 r.tag, .int .i64 r.i, .int .u64 r.p, .int .u64 r.x, .slice Ax nx cx] 49) := ⟨_, rfl⟩
  obtain ⟨C, hC⟩ : ∃ z, z = w.heap.size := ⟨_, rfl⟩
  have HSZ : Hid (C < w0.heap.size) := Lib.hid (by rw [hw0, hC]; show _ < (w.heap.push _).size; simp)
  rw [← hw0, ← hC] at X0
  rw [← hw0] at BX
  have HI := Lib.hid (And.intro hl (And.intro (fun h => (hi h).below BX.out) hby))
  have HA := Lib.hid (ha.below BX.out)
  have HX := Lib.hid (hx.below BX.out)
  clear hl hi hby ha hx
  by_cases h1 : 600 < n
  · have d1 : decide (600 < (n : Int)) = true := decide_eq_true (by omega)
    go_enter Try.func5, Try.ntmps5
    go_wp2_with fail
    rw [← hw0]
    clear hw0 hC
    refine (AW.out _).mono ?_; rintro e w1 ⟨rfl, hb1⟩
    go_wp2
    go_ret
    exact ⟨rfl, BX.out.trans (hb1.mono BX.out.size)⟩
  have d1 : decide (600 < (n : Int)) = false := decide_eq_false (by omega)
  by_cases h2 : 20 < n1
  · have d2 : decide (20 < (n1 : Int)) = true := decide_eq_true (by omega)
    go_enter Try.func5, Try.ntmps5
    go_wp2_with fail
    rw [← hw0]
    clear hw0 hC
    refine (AW.out _).mono ?_; rintro e w1 ⟨rfl, hb1⟩
    go_wp2
    go_ret
    exact ⟨rfl, BX.out.trans (hb1.mono BX.out.size)⟩
  have d2 : decide (20 < (n1 : Int)) = false := decide_eq_false (by omega)
  by_cases h3 : 20 < nx
  · have d3 : decide (20 < (nx : Int)) = true := decide_eq_true (by omega)
    go_enter Try.func5, Try.ntmps5
    go_wp2_with fail
    rw [← hw0, ← hC]
    clear hw0 hC
    refine (AW.out _).mono ?_; rintro e w1 ⟨rfl, hb1⟩
    obtain ⟨x0, x1, x2, x3, x4, x5, x6⟩ := (X0.out.below hb1).cells
    go_wp2
    go_ret
    exact ⟨rfl, BX.out.trans (hb1.mono BX.out.size)⟩
  have d3 : decide (20 < (nx : Int)) = false := decide_eq_false (by omega)
  have NW := Lib.hid (fun W => new_ok W 200 (by decide) (by decide))
  have L1 : Hid (∀ W, Below w0.heap.size w0 W → Calls Try.prog 18 #[.slice A n c] W fun e w' => Hid (LoadE W w' l e) ∧ Hid (Below W.heap.size W w')) := Lib.hid (fun W hW => load_arg HI.out.1 (fun h => (HI.out.2.1 h).below hW) HI.out.2.2 (by omega))
  have L2 : Hid (∀ W, Below w0.heap.size w0 W → Calls Try.prog 32 #[.slice A n c] W fun e w' => Hid (LoadR W w' l e) ∧ Hid (Below W.heap.size W w')) := Lib.hid (fun W hW => rload_arg HI.out.1 (fun h => (HI.out.2.1 h).below hW) HI.out.2.2 (by omega))
  have HN := Lib.hid (And.intro h1 (And.intro h2 h3))
  clear h1 h2 h3 HI
  go_enter Try.func5, Try.ntmps5
  go_wp2_with fail
  rw [← hw0, ← hC]
  clear hw0 hC
  refine (AW.out _).mono ?_; rintro e w1 ⟨rfl, hb1⟩
  have B1 := Lib.hid hb1
  obtain ⟨x0, x1, x2, x3, x4, x5, x6⟩ := (X0.out.below hb1).cells
  clear hb1 AW
  go_wp2_with fail
  clear x0 x1 x2 x3 x4 x5 x6
  refine (L1.out _ B1.out).mono ?_; rintro e w2 ⟨he2, hb2⟩
  have B2 := Lib.hid (bt B1.out hb2.out)
  obtain ⟨v7, v8, rfl, V1⟩ := LoadE.vals he2.out
  clear he2 hb2 L1 B1
  go_wp2_with fail
  refine (L2.out _ B2.out).mono ?_; rintro e w3 ⟨he3, hb3⟩
  obtain ⟨v9, v10, rfl, V2⟩ := LoadR.vals he3.out
  have V3 := Lib.hid (V1.out.below hb3.out)
  have B3 := Lib.hid (bt B2.out hb3.out)
  clear he3 hb3 L2 B2 V1
  go_wp2_with fail
  rename_i K hK
  refine Code.wp_mono (Q := Exit.then (fun a' w' => ∃ s7 s8 s9 s10 t20 t21 t22 t23 t24 t25 t26 t27 t28 t29 t30 t31 t32 t33 t34 t35 t36 t37 t38 t39 t40 t41 t42 t43 t44 t45 t46 t47 t48 t49 t50 t51 t52 t53 t54 t55 t56 t57 t58 t59 t60 t61 t62 t63 t64 t65 t66 t67 t68 t69 t70 t71 t72 t73 t74 t75 t76, a' = ⟨#[.slice A n c, .slice A1 n1 c1, .agg #[.int .i64 r.op, .int .i64 r.kind, .int .i64 r.tag, .int .i64 r.i, .int .u64 r.p, .int .u64 r.x, .slice Ax nx cx], undef, undef, .pointer (some ⟨C, 0, none⟩), .bool false, s7, s8, s9, s10, undef, undef, undef, undef, undef, undef, undef, undef, undef, t20, t21, t22, t23, t24, t25, t26, t27, t28, t29, t30, t31, t32, t33, t34, t35, t36, t37, t38, t39, t40, t41, t42, t43, t44, t45, t46, t47, t48, t49, t50, t51, t52, t53, t54, t55, t56, t57, t58, t59, t60, t61, t62, t63, t64, t65, t66, t67, t68, t69, t70, t71, t72, t73, t74, t75, t76, .bool false, undef, undef, undef, undef, undef, undef, undef, undef, undef, undef, undef, undef, undef, undef, undef, undef, undef, undef, undef, undef, undef, undef, undef, undef, undef, undef, undef, undef, undef, undef, undef, undef, undef, undef, undef, undef, undef, undef, undef, undef, undef, undef, undef, undef, undef, undef, undef, undef, undef, undef, undef, undef, undef, undef, undef, undef, undef, undef, undef, undef, undef, undef, undef, undef, undef, undef, undef, undef, undef, undef, undef, undef, undef, undef, undef, undef, undef, undef, undef, undef, undef, undef, undef, undef, undef, undef, undef, undef, undef, undef, undef, undef, undef, undef, undef, undef, undef, undef, undef, undef, undef], []⟩ ∧ Below w0.heap.size w0 w') (fun _ _ _ => False)) ?rest ?_
  case rest =>
    clear V2 V3
    intro e a' W hq
    cases e
    case normal =>
      obtain ⟨s7, s8, s9, s10, t20, t21, t22, t23, t24, t25, t26, t27, t28, t29, t30, t31, t32, t33, t34, t35, t36, t37, t38, t39, t40, t41, t42, t43, t44, t45, t46, t47, t48, t49, t50, t51, t52, t53, t54, t55, t56, t57, t58, t59, t60, t61, t62, t63, t64, t65, t66, t67, t68, t69, t70, t71, t72, t73, t74, t75, t76, rfl, bW⟩ := hq
      have BW := Lib.hid bW
      have hn20 : n1 ≤ 20 := by have := HN.out; omega
      have hx20 : nx ≤ 20 := by have := HN.out; omega
      show K _ _
      refine hK _ _ ?_
      clear hK K B3 bW
      go_wp2_with fail
      refine (NW.out _).mono ?_; rintro e w2 ⟨rfl, -, b2, z2⟩
      clear NW
      have ST : Hid (BsI w0 w2 W.heap.size w2.heap.size (emp 200)) := Lib.hid ⟨full_emp (by decide) (by decide), rfl, by decide, z2.out.2 w2 _ (Below.refl _ _) (Nat.le_refl _), bt BW.out b2.out, BW.out.size, (bt BW.out b2.out).size⟩
      obtain ⟨H, hH⟩ : ∃ H, H = W.heap.size := ⟨_, rfl⟩
      obtain ⟨B, hB⟩ : ∃ B, B = w2.heap.size := ⟨_, rfl⟩
      rw [← hH, ← hB] at ST
      rw [← hH]
      clear hH hB z2 b2 BW
      go_wp2
      go_loopw [13] (fun i wr => ∃ (k : Nat) (m : Hm), i = .int .i64 k ∧ k ≤ n1 ∧ Hid (BsI w0 wr H B m)) (fun i _ => n1 - (intOf i).toNat)
      case atStart => exact ⟨0, _, rfl, by omega, ST⟩
      case round =>
        obtain ⟨k, m, rfl, hk, HI⟩ := hrel
        clear ST
        by_cases hkn : k < n1
        · have hkx : k < acts.length := by have := HA.out.1; omega
          have hkni : (k : Int) < (n1 : Int) := by omega
          obtain ⟨b, off, rfl, hb, hc⟩ := HA.out.2 (by omega)
          have hac := (hc k hkx).below hb HI.out.bel
          obtain ⟨r', hr⟩ : ∃ r, r = acts[k] := ⟨_, rfl⟩
          rw [← hr] at hac
          obtain ⟨A', n', c', e6, hu⟩ := hac.c6
          have CC : Hid (∀ W, Below w0.heap.size w0 W → W.cell? ⟨b, off + k * 7 + 1, none⟩ = some (.int .i64 r'.kind) ∧ W.cell? ⟨b, off + k * 7 + 2, none⟩ = some (.int .i64 r'.tag) ∧ W.cell? ⟨b, off + k * 7 + 6, none⟩ = some (.slice A' n' c')) := Lib.hid (fun W hW => by
            have h0 := hc k hkx
            rw [← hr] at h0
            obtain ⟨A2, n2, c2, f6, _⟩ := h0.c6
            have e7 := (HI.out.bel.cell (p := ⟨b, off + k * 7 + 6, none⟩) hb).trans f6
            rw [e6] at e7
            exact ⟨(hW.cell (p := ⟨b, _, none⟩) hb).trans h0.c1, (hW.cell (p := ⟨b, _, none⟩) hb).trans h0.c2, ((hW.cell (p := ⟨b, _, none⟩) hb).trans f6).trans e7.symm⟩)
          have c1' := hac.c1
          have c2' := hac.c2
          have HXS := Lib.hid hu.2.2.1
          have HUD := Lib.hid (hu.below (bdr wr))
          clear hc hr hac
          by_cases h10 : 20 < n'
          · have dd : decide (20 < (n' : Int)) = true := decide_eq_true (by omega)
            clear hu
            go_wp2
            go_ret
            exact ⟨by rfl, BX.out.trans (HI.out.bel.mono BX.out.size)⟩
          · have dd : decide (20 < (n' : Int)) = false := decide_eq_false (by omega)
            clear hu
            have BK := Lib.hid (back_any HUD.out (by omega))
            have BD : Hid (Below w0.heap.size w0 wr.drew) := Lib.hid (HI.out.bel.trans (bdr wr |>.mono HI.out.bel.size))
            have HPD := Lib.hid (HI.out.hp.below (bdr wr))
            have HID : Hid (BsI w0 wr.drew H B m) := Lib.hid ⟨HI.out.full, HI.out.room, HI.out.le, HPD.out, BD.out, HI.out.ge⟩
            go_wp2_with fail
            refine wp_region_held_drew (S := fun w' => w'.cell? ⟨b, off + k * 7 + 1, none⟩ = some (.int .i64 r'.kind) ∧ w'.cell? ⟨b, off + k * 7 + 2, none⟩ = some (.int .i64 r'.tag) ∧ w'.cell? ⟨b, off + k * 7 + 6, none⟩ = some (.slice A' n' c')) (by kernel_rfl) ?_ (fun hHeld => ?_)
            · (try dsimp only); go_keep
            refine wpAnyH_take (i := 0) (oi := { dst := some 95, op := Go.Op.move (Go.Operand.tmp 11), type := 23, pos := _, after := #[], guard := none }) (v := ?vz0) rfl (by kernel_rfl) (by kernel_rfl) (by kernel_rfl) (fun _ _ _ h => h) (Or.inl ⟨by rfl, ?hyz0⟩) (by assumption) ?_
            case hyz0 => (intro wz hSw; (try dsimp only at hSw); go_simp; try with_reducible rfl)
            (try simp only [Act.put, List.setIfInBounds_toArray, List.set_cons_zero, List.set_cons_succ])
            refine wpAnyH_take (i := 1) (oi := { dst := some 96, op := Go.Op.move (Go.Operand.tmp 1), type := 43, pos := _, after := #[], guard := none }) (v := ?vz1) rfl (by kernel_rfl) (by kernel_rfl) (by kernel_rfl) (fun _ _ _ h => h) (Or.inl ⟨by rfl, ?hyz1⟩) (by assumption) ?_
            case hyz1 => (intro wz hSw; (try dsimp only at hSw); go_simp; try with_reducible rfl)
            (try simp only [Act.put, List.setIfInBounds_toArray, List.set_cons_zero, List.set_cons_succ])
            refine wpAnyH_take (i := 2) (oi := { dst := some 97, op := Go.Op.move (Go.Operand.tmp 13), type := 3, pos := _, after := #[], guard := none }) (v := ?vz2) rfl (by kernel_rfl) (by kernel_rfl) (by kernel_rfl) (fun _ _ _ h => h) (Or.inl ⟨by rfl, ?hyz2⟩) (by assumption) ?_
            case hyz2 => (intro wz hSw; (try dsimp only at hSw); go_simp; try with_reducible rfl)
            (try simp only [Act.put, List.setIfInBounds_toArray, List.set_cons_zero, List.set_cons_succ])
            refine wpAnyH_take (i := 3) (oi := { dst := some 98, op := Go.Op.indexAddr 43 (Go.Operand.tmp 96) (Go.Operand.tmp 97), type := 0, pos := _, after := #[{ on := 1, ground := Go.Ground.data }, { on := 2, ground := Go.Ground.data }], guard := none }) (v := ?vz3) rfl (by kernel_rfl) (by kernel_rfl) (by kernel_rfl) (fun _ _ _ h => h) (Or.inl ⟨by rfl, ?hyz3⟩) (by assumption) ?_
            case hyz3 => (intro wz hSw; (try dsimp only at hSw); go_simp; try with_reducible rfl)
            (try simp only [Act.put, List.setIfInBounds_toArray, List.set_cons_zero, List.set_cons_succ])
            refine wpAnyH_take (i := 4) (oi := { dst := some 99, op := Go.Op.fieldAddr 49 (Go.Operand.tmp 98) 1, type := 0, pos := _, after := #[{ on := 3, ground := Go.Ground.data }], guard := none }) (v := ?vz4) rfl (by kernel_rfl) (by kernel_rfl) (by kernel_rfl) (fun _ _ _ h => h) (Or.inl ⟨by rfl, ?hyz4⟩) (by assumption) ?_
            case hyz4 => (intro wz hSw; (try dsimp only at hSw); go_simp; try with_reducible rfl)
            (try simp only [Act.put, List.setIfInBounds_toArray, List.set_cons_zero, List.set_cons_succ])
            refine wpAnyH_take (i := 5) (oi := { dst := some 100, op := Go.Op.load 3 (Go.Operand.tmp 99), type := 3, pos := _, after := #[{ on := 4, ground := Go.Ground.data }], guard := none }) (v := ?vz5) rfl (by kernel_rfl) (by kernel_rfl) (by kernel_rfl) (fun _ _ _ h => h) (Or.inl ⟨by rfl, ?hyz5⟩) (by assumption) ?_
            case hyz5 => (intro wz hSw; (try dsimp only at hSw); go_simp; try with_reducible rfl)
            (try simp only [Act.put, List.setIfInBounds_toArray, List.set_cons_zero, List.set_cons_succ])
            refine wpAnyH_take (i := 6) (oi := { dst := some 101, op := Go.Op.move (Go.Operand.tmp 1), type := 43, pos := _, after := #[], guard := none }) (v := ?vz6) rfl (by kernel_rfl) (by kernel_rfl) (by kernel_rfl) (fun _ _ _ h => h) (Or.inl ⟨by rfl, ?hyz6⟩) (by assumption) ?_
            case hyz6 => (intro wz hSw; (try dsimp only at hSw); go_simp; try with_reducible rfl)
            (try simp only [Act.put, List.setIfInBounds_toArray, List.set_cons_zero, List.set_cons_succ])
            refine wpAnyH_take (i := 7) (oi := { dst := some 102, op := Go.Op.move (Go.Operand.tmp 13), type := 3, pos := _, after := #[], guard := none }) (v := ?vz7) rfl (by kernel_rfl) (by kernel_rfl) (by kernel_rfl) (fun _ _ _ h => h) (Or.inl ⟨by rfl, ?hyz7⟩) (by assumption) ?_
            case hyz7 => (intro wz hSw; (try dsimp only at hSw); go_simp; try with_reducible rfl)
            (try simp only [Act.put, List.setIfInBounds_toArray, List.set_cons_zero, List.set_cons_succ])
            refine wpAnyH_take (i := 8) (oi := { dst := some 103, op := Go.Op.indexAddr 43 (Go.Operand.tmp 101) (Go.Operand.tmp 102), type := 0, pos := _, after := #[{ on := 6, ground := Go.Ground.data }, { on := 7, ground := Go.Ground.data }], guard := none }) (v := ?vz8) rfl (by kernel_rfl) (by kernel_rfl) (by kernel_rfl) (fun _ _ _ h => h) (Or.inl ⟨by rfl, ?hyz8⟩) (by assumption) ?_
            case hyz8 => (intro wz hSw; (try dsimp only at hSw); go_simp; try with_reducible rfl)
            (try simp only [Act.put, List.setIfInBounds_toArray, List.set_cons_zero, List.set_cons_succ])
            refine wpAnyH_take (i := 9) (oi := { dst := some 104, op := Go.Op.fieldAddr 49 (Go.Operand.tmp 103) 2, type := 0, pos := _, after := #[{ on := 8, ground := Go.Ground.data }], guard := none }) (v := ?vz9) rfl (by kernel_rfl) (by kernel_rfl) (by kernel_rfl) (fun _ _ _ h => h) (Or.inl ⟨by rfl, ?hyz9⟩) (by assumption) ?_
            case hyz9 => (intro wz hSw; (try dsimp only at hSw); go_simp; try with_reducible rfl)
            (try simp only [Act.put, List.setIfInBounds_toArray, List.set_cons_zero, List.set_cons_succ])
            refine wpAnyH_take (i := 10) (oi := { dst := some 105, op := Go.Op.load 3 (Go.Operand.tmp 104), type := 3, pos := _, after := #[{ on := 9, ground := Go.Ground.data }], guard := none }) (v := ?vz10) rfl (by kernel_rfl) (by kernel_rfl) (by kernel_rfl) (fun _ _ _ h => h) (Or.inl ⟨by rfl, ?hyz10⟩) (by assumption) ?_
            case hyz10 => (intro wz hSw; (try dsimp only at hSw); go_simp; try with_reducible rfl)
            (try simp only [Act.put, List.setIfInBounds_toArray, List.set_cons_zero, List.set_cons_succ])
            refine wpAnyH_take (i := 11) (oi := { dst := some 106, op := Go.Op.move (Go.Operand.tmp 1), type := 43, pos := _, after := #[], guard := none }) (v := ?vz11) rfl (by kernel_rfl) (by kernel_rfl) (by kernel_rfl) (fun _ _ _ h => h) (Or.inl ⟨by rfl, ?hyz11⟩) (by assumption) ?_
            case hyz11 => (intro wz hSw; (try dsimp only at hSw); go_simp; try with_reducible rfl)
            (try simp only [Act.put, List.setIfInBounds_toArray, List.set_cons_zero, List.set_cons_succ])
            refine wpAnyH_take (i := 12) (oi := { dst := some 107, op := Go.Op.move (Go.Operand.tmp 13), type := 3, pos := _, after := #[], guard := none }) (v := ?vz12) rfl (by kernel_rfl) (by kernel_rfl) (by kernel_rfl) (fun _ _ _ h => h) (Or.inl ⟨by rfl, ?hyz12⟩) (by assumption) ?_
            case hyz12 => (intro wz hSw; (try dsimp only at hSw); go_simp; try with_reducible rfl)
            (try simp only [Act.put, List.setIfInBounds_toArray, List.set_cons_zero, List.set_cons_succ])
            refine wpAnyH_take (i := 13) (oi := { dst := some 108, op := Go.Op.indexAddr 43 (Go.Operand.tmp 106) (Go.Operand.tmp 107), type := 0, pos := _, after := #[{ on := 11, ground := Go.Ground.data }, { on := 12, ground := Go.Ground.data }], guard := none }) (v := ?vz13) rfl (by kernel_rfl) (by kernel_rfl) (by kernel_rfl) (fun _ _ _ h => h) (Or.inl ⟨by rfl, ?hyz13⟩) (by assumption) ?_
            case hyz13 => (intro wz hSw; (try dsimp only at hSw); go_simp; try with_reducible rfl)
            (try simp only [Act.put, List.setIfInBounds_toArray, List.set_cons_zero, List.set_cons_succ])
            refine wpAnyH_take (i := 14) (oi := { dst := some 109, op := Go.Op.fieldAddr 49 (Go.Operand.tmp 108) 6, type := 0, pos := _, after := #[{ on := 13, ground := Go.Ground.data }], guard := none }) (v := ?vz14) rfl (by kernel_rfl) (by kernel_rfl) (by kernel_rfl) (fun _ _ _ h => h) (Or.inl ⟨by rfl, ?hyz14⟩) (by assumption) ?_
            case hyz14 => (intro wz hSw; (try dsimp only at hSw); go_simp; try with_reducible rfl)
            (try simp only [Act.put, List.setIfInBounds_toArray, List.set_cons_zero, List.set_cons_succ])
            refine wpAnyH_take (i := 15) (oi := { dst := some 110, op := Go.Op.load 45 (Go.Operand.tmp 109), type := 45, pos := _, after := #[{ on := 14, ground := Go.Ground.data }], guard := none }) (v := ?vz15) rfl (by kernel_rfl) (by kernel_rfl) (by kernel_rfl) (fun _ _ _ h => h) (Or.inl ⟨by rfl, ?hyz15⟩) (by assumption) ?_
            case hyz15 => (intro wz hSw; (try dsimp only at hSw); go_simp; try with_reducible rfl)
            (try simp only [Act.put, List.setIfInBounds_toArray, List.set_cons_zero, List.set_cons_succ])
            refine wpAnyH_ready (rs := [16]) (by kernel_rfl) (by simp) ?_
            refine AllReadyH.cons (o := { dst := some 111, op := Go.Op.call { callee := Go.Callee.value (Go.Operand.func 21), args := #[Go.Operand.tmp 110], argTypes := #[45] }, type := 34, pos := _, after := #[{ on := 15, ground := Go.Ground.data }], guard := none }) rfl (fun K hK => ?_) AllReadyH.nil
            go_simp
            refine BK.out.mono ?_; rintro e w2 ⟨v, rfl, hv, hbv⟩
            have MK := Lib.hid (make_own HPD.out hbv.out hv.out r'.kind r'.tag HXS.out (by omega))
            have cc := CC.out w2 (BD.out.trans (hbv.out.mono BD.out.size))
            obtain ⟨cc1, cc2, cc6⟩ := cc
            go_wp2_with fail
            refine hK.out _ _ ?_ (fun hHeld => ?_)
            · (try dsimp only); go_keep
            clear hK K
            (try simp only [Act.put, List.setIfInBounds_toArray, List.set_cons_zero, List.set_cons_succ])
            refine wpAnyH_ready (rs := [17]) (by kernel_rfl) (by simp) ?_
            refine AllReadyH.cons (o := { dst := some 112, op := Go.Op.call { callee := Go.Callee.value (Go.Operand.func 11), args := #[Go.Operand.tmp 95, Go.Operand.tmp 100, Go.Operand.tmp 105, Go.Operand.tmp 111], argTypes := #[23, 3, 3, 34] }, type := 29, pos := _, after := #[{ on := 0, ground := Go.Ground.data }, { on := 5, ground := Go.Ground.data }, { on := 10, ground := Go.Ground.data }, { on := 16, ground := Go.Ground.data }, { on := 16, ground := Go.Ground.chain }], guard := none }) rfl (fun K hK => ?_) AllReadyH.nil
            go_simp
            refine MK.out.mono ?_; rintro e w3 ⟨rfl, hp3, hf3⟩
            have HO3 := Lib.hid (HID.out.make HXS.out hp3.out hf3.out)
            have cc := CC.out w3 HO3.out.bel
            obtain ⟨cc1', cc2', cc6'⟩ := cc
            go_wp2_with fail
            refine hK.out _ _ ?_ (fun hHeld => ?_)
            · (try dsimp only); go_keep
            clear hK K
            (try simp only [Act.put, List.setIfInBounds_toArray, List.set_cons_zero, List.set_cons_succ])
            refine wpAnyH_done (by kernel_rfl) ?_ _
            clear hHeld
            go_wp2
            go_roundw
            case rel => exact ⟨k + 1, _, by go_num, by omega, HO3⟩
            case measure => simp [intOf]; omega
        · obtain rfl : k = n1 := by omega
          have hkni : ¬ (k : Int) < (k : Int) := by omega
          obtain ⟨wA, hwA⟩ : ∃ wA, wA = wr := ⟨_, rfl⟩
          subst hwA
          have PU := Lib.hid (putH_any HI.out.hp)
          clear HA
          go_wp2_with fail
          refine PU.out.mono ?_; rintro e w3 ⟨v6, rfl, own6, b3⟩
          have LD := Lib.hid (load_own HI.out.full (by rw [HI.out.room]; decide) HI.out.le own6.out)
          clear PU own6
          go_wp2_with fail
          refine LD.out.mono ?_; rintro e w4 ⟨H2, rfl, hl2⟩
          have P4 := Lib.hid (PQ.start HI.out b3.out hl2.out.1 hl2.out.2.1 hl2.out.2.2)
          obtain ⟨B2, hB2⟩ : ∃ z, z = w3.heap.size := ⟨_, rfl⟩
          rw [← hB2] at P4
          clear LD hl2 b3 HI hB2
          go_wp2_with fail
          have P5 := Lib.hid (P4.out.below (bdr w4))
          have X4 := Lib.hid (X0.out.below P4.out.bel)
          have X5 := Lib.hid (X4.out.below (bdr w4))
          obtain ⟨x0, x1, x2, x3, x4, x5, x6⟩ := X4.out.cells
          have CN : Hid (C ≠ H ∧ C ≠ H2) := Lib.hid (by have := P4.out.ge; have := HSZ.out; omega)
          have HXS := Lib.hid HX.out.2.2.1
          have BK := Lib.hid (back_any (HX.out.below P5.out.bel) (by omega))
          obtain ⟨m2, hm2⟩ : ∃ z, z = makeM m r.kind r.tag r.l := ⟨_, rfl⟩
          obtain ⟨mv, hmv⟩ : ∃ z, z = makeV m r.kind r.tag r.l := ⟨_, rfl⟩
          obtain ⟨me, hme⟩ : ∃ z, z = makeE m r.kind r.tag r.l := ⟨_, rfl⟩
          have HMV := Lib.hid (And.intro hmv (And.intro hme hm2))
          have HMU : Hid (U64 mv) := Lib.hid (by rw [hmv]; exact makeV_u64 P4.out.hp.ok _ _ _)
          clear hm2 hmv hme P4
          refine wp_region_held_drew (S := fun w' => w'.cell? ⟨C, 1, none⟩ = some (.int .i64 r.kind) ∧ w'.cell? ⟨C, 2, none⟩ = some (.int .i64 r.tag) ∧ w'.cell? ⟨C, 6, none⟩ = some (.slice Ax nx cx)) (by kernel_rfl) ?_ (fun hHeld => ?_)
          · (try dsimp only); go_keep
          refine wpAnyH_take (i := 0) (oi := { dst := some 126, op := Go.Op.move (Go.Operand.tmp 11), type := 23, pos := _, after := #[], guard := none }) (v := ?vm190) rfl (by kernel_rfl) (by kernel_rfl) (by kernel_rfl) (fun _ _ _ h => h) (Or.inl ⟨by rfl, ?hym190⟩) (by assumption) ?_
          case hym190 => (intro wz hSw; (try dsimp only at hSw); go_simp; try with_reducible rfl)
          (try simp only [Act.put, List.setIfInBounds_toArray, List.set_cons_zero, List.set_cons_succ])
          refine wpAnyH_take (i := 1) (oi := { dst := some 127, op := Go.Op.fieldAddr 49 (Go.Operand.tmp 5) 1, type := 0, pos := _, after := #[], guard := none }) (v := ?vm191) rfl (by kernel_rfl) (by kernel_rfl) (by kernel_rfl) (fun _ _ _ h => h) (Or.inl ⟨by rfl, ?hym191⟩) (by assumption) ?_
          case hym191 => (intro wz hSw; (try dsimp only at hSw); go_simp; try with_reducible rfl)
          (try simp only [Act.put, List.setIfInBounds_toArray, List.set_cons_zero, List.set_cons_succ])
          refine wpAnyH_take (i := 2) (oi := { dst := some 128, op := Go.Op.load 3 (Go.Operand.tmp 127), type := 3, pos := _, after := #[{ on := 1, ground := Go.Ground.data }], guard := none }) (v := ?vm192) rfl (by kernel_rfl) (by kernel_rfl) (by kernel_rfl) (fun _ _ _ h => h) (Or.inl ⟨by rfl, ?hym192⟩) (by assumption) ?_
          case hym192 => (intro wz hSw; (try dsimp only at hSw); go_simp; try with_reducible rfl)
          (try simp only [Act.put, List.setIfInBounds_toArray, List.set_cons_zero, List.set_cons_succ])
          refine wpAnyH_take (i := 3) (oi := { dst := some 129, op := Go.Op.fieldAddr 49 (Go.Operand.tmp 5) 2, type := 0, pos := _, after := #[], guard := none }) (v := ?vm193) rfl (by kernel_rfl) (by kernel_rfl) (by kernel_rfl) (fun _ _ _ h => h) (Or.inl ⟨by rfl, ?hym193⟩) (by assumption) ?_
          case hym193 => (intro wz hSw; (try dsimp only at hSw); go_simp; try with_reducible rfl)
          (try simp only [Act.put, List.setIfInBounds_toArray, List.set_cons_zero, List.set_cons_succ])
          refine wpAnyH_take (i := 4) (oi := { dst := some 130, op := Go.Op.load 3 (Go.Operand.tmp 129), type := 3, pos := _, after := #[{ on := 3, ground := Go.Ground.data }], guard := none }) (v := ?vm194) rfl (by kernel_rfl) (by kernel_rfl) (by kernel_rfl) (fun _ _ _ h => h) (Or.inl ⟨by rfl, ?hym194⟩) (by assumption) ?_
          case hym194 => (intro wz hSw; (try dsimp only at hSw); go_simp; try with_reducible rfl)
          (try simp only [Act.put, List.setIfInBounds_toArray, List.set_cons_zero, List.set_cons_succ])
          refine wpAnyH_take (i := 5) (oi := { dst := some 131, op := Go.Op.fieldAddr 49 (Go.Operand.tmp 5) 6, type := 0, pos := _, after := #[], guard := none }) (v := ?vm195) rfl (by kernel_rfl) (by kernel_rfl) (by kernel_rfl) (fun _ _ _ h => h) (Or.inl ⟨by rfl, ?hym195⟩) (by assumption) ?_
          case hym195 => (intro wz hSw; (try dsimp only at hSw); go_simp; try with_reducible rfl)
          (try simp only [Act.put, List.setIfInBounds_toArray, List.set_cons_zero, List.set_cons_succ])
          refine wpAnyH_take (i := 6) (oi := { dst := some 132, op := Go.Op.load 45 (Go.Operand.tmp 131), type := 45, pos := _, after := #[{ on := 5, ground := Go.Ground.data }], guard := none }) (v := ?vm196) rfl (by kernel_rfl) (by kernel_rfl) (by kernel_rfl) (fun _ _ _ h => h) (Or.inl ⟨by rfl, ?hym196⟩) (by assumption) ?_
          case hym196 => (intro wz hSw; (try dsimp only at hSw); go_simp; try with_reducible rfl)
          (try simp only [Act.put, List.setIfInBounds_toArray, List.set_cons_zero, List.set_cons_succ])
          refine wpAnyH_ready (rs := [7]) (by kernel_rfl) (by simp) ?_
          refine AllReadyH.cons (o := { dst := some 133, op := Go.Op.call { callee := Go.Callee.value (Go.Operand.func 21), args := #[Go.Operand.tmp 132], argTypes := #[45] }, type := 34, pos := _, after := #[{ on := 6, ground := Go.Ground.data }], guard := none }) rfl (fun K hK => ?_) AllReadyH.nil
          go_simp
          refine BK.out.mono ?_; rintro e wq ⟨v3, rfl, hv, hbv⟩
          have MK := Lib.hid (make_own4 P5.out.hp hbv.out hv.out r.kind r.tag HXS.out (by omega))
          rw [← HMV.out.1, ← HMV.out.2.1, ← HMV.out.2.2] at MK
          have cx3 := (X5.out.below hbv.out).cells
          obtain ⟨_, y1, y2, _, _, _, y6⟩ := cx3
          go_wp2_with fail
          refine hK.out _ _ ?_ (fun hHeld => ?_)
          · (try dsimp only); go_keep
          clear hK K
          (try simp only [Act.put, List.setIfInBounds_toArray, List.set_cons_zero, List.set_cons_succ])
          refine wpAnyH_ready (rs := [8]) (by kernel_rfl) (by simp) ?_
          refine AllReadyH.cons (o := { dst := some 134, op := Go.Op.call { callee := Go.Callee.value (Go.Operand.func 11), args := #[Go.Operand.tmp 126, Go.Operand.tmp 128, Go.Operand.tmp 130, Go.Operand.tmp 133], argTypes := #[23, 3, 3, 34] }, type := 29, pos := _, after := #[{ on := 0, ground := Go.Ground.data }, { on := 2, ground := Go.Ground.data }, { on := 4, ground := Go.Ground.data }, { on := 7, ground := Go.Ground.data }, { on := 7, ground := Go.Ground.chain }], guard := none }) rfl (fun K hK => ?_) AllReadyH.nil
          go_simp
          refine MK.out.mono ?_; rintro e w6 ⟨rfl, hp4, hf4, hn4⟩
          have P6 := Lib.hid (P5.out.putP hp4.out hf4.out hn4.out)
          have X6 := Lib.hid (X5.out.frm hf4.out (X5.out.hr P5.out.hp CN.out.1))
          obtain ⟨_, z1, z2, _, _, _, z6⟩ := X6.out.cells
          go_wp2_with fail
          refine hK.out _ _ ?_ (fun hHeld => ?_)
          · (try dsimp only); go_keep
          clear hK K
          (try simp only [Act.put, List.setIfInBounds_toArray, List.set_cons_zero, List.set_cons_succ])
          refine wpAnyH_take (i := 9) (oi := { dst := some 125, op := Go.Op.move (Go.Operand.tmp 134), type := 29, pos := _, after := #[{ on := 8, ground := Go.Ground.data }], guard := none }) (v := ?vm199) rfl (by kernel_rfl) (by kernel_rfl) (by kernel_rfl) (fun _ _ _ h => h) (Or.inl ⟨by rfl, ?hym199⟩) (by assumption) ?_
          case hym199 => (intro wz hSw; (try dsimp only at hSw); go_simp; try with_reducible rfl)
          (try simp only [Act.put, List.setIfInBounds_toArray, List.set_cons_zero, List.set_cons_succ])
          refine wpAnyH_take (i := 10) (oi := { dst := some 135, op := Go.Op.extract (Go.Operand.tmp 125) 0, type := 28, pos := _, after := #[{ on := 9, ground := Go.Ground.data }], guard := none }) (v := ?vm1910) rfl (by kernel_rfl) (by kernel_rfl) (by kernel_rfl) (fun _ _ _ h => h) (Or.inl ⟨by rfl, ?hym1910⟩) (by assumption) ?_
          case hym1910 => (intro wz hSw; (try dsimp only at hSw); go_simp; try with_reducible rfl)
          (try simp only [Act.put, List.setIfInBounds_toArray, List.set_cons_zero, List.set_cons_succ])
          refine wpAnyH_take (i := 11) (oi := { dst := some 136, op := Go.Op.extract (Go.Operand.tmp 125) 1, type := 24, pos := _, after := #[{ on := 9, ground := Go.Ground.data }, { on := 12, ground := Go.Ground.gcOnly Go.Departure.lateStores }], guard := none }) (v := ?vm1911) rfl (by kernel_rfl) (by kernel_rfl) (by kernel_rfl) (fun _ _ _ h => h) (Or.inl ⟨by rfl, ?hym1911⟩) (by assumption) ?_
          case hym1911 => (intro wz hSw; (try dsimp only at hSw); go_simp; try with_reducible rfl)
          (try simp only [Act.put, List.setIfInBounds_toArray, List.set_cons_zero, List.set_cons_succ])
          refine wpAnyH_take (i := 12) (oi := { dst := some 16, op := Go.Op.assign (Go.Operand.tmp 135), type := 28, pos := _, after := #[{ on := 10, ground := Go.Ground.data }, { on := 8, ground := Go.Ground.chain }, { on := 0, ground := Go.Ground.phase }, { on := 1, ground := Go.Ground.phase }, { on := 2, ground := Go.Ground.phase }, { on := 3, ground := Go.Ground.phase }, { on := 4, ground := Go.Ground.phase }, { on := 5, ground := Go.Ground.phase }, { on := 6, ground := Go.Ground.phase }, { on := 7, ground := Go.Ground.phase }, { on := 8, ground := Go.Ground.phase }, { on := 9, ground := Go.Ground.phase }, { on := 10, ground := Go.Ground.phase }, { on := 11, ground := Go.Ground.textOnly Go.Departure.lateStores }], guard := none }) (v := ?vm1912) rfl (by kernel_rfl) (by kernel_rfl) (by kernel_rfl) (fun _ _ _ h => h) (Or.inl ⟨by rfl, ?hym1912⟩) (by assumption) ?_
          case hym1912 => (intro wz hSw; (try dsimp only at hSw); go_simp; try with_reducible rfl)
          (try simp only [Act.put, List.setIfInBounds_toArray, List.set_cons_zero, List.set_cons_succ])
          refine wpAnyH_take (i := 13) (oi := { dst := some 17, op := Go.Op.assign (Go.Operand.tmp 136), type := 24, pos := _, after := #[{ on := 11, ground := Go.Ground.data }, { on := 12, ground := Go.Ground.chain }, { on := 0, ground := Go.Ground.phase }, { on := 1, ground := Go.Ground.phase }, { on := 2, ground := Go.Ground.phase }, { on := 3, ground := Go.Ground.phase }, { on := 4, ground := Go.Ground.phase }, { on := 5, ground := Go.Ground.phase }, { on := 6, ground := Go.Ground.phase }, { on := 7, ground := Go.Ground.phase }, { on := 8, ground := Go.Ground.phase }, { on := 9, ground := Go.Ground.phase }, { on := 10, ground := Go.Ground.phase }, { on := 11, ground := Go.Ground.phase }, { on := 12, ground := Go.Ground.phase }], guard := none }) (v := ?vm1913) rfl (by kernel_rfl) (by kernel_rfl) (by kernel_rfl) (fun _ _ _ h => h) (Or.inl ⟨by rfl, ?hym1913⟩) (by assumption) ?_
          case hym1913 => (intro wz hSw; (try dsimp only at hSw); go_simp; try with_reducible rfl)
          (try simp only [Act.put, List.setIfInBounds_toArray, List.set_cons_zero, List.set_cons_succ])
          refine wpAnyH_done (by kernel_rfl) ?_ _
          clear hHeld BK MK P5 X4 X5 z1 z2 z6 y1 y2 y6 x0 x1 x2 x3 x4 x5 x6
          go_wp2_with fail
          have P7 := Lib.hid (P6.out.below (bdr w6))
          have X7 := Lib.hid (X6.out.below (bdr w6))
          obtain ⟨x0, x1, x2, x3, x4, x5, x6⟩ := X6.out.cells
          have BK := Lib.hid (back_any (HX.out.below P7.out.bel) (by omega))
          clear P6
          refine wp_region_held_drew (S := fun w' => w'.cell? ⟨C, 1, none⟩ = some (.int .i64 r.kind) ∧ w'.cell? ⟨C, 2, none⟩ = some (.int .i64 r.tag) ∧ w'.cell? ⟨C, 6, none⟩ = some (.slice Ax nx cx)) (by kernel_rfl) ?_ (fun hHeld => ?_)
          · (try dsimp only); go_keep
          refine wpAnyH_take (i := 0) (oi := { dst := some 138, op := Go.Op.move (Go.Operand.tmp 14), type := 23, pos := _, after := #[], guard := none }) (v := ?vm200) rfl (by kernel_rfl) (by kernel_rfl) (by kernel_rfl) (fun _ _ _ h => h) (Or.inl ⟨by rfl, ?hym200⟩) (by assumption) ?_
          case hym200 => (intro wz hSw; (try dsimp only at hSw); go_simp; try with_reducible rfl)
          (try simp only [Act.put, List.setIfInBounds_toArray, List.set_cons_zero, List.set_cons_succ])
          refine wpAnyH_take (i := 1) (oi := { dst := some 139, op := Go.Op.fieldAddr 49 (Go.Operand.tmp 5) 1, type := 0, pos := _, after := #[], guard := none }) (v := ?vm201) rfl (by kernel_rfl) (by kernel_rfl) (by kernel_rfl) (fun _ _ _ h => h) (Or.inl ⟨by rfl, ?hym201⟩) (by assumption) ?_
          case hym201 => (intro wz hSw; (try dsimp only at hSw); go_simp; try with_reducible rfl)
          (try simp only [Act.put, List.setIfInBounds_toArray, List.set_cons_zero, List.set_cons_succ])
          refine wpAnyH_take (i := 2) (oi := { dst := some 140, op := Go.Op.load 3 (Go.Operand.tmp 139), type := 3, pos := _, after := #[{ on := 1, ground := Go.Ground.data }], guard := none }) (v := ?vm202) rfl (by kernel_rfl) (by kernel_rfl) (by kernel_rfl) (fun _ _ _ h => h) (Or.inl ⟨by rfl, ?hym202⟩) (by assumption) ?_
          case hym202 => (intro wz hSw; (try dsimp only at hSw); go_simp; try with_reducible rfl)
          (try simp only [Act.put, List.setIfInBounds_toArray, List.set_cons_zero, List.set_cons_succ])
          refine wpAnyH_take (i := 3) (oi := { dst := some 141, op := Go.Op.fieldAddr 49 (Go.Operand.tmp 5) 2, type := 0, pos := _, after := #[], guard := none }) (v := ?vm203) rfl (by kernel_rfl) (by kernel_rfl) (by kernel_rfl) (fun _ _ _ h => h) (Or.inl ⟨by rfl, ?hym203⟩) (by assumption) ?_
          case hym203 => (intro wz hSw; (try dsimp only at hSw); go_simp; try with_reducible rfl)
          (try simp only [Act.put, List.setIfInBounds_toArray, List.set_cons_zero, List.set_cons_succ])
          refine wpAnyH_take (i := 4) (oi := { dst := some 142, op := Go.Op.load 3 (Go.Operand.tmp 141), type := 3, pos := _, after := #[{ on := 3, ground := Go.Ground.data }], guard := none }) (v := ?vm204) rfl (by kernel_rfl) (by kernel_rfl) (by kernel_rfl) (fun _ _ _ h => h) (Or.inl ⟨by rfl, ?hym204⟩) (by assumption) ?_
          case hym204 => (intro wz hSw; (try dsimp only at hSw); go_simp; try with_reducible rfl)
          (try simp only [Act.put, List.setIfInBounds_toArray, List.set_cons_zero, List.set_cons_succ])
          refine wpAnyH_take (i := 5) (oi := { dst := some 143, op := Go.Op.fieldAddr 49 (Go.Operand.tmp 5) 6, type := 0, pos := _, after := #[], guard := none }) (v := ?vm205) rfl (by kernel_rfl) (by kernel_rfl) (by kernel_rfl) (fun _ _ _ h => h) (Or.inl ⟨by rfl, ?hym205⟩) (by assumption) ?_
          case hym205 => (intro wz hSw; (try dsimp only at hSw); go_simp; try with_reducible rfl)
          (try simp only [Act.put, List.setIfInBounds_toArray, List.set_cons_zero, List.set_cons_succ])
          refine wpAnyH_take (i := 6) (oi := { dst := some 144, op := Go.Op.load 45 (Go.Operand.tmp 143), type := 45, pos := _, after := #[{ on := 5, ground := Go.Ground.data }], guard := none }) (v := ?vm206) rfl (by kernel_rfl) (by kernel_rfl) (by kernel_rfl) (fun _ _ _ h => h) (Or.inl ⟨by rfl, ?hym206⟩) (by assumption) ?_
          case hym206 => (intro wz hSw; (try dsimp only at hSw); go_simp; try with_reducible rfl)
          (try simp only [Act.put, List.setIfInBounds_toArray, List.set_cons_zero, List.set_cons_succ])
          refine wpAnyH_ready (rs := [7]) (by kernel_rfl) (by simp) ?_
          refine AllReadyH.cons (o := { dst := some 145, op := Go.Op.call { callee := Go.Callee.value (Go.Operand.func 21), args := #[Go.Operand.tmp 144], argTypes := #[45] }, type := 34, pos := _, after := #[{ on := 6, ground := Go.Ground.data }], guard := none }) rfl (fun K hK => ?_) AllReadyH.nil
          go_simp
          refine BK.out.mono ?_; rintro e wq ⟨v3, rfl, hv, hbv⟩
          have MK := Lib.hid (make_own4 P7.out.hq hbv.out hv.out r.kind r.tag HXS.out (by omega))
          rw [← HMV.out.1, ← HMV.out.2.1, ← HMV.out.2.2] at MK
          have cx3 := (X7.out.below hbv.out).cells
          obtain ⟨_, y1, y2, _, _, _, y6⟩ := cx3
          go_wp2_with fail
          refine hK.out _ _ ?_ (fun hHeld => ?_)
          · (try dsimp only); go_keep
          clear hK K
          (try simp only [Act.put, List.setIfInBounds_toArray, List.set_cons_zero, List.set_cons_succ])
          refine wpAnyH_ready (rs := [8]) (by kernel_rfl) (by simp) ?_
          refine AllReadyH.cons (o := { dst := some 146, op := Go.Op.call { callee := Go.Callee.value (Go.Operand.func 11), args := #[Go.Operand.tmp 138, Go.Operand.tmp 140, Go.Operand.tmp 142, Go.Operand.tmp 145], argTypes := #[23, 3, 3, 34] }, type := 29, pos := _, after := #[{ on := 0, ground := Go.Ground.data }, { on := 2, ground := Go.Ground.data }, { on := 4, ground := Go.Ground.data }, { on := 7, ground := Go.Ground.data }, { on := 7, ground := Go.Ground.chain }], guard := none }) rfl (fun K hK => ?_) AllReadyH.nil
          go_simp
          refine MK.out.mono ?_; rintro e w8 ⟨rfl, hp4, hf4, hn4⟩
          have P8 := Lib.hid (P7.out.putQ hp4.out hf4.out hn4.out)
          have X8 := Lib.hid (X7.out.frm hf4.out (X7.out.hr P7.out.hq CN.out.2))
          obtain ⟨_, z1, z2, _, _, _, z6⟩ := X8.out.cells
          go_wp2_with fail
          refine hK.out _ _ ?_ (fun hHeld => ?_)
          · (try dsimp only); go_keep
          clear hK K
          (try simp only [Act.put, List.setIfInBounds_toArray, List.set_cons_zero, List.set_cons_succ])
          refine wpAnyH_take (i := 9) (oi := { dst := some 137, op := Go.Op.move (Go.Operand.tmp 146), type := 29, pos := _, after := #[{ on := 8, ground := Go.Ground.data }], guard := none }) (v := ?vm209) rfl (by kernel_rfl) (by kernel_rfl) (by kernel_rfl) (fun _ _ _ h => h) (Or.inl ⟨by rfl, ?hym209⟩) (by assumption) ?_
          case hym209 => (intro wz hSw; (try dsimp only at hSw); go_simp; try with_reducible rfl)
          (try simp only [Act.put, List.setIfInBounds_toArray, List.set_cons_zero, List.set_cons_succ])
          refine wpAnyH_take (i := 10) (oi := { dst := some 147, op := Go.Op.extract (Go.Operand.tmp 137) 0, type := 28, pos := _, after := #[{ on := 9, ground := Go.Ground.data }], guard := none }) (v := ?vm2010) rfl (by kernel_rfl) (by kernel_rfl) (by kernel_rfl) (fun _ _ _ h => h) (Or.inl ⟨by rfl, ?hym2010⟩) (by assumption) ?_
          case hym2010 => (intro wz hSw; (try dsimp only at hSw); go_simp; try with_reducible rfl)
          (try simp only [Act.put, List.setIfInBounds_toArray, List.set_cons_zero, List.set_cons_succ])
          refine wpAnyH_take (i := 11) (oi := { dst := some 148, op := Go.Op.extract (Go.Operand.tmp 137) 1, type := 24, pos := _, after := #[{ on := 9, ground := Go.Ground.data }, { on := 12, ground := Go.Ground.gcOnly Go.Departure.lateStores }], guard := none }) (v := ?vm2011) rfl (by kernel_rfl) (by kernel_rfl) (by kernel_rfl) (fun _ _ _ h => h) (Or.inl ⟨by rfl, ?hym2011⟩) (by assumption) ?_
          case hym2011 => (intro wz hSw; (try dsimp only at hSw); go_simp; try with_reducible rfl)
          (try simp only [Act.put, List.setIfInBounds_toArray, List.set_cons_zero, List.set_cons_succ])
          refine wpAnyH_take (i := 12) (oi := { dst := some 18, op := Go.Op.assign (Go.Operand.tmp 147), type := 28, pos := _, after := #[{ on := 10, ground := Go.Ground.data }, { on := 8, ground := Go.Ground.chain }, { on := 0, ground := Go.Ground.phase }, { on := 1, ground := Go.Ground.phase }, { on := 2, ground := Go.Ground.phase }, { on := 3, ground := Go.Ground.phase }, { on := 4, ground := Go.Ground.phase }, { on := 5, ground := Go.Ground.phase }, { on := 6, ground := Go.Ground.phase }, { on := 7, ground := Go.Ground.phase }, { on := 8, ground := Go.Ground.phase }, { on := 9, ground := Go.Ground.phase }, { on := 10, ground := Go.Ground.phase }, { on := 11, ground := Go.Ground.textOnly Go.Departure.lateStores }], guard := none }) (v := ?vm2012) rfl (by kernel_rfl) (by kernel_rfl) (by kernel_rfl) (fun _ _ _ h => h) (Or.inl ⟨by rfl, ?hym2012⟩) (by assumption) ?_
          case hym2012 => (intro wz hSw; (try dsimp only at hSw); go_simp; try with_reducible rfl)
          (try simp only [Act.put, List.setIfInBounds_toArray, List.set_cons_zero, List.set_cons_succ])
          refine wpAnyH_take (i := 13) (oi := { dst := some 19, op := Go.Op.assign (Go.Operand.tmp 148), type := 24, pos := _, after := #[{ on := 11, ground := Go.Ground.data }, { on := 12, ground := Go.Ground.chain }, { on := 0, ground := Go.Ground.phase }, { on := 1, ground := Go.Ground.phase }, { on := 2, ground := Go.Ground.phase }, { on := 3, ground := Go.Ground.phase }, { on := 4, ground := Go.Ground.phase }, { on := 5, ground := Go.Ground.phase }, { on := 6, ground := Go.Ground.phase }, { on := 7, ground := Go.Ground.phase }, { on := 8, ground := Go.Ground.phase }, { on := 9, ground := Go.Ground.phase }, { on := 10, ground := Go.Ground.phase }, { on := 11, ground := Go.Ground.phase }, { on := 12, ground := Go.Ground.phase }], guard := none }) (v := ?vm2013) rfl (by kernel_rfl) (by kernel_rfl) (by kernel_rfl) (fun _ _ _ h => h) (Or.inl ⟨by rfl, ?hym2013⟩) (by assumption) ?_
          case hym2013 => (intro wz hSw; (try dsimp only at hSw); go_simp; try with_reducible rfl)
          (try simp only [Act.put, List.setIfInBounds_toArray, List.set_cons_zero, List.set_cons_succ])
          refine wpAnyH_done (by kernel_rfl) ?_ _
          clear hHeld BK MK P7 X6 X7 z1 z2 z6 y1 y2 y6 x0 x1 x2 x3 x4 x5 x6 X8 HMV
          have PA := Lib.hid (P8.out.pw.below (bdr w8))
          have HM1 := Lib.hid (one_u64 HMU.out)
          clear P8 HMU
          go_wp2_with fail
          refine wp_region_held_drew (S := fun w' => True) (by kernel_rfl) ?_ (fun hHeld => ?_)
          · trivial
          refine wpAnyH_take (i := 0) (oi := { dst := some 149, op := Go.Op.move (Go.Operand.tmp 16), type := 28, pos := _, after := #[], guard := none }) (v := ?vg0) rfl (by kernel_rfl) (by kernel_rfl) (by kernel_rfl) (fun _ _ _ h => h) (Or.inl ⟨by rfl, ?hyg0⟩) (by assumption) ?_
          case hyg0 => (intro wz hSw; (try dsimp only at hSw); go_simp; try with_reducible rfl)
          (try simp only [Act.put, List.setIfInBounds_toArray, List.set_cons_zero, List.set_cons_succ])
          refine wpAnyH_take (i := 1) (oi := { dst := some 150, op := Go.Op.move (Go.Operand.tmp 18), type := 28, pos := _, after := #[], guard := none }) (v := ?vg1) rfl (by kernel_rfl) (by kernel_rfl) (by kernel_rfl) (fun _ _ _ h => h) (Or.inl ⟨by rfl, ?hyg1⟩) (by assumption) ?_
          case hyg1 => (intro wz hSw; (try dsimp only at hSw); go_simp; try with_reducible rfl)
          (try simp only [Act.put, List.setIfInBounds_toArray, List.set_cons_zero, List.set_cons_succ])
          refine wpAnyH_take (i := 2) (oi := { dst := some 151, op := Go.Op.binOp Go.BinOp.eql 28 (Go.Operand.tmp 149) (Go.Operand.tmp 150) 28, type := 4, pos := _, after := #[{ on := 0, ground := Go.Ground.data }, { on := 1, ground := Go.Ground.data }], guard := none }) (v := ?vg2) rfl (by kernel_rfl) (by kernel_rfl) (by kernel_rfl) (fun _ _ _ h => h) (Or.inl ⟨by rfl, ?hyg2⟩) (by assumption) ?_
          case hyg2 => (intro wz hSw; (try dsimp only at hSw); go_simp; try with_reducible rfl)
          (try simp only [Act.put, List.setIfInBounds_toArray, List.set_cons_zero, List.set_cons_succ])
          refine wpAnyH_take (i := 3) (oi := { dst := some 152, op := Go.Op.move (Go.Operand.tmp 151), type := 4, pos := _, after := #[{ on := 2, ground := Go.Ground.data }], guard := none }) (v := ?vg3) rfl (by kernel_rfl) (by kernel_rfl) (by kernel_rfl) (fun _ _ _ h => h) (Or.inl ⟨by rfl, ?hyg3⟩) (by assumption) ?_
          case hyg3 => (intro wz hSw; (try dsimp only at hSw); go_simp; try with_reducible rfl)
          (try simp only [Act.put, List.setIfInBounds_toArray, List.set_cons_zero, List.set_cons_succ])
          refine wpAnyH_take (i := 4) (oi := { dst := some 153, op := Go.Op.move (Go.Operand.tmp 17), type := 24, pos := _, after := #[{ on := 3, ground := Go.Ground.guard }], guard := some (3, true) }) (v := ?vg4) rfl (by kernel_rfl) (by kernel_rfl) (by kernel_rfl) (fun _ _ _ h => h) (Or.inl ⟨by rfl, ?hyg4⟩) (by assumption) ?_
          case hyg4 => (intro wz hSw; (try dsimp only at hSw); go_simp; try with_reducible rfl)
          (try simp only [Act.put, List.setIfInBounds_toArray, List.set_cons_zero, List.set_cons_succ])
          refine wpAnyH_take (i := 5) (oi := { dst := some 154, op := Go.Op.move (Go.Operand.tmp 19), type := 24, pos := _, after := #[{ on := 3, ground := Go.Ground.guard }], guard := some (3, true) }) (v := ?vg5) rfl (by kernel_rfl) (by kernel_rfl) (by kernel_rfl) (fun _ _ _ h => h) (Or.inl ⟨by rfl, ?hyg5⟩) (by assumption) ?_
          case hyg5 => (intro wz hSw; (try dsimp only at hSw); go_simp; try with_reducible rfl)
          (try simp only [Act.put, List.setIfInBounds_toArray, List.set_cons_zero, List.set_cons_succ])
          refine wpAnyH_take (i := 6) (oi := { dst := some 155, op := Go.Op.binOp Go.BinOp.eql 24 (Go.Operand.tmp 153) (Go.Operand.tmp 154) 24, type := 4, pos := _, after := #[{ on := 4, ground := Go.Ground.data }, { on := 5, ground := Go.Ground.data }, { on := 3, ground := Go.Ground.guard }], guard := some (3, true) }) (v := ?vg6) rfl (by kernel_rfl) (by kernel_rfl) (by kernel_rfl) (fun _ _ _ h => h) (Or.inl ⟨by rfl, ?hyg6⟩) (by assumption) ?_
          case hyg6 => (intro wz hSw; (try dsimp only at hSw); go_simp; try with_reducible rfl)
          (try simp only [Act.put, List.setIfInBounds_toArray, List.set_cons_zero, List.set_cons_succ])
          refine wpAnyH_take (i := 7) (oi := { dst := some 156, op := Go.Op.pick (Go.Operand.tmp 152) (Go.Operand.tmp 155) (Go.Operand.const (Go.Value.bool false)), type := 4, pos := _, after := #[{ on := 3, ground := Go.Ground.data }, { on := 6, ground := Go.Ground.data }], guard := none }) (v := ?vg7) rfl (by kernel_rfl) (by kernel_rfl) (by kernel_rfl) (fun _ _ _ h => h) (Or.inl ⟨by rfl, ?hyg7⟩) (by assumption) ?_
          case hyg7 => (intro wz hSw; (try dsimp only at hSw); go_simp; try with_reducible rfl)
          (try simp only [Act.put, List.setIfInBounds_toArray, List.set_cons_zero, List.set_cons_succ])
          refine wpAnyH_take (i := 8) (oi := { dst := some 157, op := Go.Op.move (Go.Operand.tmp 156), type := 4, pos := _, after := #[{ on := 7, ground := Go.Ground.data }, { on := 3, ground := Go.Ground.chain }], guard := none }) (v := ?vg8) rfl (by kernel_rfl) (by kernel_rfl) (by kernel_rfl) (fun _ _ _ h => h) (Or.inl ⟨by rfl, ?hyg8⟩) (by assumption) ?_
          case hyg8 => (intro wz hSw; (try dsimp only at hSw); go_simp; try with_reducible rfl)
          (try simp only [Act.put, List.setIfInBounds_toArray, List.set_cons_zero, List.set_cons_succ])
          refine wpAnyH_take (i := 9) (oi := { dst := some 158, op := Go.Op.move (Go.Operand.tmp 11), type := 23, pos := _, after := #[{ on := 8, ground := Go.Ground.guard }], guard := some (8, true) }) (v := ?vg9) rfl (by kernel_rfl) (by kernel_rfl) (by kernel_rfl) (fun _ _ _ h => h) (Or.inl ⟨by rfl, ?hyg9⟩) (by assumption) ?_
          case hyg9 => (intro wz hSw; (try dsimp only at hSw); go_simp; try with_reducible rfl)
          (try simp only [Act.put, List.setIfInBounds_toArray, List.set_cons_zero, List.set_cons_succ])
          refine wpAnyH_take (i := 10) (oi := { dst := some 159, op := Go.Op.move (Go.Operand.tmp 16), type := 28, pos := _, after := #[{ on := 8, ground := Go.Ground.guard }], guard := some (8, true) }) (v := ?vg10) rfl (by kernel_rfl) (by kernel_rfl) (by kernel_rfl) (fun _ _ _ h => h) (Or.inl ⟨by rfl, ?hyg10⟩) (by assumption) ?_
          case hyg10 => (intro wz hSw; (try dsimp only at hSw); go_simp; try with_reducible rfl)
          (try simp only [Act.put, List.setIfInBounds_toArray, List.set_cons_zero, List.set_cons_succ])
          refine wpAnyH_take (i := 14) (oi := { dst := some 163, op := Go.Op.move (Go.Operand.tmp 14), type := 23, pos := _, after := #[{ on := 8, ground := Go.Ground.guard }], guard := some (8, true) }) (v := ?vg14) rfl (by kernel_rfl) (by kernel_rfl) (by kernel_rfl) (fun _ _ _ h => h) (Or.inl ⟨by rfl, ?hyg14⟩) (by assumption) ?_
          case hyg14 => (intro wz hSw; (try dsimp only at hSw); go_simp; try with_reducible rfl)
          (try simp only [Act.put, List.setIfInBounds_toArray, List.set_cons_zero, List.set_cons_succ])
          refine wpAnyH_take (i := 15) (oi := { dst := some 164, op := Go.Op.move (Go.Operand.tmp 18), type := 28, pos := _, after := #[{ on := 8, ground := Go.Ground.guard }], guard := some (8, true) }) (v := ?vg15) rfl (by kernel_rfl) (by kernel_rfl) (by kernel_rfl) (fun _ _ _ h => h) (Or.inl ⟨by rfl, ?hyg15⟩) (by assumption) ?_
          case hyg15 => (intro wz hSw; (try dsimp only at hSw); go_simp; try with_reducible rfl)
          (try simp only [Act.put, List.setIfInBounds_toArray, List.set_cons_zero, List.set_cons_succ])
          obtain ⟨wd0, hwd0⟩ : ∃ z, z = w8.drew := ⟨_, rfl⟩
          rw [← hwd0] at PA ⊢
          clear hwd0
          refine wpAnyH_ready (rs := [11, 16]) (by kernel_rfl) (by simp) ?_
          refine AllReadyH.cons (o := { dst := some 160, op := Go.Op.buildSlice 34 1 #[(0, Go.Operand.tmp 159)], type := 34, pos := _, after := #[{ on := 10, ground := Go.Ground.data }, { on := 8, ground := Go.Ground.guard }], guard := some (8, true) }) rfl (fun K hK => ?_) (AllReadyH.cons (o := { dst := some 165, op := Go.Op.buildSlice 34 1 #[(0, Go.Operand.tmp 164)], type := 34, pos := _, after := #[{ on := 15, ground := Go.Ground.data }, { on := 8, ground := Go.Ground.guard }], guard := some (8, true) }) rfl (fun K hK => ?_) AllReadyH.nil)
          · rw [if_pos (by rfl)]
            go_simp
            refine hK.out _ _ trivial (fun hHeld1 => ?_)
            clear hK K
            (try simp only [Act.put, List.setIfInBounds_toArray, List.set_cons_zero, List.set_cons_succ])
            obtain ⟨wn1, hw1⟩ : ∃ z, z = wd0.alloc (.cells #[.int .u64 mv] 28) := ⟨_, rfl⟩
            have bl1 : Hid (Below wd0.heap.size wd0 wn1) := Lib.hid (by rw [hw1]; exact below_alloc wd0 _)
            obtain ⟨bb1, hb1⟩ : ∃ z, z = wd0.heap.size := ⟨_, rfl⟩
            have in1 : Hid (InW wn1 (some ⟨bb1, 0, none⟩) 1 [mv] ∧ bb1 ≠ H ∧ bb1 ≠ H2) := Lib.hid ⟨by rw [hw1, hb1]; exact inW_new wd0 [mv] 1, by have := PA.out.hp.lt; omega, by have := PA.out.hq.lt; omega⟩
            rw [← hw1, ← hb1]
            clear hw1 hb1
            have Pn1 := Lib.hid (PA.out.below bl1.out)
            refine wpAnyH_ready (rs := [12, 16]) (by kernel_rfl) (by simp) ?_
            refine AllReadyH.cons (o := { dst := some 161, op := Go.Op.call { callee := Go.Callee.value (Go.Operand.func 16), args := #[Go.Operand.tmp 158, Go.Operand.tmp 160], argTypes := #[23, 34] }, type := 34, pos := _, after := #[{ on := 9, ground := Go.Ground.data }, { on := 11, ground := Go.Ground.data }, { on := 8, ground := Go.Ground.chain }, { on := 8, ground := Go.Ground.guard }], guard := some (8, true) }) rfl (fun K hK => ?_) (AllReadyH.cons (o := { dst := some 165, op := Go.Op.buildSlice 34 1 #[(0, Go.Operand.tmp 164)], type := 34, pos := _, after := #[{ on := 15, ground := Go.Ground.data }, { on := 8, ground := Go.Ground.guard }], guard := some (8, true) }) rfl (fun K hK => ?_) AllReadyH.nil)
            · rw [if_pos (by rfl)]
              go_simp
              have CL2 := Lib.hid (collect_any Pn1.out.hp in1.out.1 HM1.out (by simp))
              refine CL2.out.mono ?_; rintro e wn2 ⟨O2, rfl, h2⟩
              have Pn2 := Lib.hid (Pn1.out.colP h2.out.1 h2.out.2.1)
              have xn2 := Lib.hid (inW_of h2.out.2.2.1)
              clear CL2 h2
              go_wp2_with fail
              refine hK.out _ _ trivial (fun hHeld2 => ?_)
              clear hK K
              (try simp only [Act.put, List.setIfInBounds_toArray, List.set_cons_zero, List.set_cons_succ])
              refine wpAnyH_ready (rs := [13, 16]) (by kernel_rfl) (by simp) ?_
              refine AllReadyH.cons (o := { dst := some 162, op := Go.Op.call { callee := Go.Callee.value (Go.Operand.func 25), args := #[Go.Operand.tmp 161], argTypes := #[34] }, type := 45, pos := _, after := #[{ on := 12, ground := Go.Ground.data }, { on := 12, ground := Go.Ground.chain }, { on := 8, ground := Go.Ground.guard }], guard := some (8, true) }) rfl (fun K hK => ?_) (AllReadyH.cons (o := { dst := some 165, op := Go.Op.buildSlice 34 1 #[(0, Go.Operand.tmp 164)], type := 34, pos := _, after := #[{ on := 15, ground := Go.Ground.data }, { on := 8, ground := Go.Ground.guard }], guard := some (8, true) }) rfl (fun K hK => ?_) AllReadyH.nil)
              · rw [if_pos (by rfl)]
                go_simp
                have WD3 := Lib.hid (words_any xn2.out.1 xn2.out.2 (by simp))
                refine WD3.out.mono ?_; rintro e wn3 ⟨vv3, rfl, vn3, bn3⟩
                have Pn3 := Lib.hid (Pn2.out.below bn3.out)
                have vn3 := Lib.hid (And.intro vn3.out Pn2.out.hq.lt)
                clear WD3
                go_wp2_with fail
                refine hK.out _ _ trivial (fun hHeld3 => ?_)
                clear hK K
                (try simp only [Act.put, List.setIfInBounds_toArray, List.set_cons_zero, List.set_cons_succ])
                refine wpAnyH_ready (rs := [16]) (by kernel_rfl) (by simp) ?_
                refine AllReadyH.cons (o := { dst := some 165, op := Go.Op.buildSlice 34 1 #[(0, Go.Operand.tmp 164)], type := 34, pos := _, after := #[{ on := 15, ground := Go.Ground.data }, { on := 8, ground := Go.Ground.guard }], guard := some (8, true) }) rfl (fun K hK => ?_) AllReadyH.nil
                rw [if_pos (by rfl)]
                go_simp
                refine hK.out _ _ trivial (fun hHeld4 => ?_)
                clear hK K
                (try simp only [Act.put, List.setIfInBounds_toArray, List.set_cons_zero, List.set_cons_succ])
                obtain ⟨wn4, hw4⟩ : ∃ z, z = wn3.alloc (.cells #[.int .u64 mv] 28) := ⟨_, rfl⟩
                have bl4 : Hid (Below wn3.heap.size wn3 wn4) := Lib.hid (by rw [hw4]; exact below_alloc wn3 _)
                obtain ⟨bb4, hb4⟩ : ∃ z, z = wn3.heap.size := ⟨_, rfl⟩
                have in4 : Hid (InW wn4 (some ⟨bb4, 0, none⟩) 1 [mv] ∧ bb4 ≠ H ∧ bb4 ≠ H2) := Lib.hid ⟨by rw [hw4, hb4]; exact inW_new wn3 [mv] 1, by have := Pn3.out.hp.lt; omega, by have := Pn3.out.hq.lt; omega⟩
                rw [← hw4, ← hb4]
                clear hw4 hb4
                have Pn4 := Lib.hid (Pn3.out.below bl4.out)
                have vn4 := Lib.hid (And.intro (own_below vn3.out.1 bl4.out) vn3.out.2)
                have CL := Lib.hid (collect_any Pn4.out.hq in4.out.1 HM1.out (by simp))
                refine wpAnyH_ready (rs := [17]) (by kernel_rfl) (by simp) ?_
                refine AllReadyH.cons (o := { dst := some 166, op := Go.Op.call { callee := Go.Callee.value (Go.Operand.func 16), args := #[Go.Operand.tmp 163, Go.Operand.tmp 165], argTypes := #[23, 34] }, type := 34, pos := _, after := #[{ on := 14, ground := Go.Ground.data }, { on := 16, ground := Go.Ground.data }, { on := 13, ground := Go.Ground.chain }, { on := 8, ground := Go.Ground.guard }], guard := some (8, true) }) rfl (fun K hK => ?_) AllReadyH.nil
                rw [if_pos (by rfl)]
                go_simp
                refine (CL.out).mono ?_; rintro e wc ⟨O2, rfl, hc⟩
                have PC := Lib.hid (Pn4.out.colQ hc.out.1 hc.out.2.1)
                have xc := Lib.hid (inW_of hc.out.2.2.1)
                have vc := Lib.hid (row_frm vn4.out.1 hc.out.2.1 (fun k hk => by subst hk; exact vn4.out.2))
                clear CL hc
                go_wp2_with fail
                refine hK.out _ _ trivial (fun hHeld => ?_)
                clear hK K
                (try simp only [Act.put, List.setIfInBounds_toArray, List.set_cons_zero, List.set_cons_succ])
                have WD := Lib.hid (words_any xc.out.1 xc.out.2 (by simp))
                refine wpAnyH_ready (rs := [18]) (by kernel_rfl) (by simp) ?_
                refine AllReadyH.cons (o := { dst := some 167, op := Go.Op.call { callee := Go.Callee.value (Go.Operand.func 25), args := #[Go.Operand.tmp 166], argTypes := #[34] }, type := 45, pos := _, after := #[{ on := 17, ground := Go.Ground.data }, { on := 17, ground := Go.Ground.chain }, { on := 8, ground := Go.Ground.guard }], guard := some (8, true) }) rfl (fun K hK => ?_) AllReadyH.nil
                rw [if_pos (by rfl)]
                go_simp
                refine (WD.out).mono ?_; rintro e wd_ ⟨vw, rfl, ow, bw⟩
                have PD := Lib.hid (PC.out.below bw.out)
                have vd := Lib.hid (own_below vc.out bw.out)
                obtain ⟨Av, cv, rfl, hin5, hlx5⟩ := own_inW vd.out
                obtain ⟨Aw, cw, rfl, hin6, hlx6⟩ := own_inW ow.out
                have SM := Lib.hid (same_yes hin5 hin6 hlx5 (by simp))
                clear WD hin5 hin6 vd ow
                go_wp2_with fail
                refine hK.out _ _ trivial (fun hHeld => ?_)
                clear hK K
                (try simp only [Act.put, List.setIfInBounds_toArray, List.set_cons_zero, List.set_cons_succ])
                refine wpAnyH_ready (rs := [19]) (by kernel_rfl) (by simp) ?_
                refine AllReadyH.cons (o := { dst := some 168, op := Go.Op.call { callee := Go.Callee.value (Go.Operand.func 24), args := #[Go.Operand.tmp 162, Go.Operand.tmp 167], argTypes := #[45, 45] }, type := 4, pos := _, after := #[{ on := 13, ground := Go.Ground.data }, { on := 18, ground := Go.Ground.data }, { on := 18, ground := Go.Ground.chain }, { on := 8, ground := Go.Ground.guard }], guard := some (8, true) }) rfl (fun K hK => ?_) AllReadyH.nil
                rw [if_pos (by rfl)]
                go_simp
                refine (SM.out).mono ?_; rintro e we ⟨rfl, be⟩
                have PE := Lib.hid (PD.out.below be)
                clear SM be
                go_wp2_with fail
                refine hK.out _ _ trivial (fun hHeld => ?_)
                clear hK K
                (try simp only [Act.put, List.setIfInBounds_toArray, List.set_cons_zero, List.set_cons_succ])
                refine wpAnyH_take (i := 20) (oi := { dst := some 169, op := Go.Op.pick (Go.Operand.tmp 157) (Go.Operand.tmp 168) (Go.Operand.const (Go.Value.bool false)), type := 4, pos := _, after := #[{ on := 8, ground := Go.Ground.data }, { on := 19, ground := Go.Ground.data }], guard := none }) (v := ?vf420) rfl (by kernel_rfl) (by kernel_rfl) (by kernel_rfl) (fun _ _ _ h => h) (Or.inl ⟨by rfl, ?hyf420⟩) (by assumption) ?_
                case hyf420 => (intro wz hSw; (try dsimp only at hSw); go_simp; try with_reducible rfl)
                (try simp only [Act.put, List.setIfInBounds_toArray, List.set_cons_zero, List.set_cons_succ])
                refine wpAnyH_take (i := 21) (oi := { dst := some 170, op := Go.Op.move (Go.Operand.tmp 169), type := 4, pos := _, after := #[{ on := 20, ground := Go.Ground.data }, { on := 19, ground := Go.Ground.chain }], guard := none }) (v := ?vf421) rfl (by kernel_rfl) (by kernel_rfl) (by kernel_rfl) (fun _ _ _ h => h) (Or.inl ⟨by rfl, ?hyf421⟩) (by assumption) ?_
                case hyf421 => (intro wz hSw; (try dsimp only at hSw); go_simp; try with_reducible rfl)
                (try simp only [Act.put, List.setIfInBounds_toArray, List.set_cons_zero, List.set_cons_succ])
                refine wpAnyH_take (i := 22) (oi := { dst := some 171, op := Go.Op.move (Go.Operand.tmp 11), type := 23, pos := _, after := #[{ on := 21, ground := Go.Ground.guard }], guard := some (21, true) }) (v := ?vf422) rfl (by kernel_rfl) (by kernel_rfl) (by kernel_rfl) (fun _ _ _ h => h) (Or.inl ⟨by rfl, ?hyf422⟩) (by assumption) ?_
                case hyf422 => (intro wz hSw; (try dsimp only at hSw); go_simp; try with_reducible rfl)
                (try simp only [Act.put, List.setIfInBounds_toArray, List.set_cons_zero, List.set_cons_succ])
                refine wpAnyH_take (i := 25) (oi := { dst := some 174, op := Go.Op.move (Go.Operand.tmp 14), type := 23, pos := _, after := #[{ on := 21, ground := Go.Ground.guard }], guard := some (21, true) }) (v := ?vf425) rfl (by kernel_rfl) (by kernel_rfl) (by kernel_rfl) (fun _ _ _ h => h) (Or.inl ⟨by rfl, ?hyf425⟩) (by assumption) ?_
                case hyf425 => (intro wz hSw; (try dsimp only at hSw); go_simp; try with_reducible rfl)
                (try simp only [Act.put, List.setIfInBounds_toArray, List.set_cons_zero, List.set_cons_succ])
                have PUP := Lib.hid (putH_any PE.out.hp)
                obtain ⟨SS, hSS⟩ : ∃ z, z = strOfNums (encM (colM m2 [mv])) := ⟨_, rfl⟩
                have ESS := Lib.hid hSS
                clear hSS
                have PUQ : Hid (∀ W, Below we.heap.size we W → Calls Try.prog 19 #[.pointer (some ⟨H2, 0, none⟩)] W fun e w' => ∃ v', e = .returned v' ∧ Hid (w'.ownsRow W.heap.size 5 1 v' (16 + 8 * (colM m2 [mv]).ws.length) (wb (encM (colM m2 [mv])))) ∧ Hid (Below W.heap.size W w')) := Lib.hid (fun W hW => putH_any (PE.out.hq.below hW))
                refine wpAnyH_ready (rs := [23]) (by kernel_rfl) (by simp) ?_
                refine AllReadyH.cons (o := { dst := some 172, op := Go.Op.call { callee := Go.Callee.value (Go.Operand.func 19), args := #[Go.Operand.tmp 171], argTypes := #[23] }, type := 40, pos := _, after := #[{ on := 22, ground := Go.Ground.data }, { on := 21, ground := Go.Ground.chain }, { on := 21, ground := Go.Ground.guard }], guard := some (21, true) }) rfl (fun K hK => ?_) AllReadyH.nil
                rw [if_pos (by rfl)]
                go_simp
                refine (PUP.out).mono ?_; rintro e w10 ⟨v10, rfl, own10, b10⟩
                go_wp2_with fail
                refine hK.out _ _ trivial (fun hHeld => ?_)
                clear hK K
                (try simp only [Act.put, List.setIfInBounds_toArray, List.set_cons_zero, List.set_cons_succ])
                have cv10 : (convert 40 9 v10).run Try.prog w10 = .ok (.string SS) w10 := by rw [ESS.out]; exact str_own own10.out
                refine upon_mono (S' := fun w' => (convert 40 9 v10).run Try.prog w' = .ok (.string SS) w') (fun _ h => trivial) _ _ _ _ ?_
                have hHeld2 := cv10
                refine wpAnyH_take (i := 24) (oi := { dst := some 173, op := Go.Op.convert 40 9 (Go.Operand.tmp 172), type := 9, pos := _, after := #[{ on := 23, ground := Go.Ground.data }, { on := 21, ground := Go.Ground.guard }], guard := some (21, true) }) (v := ?vf424) rfl (by kernel_rfl) (by kernel_rfl) (by kernel_rfl) (fun _ _ _ h => h) (Or.inl ⟨by rfl, ?hyf424⟩) hHeld2 ?_
                case hyf424 => (intro wz hSw; (try dsimp only at hSw); have hcv := hSw; go_simp; try with_reducible rfl)
                (try simp only [Act.put, List.setIfInBounds_toArray, List.set_cons_zero, List.set_cons_succ])
                refine wpAnyH_ready (rs := [26]) (by kernel_rfl) (by simp) ?_
                refine AllReadyH.cons (o := { dst := some 175, op := Go.Op.call { callee := Go.Callee.value (Go.Operand.func 19), args := #[Go.Operand.tmp 174], argTypes := #[23] }, type := 40, pos := _, after := #[{ on := 25, ground := Go.Ground.data }, { on := 23, ground := Go.Ground.chain }, { on := 21, ground := Go.Ground.guard }], guard := some (21, true) }) rfl (fun K hK => ?_) AllReadyH.nil
                rw [if_pos (by rfl)]
                go_simp
                refine (PUQ.out _ b10.out).mono ?_; rintro e w11 ⟨v11, rfl, own11, b11⟩
                have cv11 : (convert 40 9 v11).run Try.prog w11 = .ok (.string SS) w11 := by rw [ESS.out]; exact str_own own11.out
                have cv10b : (convert 40 9 v10).run Try.prog w11 = .ok (.string SS) w11 := by rw [ESS.out]; exact str_own (own_below own10.out b11.out)
                have bb11 := bt b10.out b11.out
                go_wp2_with fail
                refine hK.out _ _ cv10b (fun hHeld3 => ?_)
                clear hK K
                (try simp only [Act.put, List.setIfInBounds_toArray, List.set_cons_zero, List.set_cons_succ])
                refine wpAnyH_ready (rs := [27]) (by kernel_rfl) (by simp) ?_
                refine AllReadyH.cons (o := { dst := some 176, op := Go.Op.convert 40 9 (Go.Operand.tmp 175), type := 9, pos := _, after := #[{ on := 26, ground := Go.Ground.data }, { on := 21, ground := Go.Ground.guard }], guard := some (21, true) }) rfl (fun K hK => ?_) AllReadyH.nil
                rw [if_pos (by rfl)]
                go_simp
                refine hK.out _ _ hHeld3 (fun hHeld4 => ?_)
                clear hK K
                (try simp only [Act.put, List.setIfInBounds_toArray, List.set_cons_zero, List.set_cons_succ])
                refine wpAnyH_take (i := 28) (oi := { dst := some 177, op := Go.Op.binOp Go.BinOp.eql 9 (Go.Operand.tmp 173) (Go.Operand.tmp 176) 9, type := 4, pos := _, after := #[{ on := 24, ground := Go.Ground.data }, { on := 27, ground := Go.Ground.data }, { on := 21, ground := Go.Ground.guard }], guard := some (21, true) }) (v := ?vf428) rfl (by kernel_rfl) (by kernel_rfl) (by kernel_rfl) (fun _ _ _ h => h) (Or.inl ⟨by rfl, ?hyf428⟩) (by assumption) ?_
                case hyf428 => (intro wz hSw; (try dsimp only at hSw); go_simp; try with_reducible rfl)
                (try simp only [Act.put, List.setIfInBounds_toArray, List.set_cons_zero, List.set_cons_succ])
                refine wpAnyH_take (i := 29) (oi := { dst := some 178, op := Go.Op.pick (Go.Operand.tmp 170) (Go.Operand.tmp 177) (Go.Operand.const (Go.Value.bool false)), type := 4, pos := _, after := #[{ on := 21, ground := Go.Ground.data }, { on := 28, ground := Go.Ground.data }], guard := none }) (v := ?vf429) rfl (by kernel_rfl) (by kernel_rfl) (by kernel_rfl) (fun _ _ _ h => h) (Or.inl ⟨by rfl, ?hyf429⟩) (by assumption) ?_
                case hyf429 => (intro wz hSw; (try dsimp only at hSw); go_simp; try with_reducible rfl)
                (try simp only [Act.put, List.setIfInBounds_toArray, List.set_cons_zero, List.set_cons_succ])
                refine wpAnyH_take (i := 30) (oi := { dst := some 6, op := Go.Op.assign (Go.Operand.tmp 178), type := 4, pos := _, after := #[{ on := 29, ground := Go.Ground.data }, { on := 26, ground := Go.Ground.chain }, { on := 0, ground := Go.Ground.phase }, { on := 1, ground := Go.Ground.phase }, { on := 2, ground := Go.Ground.phase }, { on := 3, ground := Go.Ground.phase }, { on := 4, ground := Go.Ground.phase }, { on := 5, ground := Go.Ground.phase }, { on := 6, ground := Go.Ground.phase }, { on := 7, ground := Go.Ground.phase }, { on := 8, ground := Go.Ground.phase }, { on := 9, ground := Go.Ground.phase }, { on := 10, ground := Go.Ground.phase }, { on := 11, ground := Go.Ground.phase }, { on := 12, ground := Go.Ground.phase }, { on := 13, ground := Go.Ground.phase }, { on := 14, ground := Go.Ground.phase }, { on := 15, ground := Go.Ground.phase }, { on := 16, ground := Go.Ground.phase }, { on := 17, ground := Go.Ground.phase }, { on := 18, ground := Go.Ground.phase }, { on := 19, ground := Go.Ground.phase }, { on := 20, ground := Go.Ground.phase }, { on := 21, ground := Go.Ground.phase }, { on := 22, ground := Go.Ground.phase }, { on := 23, ground := Go.Ground.phase }, { on := 24, ground := Go.Ground.phase }, { on := 25, ground := Go.Ground.phase }, { on := 26, ground := Go.Ground.phase }, { on := 27, ground := Go.Ground.phase }, { on := 28, ground := Go.Ground.phase }, { on := 29, ground := Go.Ground.phase }], guard := none }) (v := ?vf430) rfl (by kernel_rfl) (by kernel_rfl) (by kernel_rfl) (fun _ _ _ h => h) (Or.inl ⟨by rfl, ?hyf430⟩) (by assumption) ?_
                case hyf430 => (intro wz hSw; (try dsimp only at hSw); go_simp; try with_reducible rfl)
                (try simp only [Act.put, List.setIfInBounds_toArray, List.set_cons_zero, List.set_cons_succ])
                refine wpAnyH_done (by kernel_rfl) ?_ _
                go_wp2
                go_ret
                exact ⟨by rfl, BX.out.trans ((PE.out.bel.trans (bb11.mono PE.out.bel.size)).mono BX.out.size)⟩
              · rw [if_pos (by rfl)]
                go_simp
                refine hK.out _ _ trivial (fun hHeld5 => ?_)
                clear hK K
                (try simp only [Act.put, List.setIfInBounds_toArray, List.set_cons_zero, List.set_cons_succ])
                obtain ⟨wn5, hw5⟩ : ∃ z, z = wn2.alloc (.cells #[.int .u64 mv] 28) := ⟨_, rfl⟩
                have bl5 : Hid (Below wn2.heap.size wn2 wn5) := Lib.hid (by rw [hw5]; exact below_alloc wn2 _)
                obtain ⟨bb5, hb5⟩ : ∃ z, z = wn2.heap.size := ⟨_, rfl⟩
                have in5 : Hid (InW wn5 (some ⟨bb5, 0, none⟩) 1 [mv] ∧ bb5 ≠ H ∧ bb5 ≠ H2) := Lib.hid ⟨by rw [hw5, hb5]; exact inW_new wn2 [mv] 1, by have := Pn2.out.hp.lt; omega, by have := Pn2.out.hq.lt; omega⟩
                rw [← hw5, ← hb5]
                clear hw5 hb5
                have Pn5 := Lib.hid (Pn2.out.below bl5.out)
                have xn5 := Lib.hid (And.intro (xn2.out.1.below bl5.out) xn2.out.2)
                refine wpAnyH_ready (rs := [13]) (by kernel_rfl) (by simp) ?_
                refine AllReadyH.cons (o := { dst := some 162, op := Go.Op.call { callee := Go.Callee.value (Go.Operand.func 25), args := #[Go.Operand.tmp 161], argTypes := #[34] }, type := 45, pos := _, after := #[{ on := 12, ground := Go.Ground.data }, { on := 12, ground := Go.Ground.chain }, { on := 8, ground := Go.Ground.guard }], guard := some (8, true) }) rfl (fun K hK => ?_) AllReadyH.nil
                rw [if_pos (by rfl)]
                go_simp
                have WD6 := Lib.hid (words_any xn5.out.1 xn5.out.2 (by simp))
                refine WD6.out.mono ?_; rintro e wn6 ⟨vv6, rfl, vn6, bn6⟩
                have Pn6 := Lib.hid (Pn5.out.below bn6.out)
                have vn6 := Lib.hid (And.intro vn6.out Pn5.out.hq.lt)
                have b2n6 := Lib.hid (And.intro (in5.out.1.below bn6.out) in5.out.2)
                clear WD6
                go_wp2_with fail
                refine hK.out _ _ trivial (fun hHeld6 => ?_)
                clear hK K
                (try simp only [Act.put, List.setIfInBounds_toArray, List.set_cons_zero, List.set_cons_succ])
                have CL := Lib.hid (collect_any Pn6.out.hq b2n6.out.1 HM1.out (by simp))
                refine wpAnyH_ready (rs := [17]) (by kernel_rfl) (by simp) ?_
                refine AllReadyH.cons (o := { dst := some 166, op := Go.Op.call { callee := Go.Callee.value (Go.Operand.func 16), args := #[Go.Operand.tmp 163, Go.Operand.tmp 165], argTypes := #[23, 34] }, type := 34, pos := _, after := #[{ on := 14, ground := Go.Ground.data }, { on := 16, ground := Go.Ground.data }, { on := 13, ground := Go.Ground.chain }, { on := 8, ground := Go.Ground.guard }], guard := some (8, true) }) rfl (fun K hK => ?_) AllReadyH.nil
                rw [if_pos (by rfl)]
                go_simp
                refine (CL.out).mono ?_; rintro e wc ⟨O2, rfl, hc⟩
                have PC := Lib.hid (Pn6.out.colQ hc.out.1 hc.out.2.1)
                have xc := Lib.hid (inW_of hc.out.2.2.1)
                have vc := Lib.hid (row_frm vn6.out.1 hc.out.2.1 (fun k hk => by subst hk; exact vn6.out.2))
                clear CL hc
                go_wp2_with fail
                refine hK.out _ _ trivial (fun hHeld => ?_)
                clear hK K
                (try simp only [Act.put, List.setIfInBounds_toArray, List.set_cons_zero, List.set_cons_succ])
                have WD := Lib.hid (words_any xc.out.1 xc.out.2 (by simp))
                refine wpAnyH_ready (rs := [18]) (by kernel_rfl) (by simp) ?_
                refine AllReadyH.cons (o := { dst := some 167, op := Go.Op.call { callee := Go.Callee.value (Go.Operand.func 25), args := #[Go.Operand.tmp 166], argTypes := #[34] }, type := 45, pos := _, after := #[{ on := 17, ground := Go.Ground.data }, { on := 17, ground := Go.Ground.chain }, { on := 8, ground := Go.Ground.guard }], guard := some (8, true) }) rfl (fun K hK => ?_) AllReadyH.nil
                rw [if_pos (by rfl)]
                go_simp
                refine (WD.out).mono ?_; rintro e wd_ ⟨vw, rfl, ow, bw⟩
                have PD := Lib.hid (PC.out.below bw.out)
                have vd := Lib.hid (own_below vc.out bw.out)
                obtain ⟨Av, cv, rfl, hin5, hlx5⟩ := own_inW vd.out
                obtain ⟨Aw, cw, rfl, hin6, hlx6⟩ := own_inW ow.out
                have SM := Lib.hid (same_yes hin5 hin6 hlx5 (by simp))
                clear WD hin5 hin6 vd ow
                go_wp2_with fail
                refine hK.out _ _ trivial (fun hHeld => ?_)
                clear hK K
                (try simp only [Act.put, List.setIfInBounds_toArray, List.set_cons_zero, List.set_cons_succ])
                refine wpAnyH_ready (rs := [19]) (by kernel_rfl) (by simp) ?_
                refine AllReadyH.cons (o := { dst := some 168, op := Go.Op.call { callee := Go.Callee.value (Go.Operand.func 24), args := #[Go.Operand.tmp 162, Go.Operand.tmp 167], argTypes := #[45, 45] }, type := 4, pos := _, after := #[{ on := 13, ground := Go.Ground.data }, { on := 18, ground := Go.Ground.data }, { on := 18, ground := Go.Ground.chain }, { on := 8, ground := Go.Ground.guard }], guard := some (8, true) }) rfl (fun K hK => ?_) AllReadyH.nil
                rw [if_pos (by rfl)]
                go_simp
                refine (SM.out).mono ?_; rintro e we ⟨rfl, be⟩
                have PE := Lib.hid (PD.out.below be)
                clear SM be
                go_wp2_with fail
                refine hK.out _ _ trivial (fun hHeld => ?_)
                clear hK K
                (try simp only [Act.put, List.setIfInBounds_toArray, List.set_cons_zero, List.set_cons_succ])
                refine wpAnyH_take (i := 20) (oi := { dst := some 169, op := Go.Op.pick (Go.Operand.tmp 157) (Go.Operand.tmp 168) (Go.Operand.const (Go.Value.bool false)), type := 4, pos := _, after := #[{ on := 8, ground := Go.Ground.data }, { on := 19, ground := Go.Ground.data }], guard := none }) (v := ?vf620) rfl (by kernel_rfl) (by kernel_rfl) (by kernel_rfl) (fun _ _ _ h => h) (Or.inl ⟨by rfl, ?hyf620⟩) (by assumption) ?_
                case hyf620 => (intro wz hSw; (try dsimp only at hSw); go_simp; try with_reducible rfl)
                (try simp only [Act.put, List.setIfInBounds_toArray, List.set_cons_zero, List.set_cons_succ])
                refine wpAnyH_take (i := 21) (oi := { dst := some 170, op := Go.Op.move (Go.Operand.tmp 169), type := 4, pos := _, after := #[{ on := 20, ground := Go.Ground.data }, { on := 19, ground := Go.Ground.chain }], guard := none }) (v := ?vf621) rfl (by kernel_rfl) (by kernel_rfl) (by kernel_rfl) (fun _ _ _ h => h) (Or.inl ⟨by rfl, ?hyf621⟩) (by assumption) ?_
                case hyf621 => (intro wz hSw; (try dsimp only at hSw); go_simp; try with_reducible rfl)
                (try simp only [Act.put, List.setIfInBounds_toArray, List.set_cons_zero, List.set_cons_succ])
                refine wpAnyH_take (i := 22) (oi := { dst := some 171, op := Go.Op.move (Go.Operand.tmp 11), type := 23, pos := _, after := #[{ on := 21, ground := Go.Ground.guard }], guard := some (21, true) }) (v := ?vf622) rfl (by kernel_rfl) (by kernel_rfl) (by kernel_rfl) (fun _ _ _ h => h) (Or.inl ⟨by rfl, ?hyf622⟩) (by assumption) ?_
                case hyf622 => (intro wz hSw; (try dsimp only at hSw); go_simp; try with_reducible rfl)
                (try simp only [Act.put, List.setIfInBounds_toArray, List.set_cons_zero, List.set_cons_succ])
                refine wpAnyH_take (i := 25) (oi := { dst := some 174, op := Go.Op.move (Go.Operand.tmp 14), type := 23, pos := _, after := #[{ on := 21, ground := Go.Ground.guard }], guard := some (21, true) }) (v := ?vf625) rfl (by kernel_rfl) (by kernel_rfl) (by kernel_rfl) (fun _ _ _ h => h) (Or.inl ⟨by rfl, ?hyf625⟩) (by assumption) ?_
                case hyf625 => (intro wz hSw; (try dsimp only at hSw); go_simp; try with_reducible rfl)
                (try simp only [Act.put, List.setIfInBounds_toArray, List.set_cons_zero, List.set_cons_succ])
                have PUP := Lib.hid (putH_any PE.out.hp)
                obtain ⟨SS, hSS⟩ : ∃ z, z = strOfNums (encM (colM m2 [mv])) := ⟨_, rfl⟩
                have ESS := Lib.hid hSS
                clear hSS
                have PUQ : Hid (∀ W, Below we.heap.size we W → Calls Try.prog 19 #[.pointer (some ⟨H2, 0, none⟩)] W fun e w' => ∃ v', e = .returned v' ∧ Hid (w'.ownsRow W.heap.size 5 1 v' (16 + 8 * (colM m2 [mv]).ws.length) (wb (encM (colM m2 [mv])))) ∧ Hid (Below W.heap.size W w')) := Lib.hid (fun W hW => putH_any (PE.out.hq.below hW))
                refine wpAnyH_ready (rs := [23]) (by kernel_rfl) (by simp) ?_
                refine AllReadyH.cons (o := { dst := some 172, op := Go.Op.call { callee := Go.Callee.value (Go.Operand.func 19), args := #[Go.Operand.tmp 171], argTypes := #[23] }, type := 40, pos := _, after := #[{ on := 22, ground := Go.Ground.data }, { on := 21, ground := Go.Ground.chain }, { on := 21, ground := Go.Ground.guard }], guard := some (21, true) }) rfl (fun K hK => ?_) AllReadyH.nil
                rw [if_pos (by rfl)]
                go_simp
                refine (PUP.out).mono ?_; rintro e w10 ⟨v10, rfl, own10, b10⟩
                go_wp2_with fail
                refine hK.out _ _ trivial (fun hHeld => ?_)
                clear hK K
                (try simp only [Act.put, List.setIfInBounds_toArray, List.set_cons_zero, List.set_cons_succ])
                have cv10 : (convert 40 9 v10).run Try.prog w10 = .ok (.string SS) w10 := by rw [ESS.out]; exact str_own own10.out
                refine upon_mono (S' := fun w' => (convert 40 9 v10).run Try.prog w' = .ok (.string SS) w') (fun _ h => trivial) _ _ _ _ ?_
                have hHeld2 := cv10
                refine wpAnyH_take (i := 24) (oi := { dst := some 173, op := Go.Op.convert 40 9 (Go.Operand.tmp 172), type := 9, pos := _, after := #[{ on := 23, ground := Go.Ground.data }, { on := 21, ground := Go.Ground.guard }], guard := some (21, true) }) (v := ?vf624) rfl (by kernel_rfl) (by kernel_rfl) (by kernel_rfl) (fun _ _ _ h => h) (Or.inl ⟨by rfl, ?hyf624⟩) hHeld2 ?_
                case hyf624 => (intro wz hSw; (try dsimp only at hSw); have hcv := hSw; go_simp; try with_reducible rfl)
                (try simp only [Act.put, List.setIfInBounds_toArray, List.set_cons_zero, List.set_cons_succ])
                refine wpAnyH_ready (rs := [26]) (by kernel_rfl) (by simp) ?_
                refine AllReadyH.cons (o := { dst := some 175, op := Go.Op.call { callee := Go.Callee.value (Go.Operand.func 19), args := #[Go.Operand.tmp 174], argTypes := #[23] }, type := 40, pos := _, after := #[{ on := 25, ground := Go.Ground.data }, { on := 23, ground := Go.Ground.chain }, { on := 21, ground := Go.Ground.guard }], guard := some (21, true) }) rfl (fun K hK => ?_) AllReadyH.nil
                rw [if_pos (by rfl)]
                go_simp
                refine (PUQ.out _ b10.out).mono ?_; rintro e w11 ⟨v11, rfl, own11, b11⟩
                have cv11 : (convert 40 9 v11).run Try.prog w11 = .ok (.string SS) w11 := by rw [ESS.out]; exact str_own own11.out
                have cv10b : (convert 40 9 v10).run Try.prog w11 = .ok (.string SS) w11 := by rw [ESS.out]; exact str_own (own_below own10.out b11.out)
                have bb11 := bt b10.out b11.out
                go_wp2_with fail
                refine hK.out _ _ cv10b (fun hHeld3 => ?_)
                clear hK K
                (try simp only [Act.put, List.setIfInBounds_toArray, List.set_cons_zero, List.set_cons_succ])
                refine wpAnyH_ready (rs := [27]) (by kernel_rfl) (by simp) ?_
                refine AllReadyH.cons (o := { dst := some 176, op := Go.Op.convert 40 9 (Go.Operand.tmp 175), type := 9, pos := _, after := #[{ on := 26, ground := Go.Ground.data }, { on := 21, ground := Go.Ground.guard }], guard := some (21, true) }) rfl (fun K hK => ?_) AllReadyH.nil
                rw [if_pos (by rfl)]
                go_simp
                refine hK.out _ _ hHeld3 (fun hHeld4 => ?_)
                clear hK K
                (try simp only [Act.put, List.setIfInBounds_toArray, List.set_cons_zero, List.set_cons_succ])
                refine wpAnyH_take (i := 28) (oi := { dst := some 177, op := Go.Op.binOp Go.BinOp.eql 9 (Go.Operand.tmp 173) (Go.Operand.tmp 176) 9, type := 4, pos := _, after := #[{ on := 24, ground := Go.Ground.data }, { on := 27, ground := Go.Ground.data }, { on := 21, ground := Go.Ground.guard }], guard := some (21, true) }) (v := ?vf628) rfl (by kernel_rfl) (by kernel_rfl) (by kernel_rfl) (fun _ _ _ h => h) (Or.inl ⟨by rfl, ?hyf628⟩) (by assumption) ?_
                case hyf628 => (intro wz hSw; (try dsimp only at hSw); go_simp; try with_reducible rfl)
                (try simp only [Act.put, List.setIfInBounds_toArray, List.set_cons_zero, List.set_cons_succ])
                refine wpAnyH_take (i := 29) (oi := { dst := some 178, op := Go.Op.pick (Go.Operand.tmp 170) (Go.Operand.tmp 177) (Go.Operand.const (Go.Value.bool false)), type := 4, pos := _, after := #[{ on := 21, ground := Go.Ground.data }, { on := 28, ground := Go.Ground.data }], guard := none }) (v := ?vf629) rfl (by kernel_rfl) (by kernel_rfl) (by kernel_rfl) (fun _ _ _ h => h) (Or.inl ⟨by rfl, ?hyf629⟩) (by assumption) ?_
                case hyf629 => (intro wz hSw; (try dsimp only at hSw); go_simp; try with_reducible rfl)
                (try simp only [Act.put, List.setIfInBounds_toArray, List.set_cons_zero, List.set_cons_succ])
                refine wpAnyH_take (i := 30) (oi := { dst := some 6, op := Go.Op.assign (Go.Operand.tmp 178), type := 4, pos := _, after := #[{ on := 29, ground := Go.Ground.data }, { on := 26, ground := Go.Ground.chain }, { on := 0, ground := Go.Ground.phase }, { on := 1, ground := Go.Ground.phase }, { on := 2, ground := Go.Ground.phase }, { on := 3, ground := Go.Ground.phase }, { on := 4, ground := Go.Ground.phase }, { on := 5, ground := Go.Ground.phase }, { on := 6, ground := Go.Ground.phase }, { on := 7, ground := Go.Ground.phase }, { on := 8, ground := Go.Ground.phase }, { on := 9, ground := Go.Ground.phase }, { on := 10, ground := Go.Ground.phase }, { on := 11, ground := Go.Ground.phase }, { on := 12, ground := Go.Ground.phase }, { on := 13, ground := Go.Ground.phase }, { on := 14, ground := Go.Ground.phase }, { on := 15, ground := Go.Ground.phase }, { on := 16, ground := Go.Ground.phase }, { on := 17, ground := Go.Ground.phase }, { on := 18, ground := Go.Ground.phase }, { on := 19, ground := Go.Ground.phase }, { on := 20, ground := Go.Ground.phase }, { on := 21, ground := Go.Ground.phase }, { on := 22, ground := Go.Ground.phase }, { on := 23, ground := Go.Ground.phase }, { on := 24, ground := Go.Ground.phase }, { on := 25, ground := Go.Ground.phase }, { on := 26, ground := Go.Ground.phase }, { on := 27, ground := Go.Ground.phase }, { on := 28, ground := Go.Ground.phase }, { on := 29, ground := Go.Ground.phase }], guard := none }) (v := ?vf630) rfl (by kernel_rfl) (by kernel_rfl) (by kernel_rfl) (fun _ _ _ h => h) (Or.inl ⟨by rfl, ?hyf630⟩) (by assumption) ?_
                case hyf630 => (intro wz hSw; (try dsimp only at hSw); go_simp; try with_reducible rfl)
                (try simp only [Act.put, List.setIfInBounds_toArray, List.set_cons_zero, List.set_cons_succ])
                refine wpAnyH_done (by kernel_rfl) ?_ _
                go_wp2
                go_ret
                exact ⟨by rfl, BX.out.trans ((PE.out.bel.trans (bb11.mono PE.out.bel.size)).mono BX.out.size)⟩
            · rw [if_pos (by rfl)]
              go_simp
              refine hK.out _ _ trivial (fun hHeld7 => ?_)
              clear hK K
              (try simp only [Act.put, List.setIfInBounds_toArray, List.set_cons_zero, List.set_cons_succ])
              obtain ⟨wn7, hw7⟩ : ∃ z, z = wn1.alloc (.cells #[.int .u64 mv] 28) := ⟨_, rfl⟩
              have bl7 : Hid (Below wn1.heap.size wn1 wn7) := Lib.hid (by rw [hw7]; exact below_alloc wn1 _)
              obtain ⟨bb7, hb7⟩ : ∃ z, z = wn1.heap.size := ⟨_, rfl⟩
              have in7 : Hid (InW wn7 (some ⟨bb7, 0, none⟩) 1 [mv] ∧ bb7 ≠ H ∧ bb7 ≠ H2) := Lib.hid ⟨by rw [hw7, hb7]; exact inW_new wn1 [mv] 1, by have := Pn1.out.hp.lt; omega, by have := Pn1.out.hq.lt; omega⟩
              rw [← hw7, ← hb7]
              clear hw7 hb7
              have Pn7 := Lib.hid (Pn1.out.below bl7.out)
              have b1n7 := Lib.hid (And.intro (in1.out.1.below bl7.out) in1.out.2)
              refine wpAnyH_ready (rs := [12]) (by kernel_rfl) (by simp) ?_
              refine AllReadyH.cons (o := { dst := some 161, op := Go.Op.call { callee := Go.Callee.value (Go.Operand.func 16), args := #[Go.Operand.tmp 158, Go.Operand.tmp 160], argTypes := #[23, 34] }, type := 34, pos := _, after := #[{ on := 9, ground := Go.Ground.data }, { on := 11, ground := Go.Ground.data }, { on := 8, ground := Go.Ground.chain }, { on := 8, ground := Go.Ground.guard }], guard := some (8, true) }) rfl (fun K hK => ?_) AllReadyH.nil
              rw [if_pos (by rfl)]
              go_simp
              have CL8 := Lib.hid (collect_any Pn7.out.hp b1n7.out.1 HM1.out (by simp))
              refine CL8.out.mono ?_; rintro e wn8 ⟨O8, rfl, h8⟩
              have Pn8 := Lib.hid (Pn7.out.colP h8.out.1 h8.out.2.1)
              have xn8 := Lib.hid (inW_of h8.out.2.2.1)
              have b2n8 := Lib.hid (And.intro (in7.out.1.frm h8.out.2.1 (fun b off v e => by injection e with e; injection e with e; rw [← e]; exact in7.out.2.1)) in7.out.2)
              clear CL8 h8
              go_wp2_with fail
              refine hK.out _ _ trivial (fun hHeld8 => ?_)
              clear hK K
              (try simp only [Act.put, List.setIfInBounds_toArray, List.set_cons_zero, List.set_cons_succ])
              refine wpAnyH_ready (rs := [13]) (by kernel_rfl) (by simp) ?_
              refine AllReadyH.cons (o := { dst := some 162, op := Go.Op.call { callee := Go.Callee.value (Go.Operand.func 25), args := #[Go.Operand.tmp 161], argTypes := #[34] }, type := 45, pos := _, after := #[{ on := 12, ground := Go.Ground.data }, { on := 12, ground := Go.Ground.chain }, { on := 8, ground := Go.Ground.guard }], guard := some (8, true) }) rfl (fun K hK => ?_) AllReadyH.nil
              rw [if_pos (by rfl)]
              go_simp
              have WD9 := Lib.hid (words_any xn8.out.1 xn8.out.2 (by simp))
              refine WD9.out.mono ?_; rintro e wn9 ⟨vv9, rfl, vn9, bn9⟩
              have Pn9 := Lib.hid (Pn8.out.below bn9.out)
              have vn9 := Lib.hid (And.intro vn9.out Pn8.out.hq.lt)
              have b2n9 := Lib.hid (And.intro (b2n8.out.1.below bn9.out) b2n8.out.2)
              clear WD9
              go_wp2_with fail
              refine hK.out _ _ trivial (fun hHeld9 => ?_)
              clear hK K
              (try simp only [Act.put, List.setIfInBounds_toArray, List.set_cons_zero, List.set_cons_succ])
              have CL := Lib.hid (collect_any Pn9.out.hq b2n9.out.1 HM1.out (by simp))
              refine wpAnyH_ready (rs := [17]) (by kernel_rfl) (by simp) ?_
              refine AllReadyH.cons (o := { dst := some 166, op := Go.Op.call { callee := Go.Callee.value (Go.Operand.func 16), args := #[Go.Operand.tmp 163, Go.Operand.tmp 165], argTypes := #[23, 34] }, type := 34, pos := _, after := #[{ on := 14, ground := Go.Ground.data }, { on := 16, ground := Go.Ground.data }, { on := 13, ground := Go.Ground.chain }, { on := 8, ground := Go.Ground.guard }], guard := some (8, true) }) rfl (fun K hK => ?_) AllReadyH.nil
              rw [if_pos (by rfl)]
              go_simp
              refine (CL.out).mono ?_; rintro e wc ⟨O2, rfl, hc⟩
              have PC := Lib.hid (Pn9.out.colQ hc.out.1 hc.out.2.1)
              have xc := Lib.hid (inW_of hc.out.2.2.1)
              have vc := Lib.hid (row_frm vn9.out.1 hc.out.2.1 (fun k hk => by subst hk; exact vn9.out.2))
              clear CL hc
              go_wp2_with fail
              refine hK.out _ _ trivial (fun hHeld => ?_)
              clear hK K
              (try simp only [Act.put, List.setIfInBounds_toArray, List.set_cons_zero, List.set_cons_succ])
              have WD := Lib.hid (words_any xc.out.1 xc.out.2 (by simp))
              refine wpAnyH_ready (rs := [18]) (by kernel_rfl) (by simp) ?_
              refine AllReadyH.cons (o := { dst := some 167, op := Go.Op.call { callee := Go.Callee.value (Go.Operand.func 25), args := #[Go.Operand.tmp 166], argTypes := #[34] }, type := 45, pos := _, after := #[{ on := 17, ground := Go.Ground.data }, { on := 17, ground := Go.Ground.chain }, { on := 8, ground := Go.Ground.guard }], guard := some (8, true) }) rfl (fun K hK => ?_) AllReadyH.nil
              rw [if_pos (by rfl)]
              go_simp
              refine (WD.out).mono ?_; rintro e wd_ ⟨vw, rfl, ow, bw⟩
              have PD := Lib.hid (PC.out.below bw.out)
              have vd := Lib.hid (own_below vc.out bw.out)
              obtain ⟨Av, cv, rfl, hin5, hlx5⟩ := own_inW vd.out
              obtain ⟨Aw, cw, rfl, hin6, hlx6⟩ := own_inW ow.out
              have SM := Lib.hid (same_yes hin5 hin6 hlx5 (by simp))
              clear WD hin5 hin6 vd ow
              go_wp2_with fail
              refine hK.out _ _ trivial (fun hHeld => ?_)
              clear hK K
              (try simp only [Act.put, List.setIfInBounds_toArray, List.set_cons_zero, List.set_cons_succ])
              refine wpAnyH_ready (rs := [19]) (by kernel_rfl) (by simp) ?_
              refine AllReadyH.cons (o := { dst := some 168, op := Go.Op.call { callee := Go.Callee.value (Go.Operand.func 24), args := #[Go.Operand.tmp 162, Go.Operand.tmp 167], argTypes := #[45, 45] }, type := 4, pos := _, after := #[{ on := 13, ground := Go.Ground.data }, { on := 18, ground := Go.Ground.data }, { on := 18, ground := Go.Ground.chain }, { on := 8, ground := Go.Ground.guard }], guard := some (8, true) }) rfl (fun K hK => ?_) AllReadyH.nil
              rw [if_pos (by rfl)]
              go_simp
              refine (SM.out).mono ?_; rintro e we ⟨rfl, be⟩
              have PE := Lib.hid (PD.out.below be)
              clear SM be
              go_wp2_with fail
              refine hK.out _ _ trivial (fun hHeld => ?_)
              clear hK K
              (try simp only [Act.put, List.setIfInBounds_toArray, List.set_cons_zero, List.set_cons_succ])
              refine wpAnyH_take (i := 20) (oi := { dst := some 169, op := Go.Op.pick (Go.Operand.tmp 157) (Go.Operand.tmp 168) (Go.Operand.const (Go.Value.bool false)), type := 4, pos := _, after := #[{ on := 8, ground := Go.Ground.data }, { on := 19, ground := Go.Ground.data }], guard := none }) (v := ?vf920) rfl (by kernel_rfl) (by kernel_rfl) (by kernel_rfl) (fun _ _ _ h => h) (Or.inl ⟨by rfl, ?hyf920⟩) (by assumption) ?_
              case hyf920 => (intro wz hSw; (try dsimp only at hSw); go_simp; try with_reducible rfl)
              (try simp only [Act.put, List.setIfInBounds_toArray, List.set_cons_zero, List.set_cons_succ])
              refine wpAnyH_take (i := 21) (oi := { dst := some 170, op := Go.Op.move (Go.Operand.tmp 169), type := 4, pos := _, after := #[{ on := 20, ground := Go.Ground.data }, { on := 19, ground := Go.Ground.chain }], guard := none }) (v := ?vf921) rfl (by kernel_rfl) (by kernel_rfl) (by kernel_rfl) (fun _ _ _ h => h) (Or.inl ⟨by rfl, ?hyf921⟩) (by assumption) ?_
              case hyf921 => (intro wz hSw; (try dsimp only at hSw); go_simp; try with_reducible rfl)
              (try simp only [Act.put, List.setIfInBounds_toArray, List.set_cons_zero, List.set_cons_succ])
              refine wpAnyH_take (i := 22) (oi := { dst := some 171, op := Go.Op.move (Go.Operand.tmp 11), type := 23, pos := _, after := #[{ on := 21, ground := Go.Ground.guard }], guard := some (21, true) }) (v := ?vf922) rfl (by kernel_rfl) (by kernel_rfl) (by kernel_rfl) (fun _ _ _ h => h) (Or.inl ⟨by rfl, ?hyf922⟩) (by assumption) ?_
              case hyf922 => (intro wz hSw; (try dsimp only at hSw); go_simp; try with_reducible rfl)
              (try simp only [Act.put, List.setIfInBounds_toArray, List.set_cons_zero, List.set_cons_succ])
              refine wpAnyH_take (i := 25) (oi := { dst := some 174, op := Go.Op.move (Go.Operand.tmp 14), type := 23, pos := _, after := #[{ on := 21, ground := Go.Ground.guard }], guard := some (21, true) }) (v := ?vf925) rfl (by kernel_rfl) (by kernel_rfl) (by kernel_rfl) (fun _ _ _ h => h) (Or.inl ⟨by rfl, ?hyf925⟩) (by assumption) ?_
              case hyf925 => (intro wz hSw; (try dsimp only at hSw); go_simp; try with_reducible rfl)
              (try simp only [Act.put, List.setIfInBounds_toArray, List.set_cons_zero, List.set_cons_succ])
              have PUP := Lib.hid (putH_any PE.out.hp)
              obtain ⟨SS, hSS⟩ : ∃ z, z = strOfNums (encM (colM m2 [mv])) := ⟨_, rfl⟩
              have ESS := Lib.hid hSS
              clear hSS
              have PUQ : Hid (∀ W, Below we.heap.size we W → Calls Try.prog 19 #[.pointer (some ⟨H2, 0, none⟩)] W fun e w' => ∃ v', e = .returned v' ∧ Hid (w'.ownsRow W.heap.size 5 1 v' (16 + 8 * (colM m2 [mv]).ws.length) (wb (encM (colM m2 [mv])))) ∧ Hid (Below W.heap.size W w')) := Lib.hid (fun W hW => putH_any (PE.out.hq.below hW))
              refine wpAnyH_ready (rs := [23]) (by kernel_rfl) (by simp) ?_
              refine AllReadyH.cons (o := { dst := some 172, op := Go.Op.call { callee := Go.Callee.value (Go.Operand.func 19), args := #[Go.Operand.tmp 171], argTypes := #[23] }, type := 40, pos := _, after := #[{ on := 22, ground := Go.Ground.data }, { on := 21, ground := Go.Ground.chain }, { on := 21, ground := Go.Ground.guard }], guard := some (21, true) }) rfl (fun K hK => ?_) AllReadyH.nil
              rw [if_pos (by rfl)]
              go_simp
              refine (PUP.out).mono ?_; rintro e w10 ⟨v10, rfl, own10, b10⟩
              go_wp2_with fail
              refine hK.out _ _ trivial (fun hHeld => ?_)
              clear hK K
              (try simp only [Act.put, List.setIfInBounds_toArray, List.set_cons_zero, List.set_cons_succ])
              have cv10 : (convert 40 9 v10).run Try.prog w10 = .ok (.string SS) w10 := by rw [ESS.out]; exact str_own own10.out
              refine upon_mono (S' := fun w' => (convert 40 9 v10).run Try.prog w' = .ok (.string SS) w') (fun _ h => trivial) _ _ _ _ ?_
              have hHeld2 := cv10
              refine wpAnyH_take (i := 24) (oi := { dst := some 173, op := Go.Op.convert 40 9 (Go.Operand.tmp 172), type := 9, pos := _, after := #[{ on := 23, ground := Go.Ground.data }, { on := 21, ground := Go.Ground.guard }], guard := some (21, true) }) (v := ?vf924) rfl (by kernel_rfl) (by kernel_rfl) (by kernel_rfl) (fun _ _ _ h => h) (Or.inl ⟨by rfl, ?hyf924⟩) hHeld2 ?_
              case hyf924 => (intro wz hSw; (try dsimp only at hSw); have hcv := hSw; go_simp; try with_reducible rfl)
              (try simp only [Act.put, List.setIfInBounds_toArray, List.set_cons_zero, List.set_cons_succ])
              refine wpAnyH_ready (rs := [26]) (by kernel_rfl) (by simp) ?_
              refine AllReadyH.cons (o := { dst := some 175, op := Go.Op.call { callee := Go.Callee.value (Go.Operand.func 19), args := #[Go.Operand.tmp 174], argTypes := #[23] }, type := 40, pos := _, after := #[{ on := 25, ground := Go.Ground.data }, { on := 23, ground := Go.Ground.chain }, { on := 21, ground := Go.Ground.guard }], guard := some (21, true) }) rfl (fun K hK => ?_) AllReadyH.nil
              rw [if_pos (by rfl)]
              go_simp
              refine (PUQ.out _ b10.out).mono ?_; rintro e w11 ⟨v11, rfl, own11, b11⟩
              have cv11 : (convert 40 9 v11).run Try.prog w11 = .ok (.string SS) w11 := by rw [ESS.out]; exact str_own own11.out
              have cv10b : (convert 40 9 v10).run Try.prog w11 = .ok (.string SS) w11 := by rw [ESS.out]; exact str_own (own_below own10.out b11.out)
              have bb11 := bt b10.out b11.out
              go_wp2_with fail
              refine hK.out _ _ cv10b (fun hHeld3 => ?_)
              clear hK K
              (try simp only [Act.put, List.setIfInBounds_toArray, List.set_cons_zero, List.set_cons_succ])
              refine wpAnyH_ready (rs := [27]) (by kernel_rfl) (by simp) ?_
              refine AllReadyH.cons (o := { dst := some 176, op := Go.Op.convert 40 9 (Go.Operand.tmp 175), type := 9, pos := _, after := #[{ on := 26, ground := Go.Ground.data }, { on := 21, ground := Go.Ground.guard }], guard := some (21, true) }) rfl (fun K hK => ?_) AllReadyH.nil
              rw [if_pos (by rfl)]
              go_simp
              refine hK.out _ _ hHeld3 (fun hHeld4 => ?_)
              clear hK K
              (try simp only [Act.put, List.setIfInBounds_toArray, List.set_cons_zero, List.set_cons_succ])
              refine wpAnyH_take (i := 28) (oi := { dst := some 177, op := Go.Op.binOp Go.BinOp.eql 9 (Go.Operand.tmp 173) (Go.Operand.tmp 176) 9, type := 4, pos := _, after := #[{ on := 24, ground := Go.Ground.data }, { on := 27, ground := Go.Ground.data }, { on := 21, ground := Go.Ground.guard }], guard := some (21, true) }) (v := ?vf928) rfl (by kernel_rfl) (by kernel_rfl) (by kernel_rfl) (fun _ _ _ h => h) (Or.inl ⟨by rfl, ?hyf928⟩) (by assumption) ?_
              case hyf928 => (intro wz hSw; (try dsimp only at hSw); go_simp; try with_reducible rfl)
              (try simp only [Act.put, List.setIfInBounds_toArray, List.set_cons_zero, List.set_cons_succ])
              refine wpAnyH_take (i := 29) (oi := { dst := some 178, op := Go.Op.pick (Go.Operand.tmp 170) (Go.Operand.tmp 177) (Go.Operand.const (Go.Value.bool false)), type := 4, pos := _, after := #[{ on := 21, ground := Go.Ground.data }, { on := 28, ground := Go.Ground.data }], guard := none }) (v := ?vf929) rfl (by kernel_rfl) (by kernel_rfl) (by kernel_rfl) (fun _ _ _ h => h) (Or.inl ⟨by rfl, ?hyf929⟩) (by assumption) ?_
              case hyf929 => (intro wz hSw; (try dsimp only at hSw); go_simp; try with_reducible rfl)
              (try simp only [Act.put, List.setIfInBounds_toArray, List.set_cons_zero, List.set_cons_succ])
              refine wpAnyH_take (i := 30) (oi := { dst := some 6, op := Go.Op.assign (Go.Operand.tmp 178), type := 4, pos := _, after := #[{ on := 29, ground := Go.Ground.data }, { on := 26, ground := Go.Ground.chain }, { on := 0, ground := Go.Ground.phase }, { on := 1, ground := Go.Ground.phase }, { on := 2, ground := Go.Ground.phase }, { on := 3, ground := Go.Ground.phase }, { on := 4, ground := Go.Ground.phase }, { on := 5, ground := Go.Ground.phase }, { on := 6, ground := Go.Ground.phase }, { on := 7, ground := Go.Ground.phase }, { on := 8, ground := Go.Ground.phase }, { on := 9, ground := Go.Ground.phase }, { on := 10, ground := Go.Ground.phase }, { on := 11, ground := Go.Ground.phase }, { on := 12, ground := Go.Ground.phase }, { on := 13, ground := Go.Ground.phase }, { on := 14, ground := Go.Ground.phase }, { on := 15, ground := Go.Ground.phase }, { on := 16, ground := Go.Ground.phase }, { on := 17, ground := Go.Ground.phase }, { on := 18, ground := Go.Ground.phase }, { on := 19, ground := Go.Ground.phase }, { on := 20, ground := Go.Ground.phase }, { on := 21, ground := Go.Ground.phase }, { on := 22, ground := Go.Ground.phase }, { on := 23, ground := Go.Ground.phase }, { on := 24, ground := Go.Ground.phase }, { on := 25, ground := Go.Ground.phase }, { on := 26, ground := Go.Ground.phase }, { on := 27, ground := Go.Ground.phase }, { on := 28, ground := Go.Ground.phase }, { on := 29, ground := Go.Ground.phase }], guard := none }) (v := ?vf930) rfl (by kernel_rfl) (by kernel_rfl) (by kernel_rfl) (fun _ _ _ h => h) (Or.inl ⟨by rfl, ?hyf930⟩) (by assumption) ?_
              case hyf930 => (intro wz hSw; (try dsimp only at hSw); go_simp; try with_reducible rfl)
              (try simp only [Act.put, List.setIfInBounds_toArray, List.set_cons_zero, List.set_cons_succ])
              refine wpAnyH_done (by kernel_rfl) ?_ _
              go_wp2
              go_ret
              exact ⟨by rfl, BX.out.trans ((PE.out.bel.trans (bb11.mono PE.out.bel.size)).mono BX.out.size)⟩
          · rw [if_pos (by rfl)]
            go_simp
            refine hK.out _ _ trivial (fun hHeld10 => ?_)
            clear hK K
            (try simp only [Act.put, List.setIfInBounds_toArray, List.set_cons_zero, List.set_cons_succ])
            obtain ⟨wn10, hw10⟩ : ∃ z, z = wd0.alloc (.cells #[.int .u64 mv] 28) := ⟨_, rfl⟩
            have bl10 : Hid (Below wd0.heap.size wd0 wn10) := Lib.hid (by rw [hw10]; exact below_alloc wd0 _)
            obtain ⟨bb10, hb10⟩ : ∃ z, z = wd0.heap.size := ⟨_, rfl⟩
            have in10 : Hid (InW wn10 (some ⟨bb10, 0, none⟩) 1 [mv] ∧ bb10 ≠ H ∧ bb10 ≠ H2) := Lib.hid ⟨by rw [hw10, hb10]; exact inW_new wd0 [mv] 1, by have := PA.out.hp.lt; omega, by have := PA.out.hq.lt; omega⟩
            rw [← hw10, ← hb10]
            clear hw10 hb10
            have Pn10 := Lib.hid (PA.out.below bl10.out)
            refine wpAnyH_ready (rs := [11]) (by kernel_rfl) (by simp) ?_
            refine AllReadyH.cons (o := { dst := some 160, op := Go.Op.buildSlice 34 1 #[(0, Go.Operand.tmp 159)], type := 34, pos := _, after := #[{ on := 10, ground := Go.Ground.data }, { on := 8, ground := Go.Ground.guard }], guard := some (8, true) }) rfl (fun K hK => ?_) AllReadyH.nil
            rw [if_pos (by rfl)]
            go_simp
            refine hK.out _ _ trivial (fun hHeld11 => ?_)
            clear hK K
            (try simp only [Act.put, List.setIfInBounds_toArray, List.set_cons_zero, List.set_cons_succ])
            obtain ⟨wn11, hw11⟩ : ∃ z, z = wn10.alloc (.cells #[.int .u64 mv] 28) := ⟨_, rfl⟩
            have bl11 : Hid (Below wn10.heap.size wn10 wn11) := Lib.hid (by rw [hw11]; exact below_alloc wn10 _)
            obtain ⟨bb11, hb11⟩ : ∃ z, z = wn10.heap.size := ⟨_, rfl⟩
            have in11 : Hid (InW wn11 (some ⟨bb11, 0, none⟩) 1 [mv] ∧ bb11 ≠ H ∧ bb11 ≠ H2) := Lib.hid ⟨by rw [hw11, hb11]; exact inW_new wn10 [mv] 1, by have := Pn10.out.hp.lt; omega, by have := Pn10.out.hq.lt; omega⟩
            rw [← hw11, ← hb11]
            clear hw11 hb11
            have Pn11 := Lib.hid (Pn10.out.below bl11.out)
            have b2n11 := Lib.hid (And.intro (in10.out.1.below bl11.out) in10.out.2)
            refine wpAnyH_ready (rs := [12]) (by kernel_rfl) (by simp) ?_
            refine AllReadyH.cons (o := { dst := some 161, op := Go.Op.call { callee := Go.Callee.value (Go.Operand.func 16), args := #[Go.Operand.tmp 158, Go.Operand.tmp 160], argTypes := #[23, 34] }, type := 34, pos := _, after := #[{ on := 9, ground := Go.Ground.data }, { on := 11, ground := Go.Ground.data }, { on := 8, ground := Go.Ground.chain }, { on := 8, ground := Go.Ground.guard }], guard := some (8, true) }) rfl (fun K hK => ?_) AllReadyH.nil
            rw [if_pos (by rfl)]
            go_simp
            have CL12 := Lib.hid (collect_any Pn11.out.hp in11.out.1 HM1.out (by simp))
            refine CL12.out.mono ?_; rintro e wn12 ⟨O12, rfl, h12⟩
            have Pn12 := Lib.hid (Pn11.out.colP h12.out.1 h12.out.2.1)
            have xn12 := Lib.hid (inW_of h12.out.2.2.1)
            have b2n12 := Lib.hid (And.intro (b2n11.out.1.frm h12.out.2.1 (fun b off v e => by injection e with e; injection e with e; rw [← e]; exact b2n11.out.2.1)) b2n11.out.2)
            clear CL12 h12
            go_wp2_with fail
            refine hK.out _ _ trivial (fun hHeld12 => ?_)
            clear hK K
            (try simp only [Act.put, List.setIfInBounds_toArray, List.set_cons_zero, List.set_cons_succ])
            refine wpAnyH_ready (rs := [13]) (by kernel_rfl) (by simp) ?_
            refine AllReadyH.cons (o := { dst := some 162, op := Go.Op.call { callee := Go.Callee.value (Go.Operand.func 25), args := #[Go.Operand.tmp 161], argTypes := #[34] }, type := 45, pos := _, after := #[{ on := 12, ground := Go.Ground.data }, { on := 12, ground := Go.Ground.chain }, { on := 8, ground := Go.Ground.guard }], guard := some (8, true) }) rfl (fun K hK => ?_) AllReadyH.nil
            rw [if_pos (by rfl)]
            go_simp
            have WD13 := Lib.hid (words_any xn12.out.1 xn12.out.2 (by simp))
            refine WD13.out.mono ?_; rintro e wn13 ⟨vv13, rfl, vn13, bn13⟩
            have Pn13 := Lib.hid (Pn12.out.below bn13.out)
            have vn13 := Lib.hid (And.intro vn13.out Pn12.out.hq.lt)
            have b2n13 := Lib.hid (And.intro (b2n12.out.1.below bn13.out) b2n12.out.2)
            clear WD13
            go_wp2_with fail
            refine hK.out _ _ trivial (fun hHeld13 => ?_)
            clear hK K
            (try simp only [Act.put, List.setIfInBounds_toArray, List.set_cons_zero, List.set_cons_succ])
            have CL := Lib.hid (collect_any Pn13.out.hq b2n13.out.1 HM1.out (by simp))
            refine wpAnyH_ready (rs := [17]) (by kernel_rfl) (by simp) ?_
            refine AllReadyH.cons (o := { dst := some 166, op := Go.Op.call { callee := Go.Callee.value (Go.Operand.func 16), args := #[Go.Operand.tmp 163, Go.Operand.tmp 165], argTypes := #[23, 34] }, type := 34, pos := _, after := #[{ on := 14, ground := Go.Ground.data }, { on := 16, ground := Go.Ground.data }, { on := 13, ground := Go.Ground.chain }, { on := 8, ground := Go.Ground.guard }], guard := some (8, true) }) rfl (fun K hK => ?_) AllReadyH.nil
            rw [if_pos (by rfl)]
            go_simp
            refine (CL.out).mono ?_; rintro e wc ⟨O2, rfl, hc⟩
            have PC := Lib.hid (Pn13.out.colQ hc.out.1 hc.out.2.1)
            have xc := Lib.hid (inW_of hc.out.2.2.1)
            have vc := Lib.hid (row_frm vn13.out.1 hc.out.2.1 (fun k hk => by subst hk; exact vn13.out.2))
            clear CL hc
            go_wp2_with fail
            refine hK.out _ _ trivial (fun hHeld => ?_)
            clear hK K
            (try simp only [Act.put, List.setIfInBounds_toArray, List.set_cons_zero, List.set_cons_succ])
            have WD := Lib.hid (words_any xc.out.1 xc.out.2 (by simp))
            refine wpAnyH_ready (rs := [18]) (by kernel_rfl) (by simp) ?_
            refine AllReadyH.cons (o := { dst := some 167, op := Go.Op.call { callee := Go.Callee.value (Go.Operand.func 25), args := #[Go.Operand.tmp 166], argTypes := #[34] }, type := 45, pos := _, after := #[{ on := 17, ground := Go.Ground.data }, { on := 17, ground := Go.Ground.chain }, { on := 8, ground := Go.Ground.guard }], guard := some (8, true) }) rfl (fun K hK => ?_) AllReadyH.nil
            rw [if_pos (by rfl)]
            go_simp
            refine (WD.out).mono ?_; rintro e wd_ ⟨vw, rfl, ow, bw⟩
            have PD := Lib.hid (PC.out.below bw.out)
            have vd := Lib.hid (own_below vc.out bw.out)
            obtain ⟨Av, cv, rfl, hin5, hlx5⟩ := own_inW vd.out
            obtain ⟨Aw, cw, rfl, hin6, hlx6⟩ := own_inW ow.out
            have SM := Lib.hid (same_yes hin5 hin6 hlx5 (by simp))
            clear WD hin5 hin6 vd ow
            go_wp2_with fail
            refine hK.out _ _ trivial (fun hHeld => ?_)
            clear hK K
            (try simp only [Act.put, List.setIfInBounds_toArray, List.set_cons_zero, List.set_cons_succ])
            refine wpAnyH_ready (rs := [19]) (by kernel_rfl) (by simp) ?_
            refine AllReadyH.cons (o := { dst := some 168, op := Go.Op.call { callee := Go.Callee.value (Go.Operand.func 24), args := #[Go.Operand.tmp 162, Go.Operand.tmp 167], argTypes := #[45, 45] }, type := 4, pos := _, after := #[{ on := 13, ground := Go.Ground.data }, { on := 18, ground := Go.Ground.data }, { on := 18, ground := Go.Ground.chain }, { on := 8, ground := Go.Ground.guard }], guard := some (8, true) }) rfl (fun K hK => ?_) AllReadyH.nil
            rw [if_pos (by rfl)]
            go_simp
            refine (SM.out).mono ?_; rintro e we ⟨rfl, be⟩
            have PE := Lib.hid (PD.out.below be)
            clear SM be
            go_wp2_with fail
            refine hK.out _ _ trivial (fun hHeld => ?_)
            clear hK K
            (try simp only [Act.put, List.setIfInBounds_toArray, List.set_cons_zero, List.set_cons_succ])
            refine wpAnyH_take (i := 20) (oi := { dst := some 169, op := Go.Op.pick (Go.Operand.tmp 157) (Go.Operand.tmp 168) (Go.Operand.const (Go.Value.bool false)), type := 4, pos := _, after := #[{ on := 8, ground := Go.Ground.data }, { on := 19, ground := Go.Ground.data }], guard := none }) (v := ?vf1320) rfl (by kernel_rfl) (by kernel_rfl) (by kernel_rfl) (fun _ _ _ h => h) (Or.inl ⟨by rfl, ?hyf1320⟩) (by assumption) ?_
            case hyf1320 => (intro wz hSw; (try dsimp only at hSw); go_simp; try with_reducible rfl)
            (try simp only [Act.put, List.setIfInBounds_toArray, List.set_cons_zero, List.set_cons_succ])
            refine wpAnyH_take (i := 21) (oi := { dst := some 170, op := Go.Op.move (Go.Operand.tmp 169), type := 4, pos := _, after := #[{ on := 20, ground := Go.Ground.data }, { on := 19, ground := Go.Ground.chain }], guard := none }) (v := ?vf1321) rfl (by kernel_rfl) (by kernel_rfl) (by kernel_rfl) (fun _ _ _ h => h) (Or.inl ⟨by rfl, ?hyf1321⟩) (by assumption) ?_
            case hyf1321 => (intro wz hSw; (try dsimp only at hSw); go_simp; try with_reducible rfl)
            (try simp only [Act.put, List.setIfInBounds_toArray, List.set_cons_zero, List.set_cons_succ])
            refine wpAnyH_take (i := 22) (oi := { dst := some 171, op := Go.Op.move (Go.Operand.tmp 11), type := 23, pos := _, after := #[{ on := 21, ground := Go.Ground.guard }], guard := some (21, true) }) (v := ?vf1322) rfl (by kernel_rfl) (by kernel_rfl) (by kernel_rfl) (fun _ _ _ h => h) (Or.inl ⟨by rfl, ?hyf1322⟩) (by assumption) ?_
            case hyf1322 => (intro wz hSw; (try dsimp only at hSw); go_simp; try with_reducible rfl)
            (try simp only [Act.put, List.setIfInBounds_toArray, List.set_cons_zero, List.set_cons_succ])
            refine wpAnyH_take (i := 25) (oi := { dst := some 174, op := Go.Op.move (Go.Operand.tmp 14), type := 23, pos := _, after := #[{ on := 21, ground := Go.Ground.guard }], guard := some (21, true) }) (v := ?vf1325) rfl (by kernel_rfl) (by kernel_rfl) (by kernel_rfl) (fun _ _ _ h => h) (Or.inl ⟨by rfl, ?hyf1325⟩) (by assumption) ?_
            case hyf1325 => (intro wz hSw; (try dsimp only at hSw); go_simp; try with_reducible rfl)
            (try simp only [Act.put, List.setIfInBounds_toArray, List.set_cons_zero, List.set_cons_succ])
            have PUP := Lib.hid (putH_any PE.out.hp)
            obtain ⟨SS, hSS⟩ : ∃ z, z = strOfNums (encM (colM m2 [mv])) := ⟨_, rfl⟩
            have ESS := Lib.hid hSS
            clear hSS
            have PUQ : Hid (∀ W, Below we.heap.size we W → Calls Try.prog 19 #[.pointer (some ⟨H2, 0, none⟩)] W fun e w' => ∃ v', e = .returned v' ∧ Hid (w'.ownsRow W.heap.size 5 1 v' (16 + 8 * (colM m2 [mv]).ws.length) (wb (encM (colM m2 [mv])))) ∧ Hid (Below W.heap.size W w')) := Lib.hid (fun W hW => putH_any (PE.out.hq.below hW))
            refine wpAnyH_ready (rs := [23]) (by kernel_rfl) (by simp) ?_
            refine AllReadyH.cons (o := { dst := some 172, op := Go.Op.call { callee := Go.Callee.value (Go.Operand.func 19), args := #[Go.Operand.tmp 171], argTypes := #[23] }, type := 40, pos := _, after := #[{ on := 22, ground := Go.Ground.data }, { on := 21, ground := Go.Ground.chain }, { on := 21, ground := Go.Ground.guard }], guard := some (21, true) }) rfl (fun K hK => ?_) AllReadyH.nil
            rw [if_pos (by rfl)]
            go_simp
            refine (PUP.out).mono ?_; rintro e w10 ⟨v10, rfl, own10, b10⟩
            go_wp2_with fail
            refine hK.out _ _ trivial (fun hHeld => ?_)
            clear hK K
            (try simp only [Act.put, List.setIfInBounds_toArray, List.set_cons_zero, List.set_cons_succ])
            have cv10 : (convert 40 9 v10).run Try.prog w10 = .ok (.string SS) w10 := by rw [ESS.out]; exact str_own own10.out
            refine upon_mono (S' := fun w' => (convert 40 9 v10).run Try.prog w' = .ok (.string SS) w') (fun _ h => trivial) _ _ _ _ ?_
            have hHeld2 := cv10
            refine wpAnyH_take (i := 24) (oi := { dst := some 173, op := Go.Op.convert 40 9 (Go.Operand.tmp 172), type := 9, pos := _, after := #[{ on := 23, ground := Go.Ground.data }, { on := 21, ground := Go.Ground.guard }], guard := some (21, true) }) (v := ?vf1324) rfl (by kernel_rfl) (by kernel_rfl) (by kernel_rfl) (fun _ _ _ h => h) (Or.inl ⟨by rfl, ?hyf1324⟩) hHeld2 ?_
            case hyf1324 => (intro wz hSw; (try dsimp only at hSw); have hcv := hSw; go_simp; try with_reducible rfl)
            (try simp only [Act.put, List.setIfInBounds_toArray, List.set_cons_zero, List.set_cons_succ])
            refine wpAnyH_ready (rs := [26]) (by kernel_rfl) (by simp) ?_
            refine AllReadyH.cons (o := { dst := some 175, op := Go.Op.call { callee := Go.Callee.value (Go.Operand.func 19), args := #[Go.Operand.tmp 174], argTypes := #[23] }, type := 40, pos := _, after := #[{ on := 25, ground := Go.Ground.data }, { on := 23, ground := Go.Ground.chain }, { on := 21, ground := Go.Ground.guard }], guard := some (21, true) }) rfl (fun K hK => ?_) AllReadyH.nil
            rw [if_pos (by rfl)]
            go_simp
            refine (PUQ.out _ b10.out).mono ?_; rintro e w11 ⟨v11, rfl, own11, b11⟩
            have cv11 : (convert 40 9 v11).run Try.prog w11 = .ok (.string SS) w11 := by rw [ESS.out]; exact str_own own11.out
            have cv10b : (convert 40 9 v10).run Try.prog w11 = .ok (.string SS) w11 := by rw [ESS.out]; exact str_own (own_below own10.out b11.out)
            have bb11 := bt b10.out b11.out
            go_wp2_with fail
            refine hK.out _ _ cv10b (fun hHeld3 => ?_)
            clear hK K
            (try simp only [Act.put, List.setIfInBounds_toArray, List.set_cons_zero, List.set_cons_succ])
            refine wpAnyH_ready (rs := [27]) (by kernel_rfl) (by simp) ?_
            refine AllReadyH.cons (o := { dst := some 176, op := Go.Op.convert 40 9 (Go.Operand.tmp 175), type := 9, pos := _, after := #[{ on := 26, ground := Go.Ground.data }, { on := 21, ground := Go.Ground.guard }], guard := some (21, true) }) rfl (fun K hK => ?_) AllReadyH.nil
            rw [if_pos (by rfl)]
            go_simp
            refine hK.out _ _ hHeld3 (fun hHeld4 => ?_)
            clear hK K
            (try simp only [Act.put, List.setIfInBounds_toArray, List.set_cons_zero, List.set_cons_succ])
            refine wpAnyH_take (i := 28) (oi := { dst := some 177, op := Go.Op.binOp Go.BinOp.eql 9 (Go.Operand.tmp 173) (Go.Operand.tmp 176) 9, type := 4, pos := _, after := #[{ on := 24, ground := Go.Ground.data }, { on := 27, ground := Go.Ground.data }, { on := 21, ground := Go.Ground.guard }], guard := some (21, true) }) (v := ?vf1328) rfl (by kernel_rfl) (by kernel_rfl) (by kernel_rfl) (fun _ _ _ h => h) (Or.inl ⟨by rfl, ?hyf1328⟩) (by assumption) ?_
            case hyf1328 => (intro wz hSw; (try dsimp only at hSw); go_simp; try with_reducible rfl)
            (try simp only [Act.put, List.setIfInBounds_toArray, List.set_cons_zero, List.set_cons_succ])
            refine wpAnyH_take (i := 29) (oi := { dst := some 178, op := Go.Op.pick (Go.Operand.tmp 170) (Go.Operand.tmp 177) (Go.Operand.const (Go.Value.bool false)), type := 4, pos := _, after := #[{ on := 21, ground := Go.Ground.data }, { on := 28, ground := Go.Ground.data }], guard := none }) (v := ?vf1329) rfl (by kernel_rfl) (by kernel_rfl) (by kernel_rfl) (fun _ _ _ h => h) (Or.inl ⟨by rfl, ?hyf1329⟩) (by assumption) ?_
            case hyf1329 => (intro wz hSw; (try dsimp only at hSw); go_simp; try with_reducible rfl)
            (try simp only [Act.put, List.setIfInBounds_toArray, List.set_cons_zero, List.set_cons_succ])
            refine wpAnyH_take (i := 30) (oi := { dst := some 6, op := Go.Op.assign (Go.Operand.tmp 178), type := 4, pos := _, after := #[{ on := 29, ground := Go.Ground.data }, { on := 26, ground := Go.Ground.chain }, { on := 0, ground := Go.Ground.phase }, { on := 1, ground := Go.Ground.phase }, { on := 2, ground := Go.Ground.phase }, { on := 3, ground := Go.Ground.phase }, { on := 4, ground := Go.Ground.phase }, { on := 5, ground := Go.Ground.phase }, { on := 6, ground := Go.Ground.phase }, { on := 7, ground := Go.Ground.phase }, { on := 8, ground := Go.Ground.phase }, { on := 9, ground := Go.Ground.phase }, { on := 10, ground := Go.Ground.phase }, { on := 11, ground := Go.Ground.phase }, { on := 12, ground := Go.Ground.phase }, { on := 13, ground := Go.Ground.phase }, { on := 14, ground := Go.Ground.phase }, { on := 15, ground := Go.Ground.phase }, { on := 16, ground := Go.Ground.phase }, { on := 17, ground := Go.Ground.phase }, { on := 18, ground := Go.Ground.phase }, { on := 19, ground := Go.Ground.phase }, { on := 20, ground := Go.Ground.phase }, { on := 21, ground := Go.Ground.phase }, { on := 22, ground := Go.Ground.phase }, { on := 23, ground := Go.Ground.phase }, { on := 24, ground := Go.Ground.phase }, { on := 25, ground := Go.Ground.phase }, { on := 26, ground := Go.Ground.phase }, { on := 27, ground := Go.Ground.phase }, { on := 28, ground := Go.Ground.phase }, { on := 29, ground := Go.Ground.phase }], guard := none }) (v := ?vf1330) rfl (by kernel_rfl) (by kernel_rfl) (by kernel_rfl) (fun _ _ _ h => h) (Or.inl ⟨by rfl, ?hyf1330⟩) (by assumption) ?_
            case hyf1330 => (intro wz hSw; (try dsimp only at hSw); go_simp; try with_reducible rfl)
            (try simp only [Act.put, List.setIfInBounds_toArray, List.set_cons_zero, List.set_cons_succ])
            refine wpAnyH_done (by kernel_rfl) ?_ _
            go_wp2
            go_ret
            exact ⟨by rfl, BX.out.trans ((PE.out.bel.trans (bb11.mono PE.out.bel.size)).mono BX.out.size)⟩
    all_goals exact hq.elim
  · rcases V2.out with ⟨hn2, rfl, rfl⟩ | ⟨m2, H2, hn2, rfl, rfl, hr2⟩
    · rcases V3.out with ⟨hn1, rfl, rfl⟩ | ⟨m1, H1, hn1, rfl, rfl, hp1⟩
      · clear hn1 hn2
        refine wp_region_held_drew (S := fun w' => True) (by kernel_rfl) ?_ (fun hHeld => ?_)
        · trivial
        refine wpAnyH_take (i := 0) (oi := { dst := some 46, op := Go.Op.move (Go.Operand.tmp 8), type := 24, pos := _, after := #[], guard := none }) (v := ?va0) rfl (by kernel_rfl) (by kernel_rfl) (by kernel_rfl) (fun _ _ _ h => h) (Or.inl ⟨by rfl, ?hya0⟩) (by assumption) ?_
        case hya0 => (intro wz hSw; (try dsimp only at hSw); go_simp; try with_reducible rfl)
        (try simp only [Act.put, List.setIfInBounds_toArray, List.set_cons_zero, List.set_cons_succ])
        refine wpAnyH_take (i := 1) (oi := { dst := some 47, op := Go.Op.binOp Go.BinOp.eql 24 (Go.Operand.tmp 46) (Go.Operand.const (Go.Value.int Go.IntKind.i64 0)) 24, type := 4, pos := _, after := #[{ on := 0, ground := Go.Ground.data }], guard := none }) (v := ?va1) rfl (by kernel_rfl) (by kernel_rfl) (by kernel_rfl) (fun _ _ _ h => h) (Or.inl ⟨by rfl, ?hya1⟩) (by assumption) ?_
        case hya1 => (intro wz hSw; (try dsimp only at hSw); go_simp; try with_reducible rfl)
        (try simp only [Act.put, List.setIfInBounds_toArray, List.set_cons_zero, List.set_cons_succ])
        refine wpAnyH_take (i := 2) (oi := { dst := some 48, op := Go.Op.move (Go.Operand.tmp 10), type := 4, pos := _, after := #[], guard := none }) (v := ?va2) rfl (by kernel_rfl) (by kernel_rfl) (by kernel_rfl) (fun _ _ _ h => h) (Or.inl ⟨by rfl, ?hya2⟩) (by assumption) ?_
        case hya2 => (intro wz hSw; (try dsimp only at hSw); go_simp; try with_reducible rfl)
        (try simp only [Act.put, List.setIfInBounds_toArray, List.set_cons_zero, List.set_cons_succ])
        refine wpAnyH_take (i := 3) (oi := { dst := some 49, op := Go.Op.binOp Go.BinOp.neq 4 (Go.Operand.tmp 47) (Go.Operand.tmp 48) 4, type := 4, pos := _, after := #[{ on := 1, ground := Go.Ground.data }, { on := 2, ground := Go.Ground.data }], guard := none }) (v := ?va3) rfl (by kernel_rfl) (by kernel_rfl) (by kernel_rfl) (fun _ _ _ h => h) (Or.inl ⟨by rfl, ?hya3⟩) (by assumption) ?_
        case hya3 => (intro wz hSw; (try dsimp only at hSw); go_simp; try with_reducible rfl)
        (try simp only [Act.put, List.setIfInBounds_toArray, List.set_cons_zero, List.set_cons_succ])
        refine wpAnyH_take (i := 4) (oi := { dst := some 50, op := Go.Op.move (Go.Operand.tmp 49), type := 4, pos := _, after := #[{ on := 3, ground := Go.Ground.data }], guard := none }) (v := ?va4) rfl (by kernel_rfl) (by kernel_rfl) (by kernel_rfl) (fun _ _ _ h => h) (Or.inl ⟨by rfl, ?hya4⟩) (by assumption) ?_
        case hya4 => (intro wz hSw; (try dsimp only at hSw); go_simp; try with_reducible rfl)
        (try simp only [Act.put, List.setIfInBounds_toArray, List.set_cons_zero, List.set_cons_succ])
        refine wpAnyH_take (i := 5) (oi := { dst := some 51, op := Go.Op.move (Go.Operand.tmp 10), type := 4, pos := _, after := #[{ on := 4, ground := Go.Ground.guard }], guard := some (4, false) }) (v := ?va5) rfl (by kernel_rfl) (by kernel_rfl) (by kernel_rfl) (fun _ _ _ h => h) (Or.inl ⟨by rfl, ?hya5⟩) (by assumption) ?_
        case hya5 => (intro wz hSw; (try dsimp only at hSw); go_simp; try with_reducible rfl)
        (try simp only [Act.put, List.setIfInBounds_toArray, List.set_cons_zero, List.set_cons_succ])
        refine wpAnyH_take (i := 6) (oi := { dst := some 52, op := Go.Op.unOp Go.UnOp.not 4 (Go.Operand.tmp 51), type := 4, pos := _, after := #[{ on := 5, ground := Go.Ground.data }, { on := 4, ground := Go.Ground.guard }], guard := some (4, false) }) (v := ?va6) rfl (by kernel_rfl) (by kernel_rfl) (by kernel_rfl) (fun _ _ _ h => h) (Or.inl ⟨by rfl, ?hya6⟩) (by assumption) ?_
        case hya6 => (intro wz hSw; (try dsimp only at hSw); go_simp; try with_reducible rfl)
        (try simp only [Act.put, List.setIfInBounds_toArray, List.set_cons_zero, List.set_cons_succ])
        refine wpAnyH_take (i := 7) (oi := { dst := some 53, op := Go.Op.move (Go.Operand.tmp 52), type := 4, pos := _, after := #[{ on := 6, ground := Go.Ground.data }, { on := 4, ground := Go.Ground.chain }, { on := 4, ground := Go.Ground.guard }], guard := some (4, false) }) (v := ?va7) rfl (by kernel_rfl) (by kernel_rfl) (by kernel_rfl) (fun _ _ _ h => h) (Or.inl ⟨by rfl, ?hya7⟩) (by assumption) ?_
        case hya7 => (intro wz hSw; (try dsimp only at hSw); go_simp; try with_reducible rfl)
        (try simp only [Act.put, List.setIfInBounds_toArray, List.set_cons_zero, List.set_cons_succ])
        refine wpAnyH_take (i := 8) (oi := { dst := some 54, op := Go.Op.move (Go.Operand.tmp 8), type := 24, pos := _, after := #[{ on := 7, ground := Go.Ground.guard }], guard := some (7, true) }) (v := ?va8) rfl (by kernel_rfl) (by kernel_rfl) (by kernel_rfl) (fun _ _ _ h => h) (Or.inl ⟨by rfl, ?hya8⟩) (by assumption) ?_
        case hya8 => (intro wz hSw; (try dsimp only at hSw); go_simp; try with_reducible rfl)
        (try simp only [Act.put, List.setIfInBounds_toArray, List.set_cons_zero, List.set_cons_succ])
        refine wpAnyH_take (i := 9) (oi := { dst := some 55, op := Go.Op.binOp Go.BinOp.neq 24 (Go.Operand.tmp 54) (Go.Operand.const (Go.Value.int Go.IntKind.i64 3)) 24, type := 4, pos := _, after := #[{ on := 8, ground := Go.Ground.data }, { on := 7, ground := Go.Ground.guard }], guard := some (7, true) }) (v := ?va9) rfl (by kernel_rfl) (by kernel_rfl) (by kernel_rfl) (fun _ _ _ h => h) (Or.inl ⟨by rfl, ?hya9⟩) (by assumption) ?_
        case hya9 => (intro wz hSw; (try dsimp only at hSw); go_simp; try with_reducible rfl)
        (try simp only [Act.put, List.setIfInBounds_toArray, List.set_cons_zero, List.set_cons_succ])
        refine wpAnyH_take (i := 10) (oi := { dst := some 56, op := Go.Op.move (Go.Operand.tmp 55), type := 4, pos := _, after := #[{ on := 9, ground := Go.Ground.data }, { on := 7, ground := Go.Ground.chain }, { on := 7, ground := Go.Ground.guard }], guard := some (7, true) }) (v := ?va10) rfl (by kernel_rfl) (by kernel_rfl) (by kernel_rfl) (fun _ _ _ h => h) (Or.inl ⟨by rfl, ?hya10⟩) (by assumption) ?_
        case hya10 => (intro wz hSw; (try dsimp only at hSw); go_simp; try with_reducible rfl)
        (try simp only [Act.put, List.setIfInBounds_toArray, List.set_cons_zero, List.set_cons_succ])
        refine wpAnyH_take (i := 11) (oi := { dst := some 57, op := Go.Op.move (Go.Operand.tmp 7), type := 23, pos := _, after := #[{ on := 10, ground := Go.Ground.guard }], guard := some (10, false) }) (v := ?va11) rfl (by kernel_rfl) (by kernel_rfl) (by kernel_rfl) (fun _ _ _ h => h) (Or.inl ⟨by rfl, ?hya11⟩) (by assumption) ?_
        case hya11 => (intro wz hSw; (try dsimp only at hSw); go_simp; try with_reducible rfl)
        (try simp only [Act.put, List.setIfInBounds_toArray, List.set_cons_zero, List.set_cons_succ])
        refine wpAnyH_take (i := 12) (oi := { dst := some 58, op := Go.Op.binOp Go.BinOp.neq 23 (Go.Operand.tmp 57) (Go.Operand.const (Go.Value.pointer none)) 23, type := 4, pos := _, after := #[{ on := 11, ground := Go.Ground.data }, { on := 10, ground := Go.Ground.guard }], guard := some (10, false) }) (v := ?va12) rfl (by kernel_rfl) (by kernel_rfl) (by kernel_rfl) (fun _ _ _ h => h) (Or.inl ⟨by rfl, ?hya12⟩) (by assumption) ?_
        case hya12 => (intro wz hSw; (try dsimp only at hSw); go_simp; try with_reducible rfl)
        (try simp only [Act.put, List.setIfInBounds_toArray, List.set_cons_zero, List.set_cons_succ])
        refine wpAnyH_take (i := 13) (oi := { dst := some 59, op := Go.Op.pick (Go.Operand.tmp 56) (Go.Operand.const (Go.Value.bool true)) (Go.Operand.tmp 58), type := 4, pos := _, after := #[{ on := 10, ground := Go.Ground.data }, { on := 12, ground := Go.Ground.data }, { on := 7, ground := Go.Ground.guard }], guard := some (7, true) }) (v := ?va13) rfl (by kernel_rfl) (by kernel_rfl) (by kernel_rfl) (fun _ _ _ h => h) (Or.inl ⟨by rfl, ?hya13⟩) (by assumption) ?_
        case hya13 => (intro wz hSw; (try dsimp only at hSw); go_simp; try with_reducible rfl)
        (try simp only [Act.put, List.setIfInBounds_toArray, List.set_cons_zero, List.set_cons_succ])
        refine wpAnyH_take (i := 14) (oi := { dst := some 60, op := Go.Op.pick (Go.Operand.tmp 53) (Go.Operand.tmp 59) (Go.Operand.const (Go.Value.bool false)), type := 4, pos := _, after := #[{ on := 7, ground := Go.Ground.data }, { on := 13, ground := Go.Ground.data }, { on := 4, ground := Go.Ground.guard }], guard := some (4, false) }) (v := ?va14) rfl (by kernel_rfl) (by kernel_rfl) (by kernel_rfl) (fun _ _ _ h => h) (Or.inl ⟨by rfl, ?hya14⟩) (by assumption) ?_
        case hya14 => (intro wz hSw; (try dsimp only at hSw); go_simp; try with_reducible rfl)
        (try simp only [Act.put, List.setIfInBounds_toArray, List.set_cons_zero, List.set_cons_succ])
        refine wpAnyH_take (i := 15) (oi := { dst := some 61, op := Go.Op.pick (Go.Operand.tmp 50) (Go.Operand.const (Go.Value.bool true)) (Go.Operand.tmp 60), type := 4, pos := _, after := #[{ on := 4, ground := Go.Ground.data }, { on := 14, ground := Go.Ground.data }], guard := none }) (v := ?va15) rfl (by kernel_rfl) (by kernel_rfl) (by kernel_rfl) (fun _ _ _ h => h) (Or.inl ⟨by rfl, ?hya15⟩) (by assumption) ?_
        case hya15 => (intro wz hSw; (try dsimp only at hSw); go_simp; try with_reducible rfl)
        (try simp only [Act.put, List.setIfInBounds_toArray, List.set_cons_zero, List.set_cons_succ])
        refine wpAnyH_take (i := 16) (oi := { dst := some 62, op := Go.Op.move (Go.Operand.tmp 61), type := 4, pos := _, after := #[{ on := 15, ground := Go.Ground.data }, { on := 10, ground := Go.Ground.chain }], guard := none }) (v := ?va16) rfl (by kernel_rfl) (by kernel_rfl) (by kernel_rfl) (fun _ _ _ h => h) (Or.inl ⟨by rfl, ?hya16⟩) (by assumption) ?_
        case hya16 => (intro wz hSw; (try dsimp only at hSw); go_simp; try with_reducible rfl)
        (try simp only [Act.put, List.setIfInBounds_toArray, List.set_cons_zero, List.set_cons_succ])
        refine wpAnyH_take (i := 17) (oi := { dst := some 63, op := Go.Op.move (Go.Operand.tmp 10), type := 4, pos := _, after := #[{ on := 16, ground := Go.Ground.guard }], guard := some (16, false) }) (v := ?va17) rfl (by kernel_rfl) (by kernel_rfl) (by kernel_rfl) (fun _ _ _ h => h) (Or.inl ⟨by rfl, ?hya17⟩) (by assumption) ?_
        case hya17 => (intro wz hSw; (try dsimp only at hSw); go_simp; try with_reducible rfl)
        (try simp only [Act.put, List.setIfInBounds_toArray, List.set_cons_zero, List.set_cons_succ])
        refine wpAnyH_take (i := 18) (oi := { dst := some 64, op := Go.Op.move (Go.Operand.tmp 63), type := 4, pos := _, after := #[{ on := 17, ground := Go.Ground.data }, { on := 16, ground := Go.Ground.chain }, { on := 16, ground := Go.Ground.guard }], guard := some (16, false) }) (v := ?va18) rfl (by kernel_rfl) (by kernel_rfl) (by kernel_rfl) (fun _ _ _ h => h) (Or.inl ⟨by rfl, ?hya18⟩) (by assumption) ?_
        case hya18 => (intro wz hSw; (try dsimp only at hSw); go_simp; try with_reducible rfl)
        (try simp only [Act.put, List.setIfInBounds_toArray, List.set_cons_zero, List.set_cons_succ])
        refine wpAnyH_take (i := 19) (oi := { dst := some 65, op := Go.Op.move (Go.Operand.tmp 7), type := 23, pos := _, after := #[{ on := 18, ground := Go.Ground.guard }], guard := some (18, true) }) (v := undef) rfl (by kernel_rfl) (by kernel_rfl) (by kernel_rfl) (fun _ _ _ h => h) (Or.inr ⟨by rfl, rfl⟩) (by assumption) ?_
        (try simp only [Act.put, List.setIfInBounds_toArray, List.set_cons_zero, List.set_cons_succ])
        refine wpAnyH_take (i := 20) (oi := { dst := some 66, op := Go.Op.binOp Go.BinOp.eql 23 (Go.Operand.tmp 65) (Go.Operand.const (Go.Value.pointer none)) 23, type := 4, pos := _, after := #[{ on := 19, ground := Go.Ground.data }, { on := 18, ground := Go.Ground.guard }], guard := some (18, true) }) (v := undef) rfl (by kernel_rfl) (by kernel_rfl) (by kernel_rfl) (fun _ _ _ h => h) (Or.inr ⟨by rfl, rfl⟩) (by assumption) ?_
        (try simp only [Act.put, List.setIfInBounds_toArray, List.set_cons_zero, List.set_cons_succ])
        refine wpAnyH_take (i := 21) (oi := { dst := some 67, op := Go.Op.move (Go.Operand.tmp 66), type := 4, pos := _, after := #[{ on := 20, ground := Go.Ground.data }, { on := 18, ground := Go.Ground.chain }, { on := 18, ground := Go.Ground.guard }], guard := some (18, true) }) (v := undef) rfl (by kernel_rfl) (by kernel_rfl) (by kernel_rfl) (fun _ _ _ h => h) (Or.inr ⟨by rfl, rfl⟩) (by assumption) ?_
        (try simp only [Act.put, List.setIfInBounds_toArray, List.set_cons_zero, List.set_cons_succ])
        refine wpAnyH_take (i := 22) (oi := { dst := some 68, op := Go.Op.move (Go.Operand.tmp 7), type := 23, pos := _, after := #[{ on := 21, ground := Go.Ground.guard }], guard := some (21, false) }) (v := undef) rfl (by kernel_rfl) (by kernel_rfl) (by kernel_rfl) (fun _ _ _ h => h) (Or.inr ⟨by rfl, rfl⟩) (by assumption) ?_
        (try simp only [Act.put, List.setIfInBounds_toArray, List.set_cons_zero, List.set_cons_succ])
        refine wpAnyH_take (i := 23) (oi := { dst := some 69, op := Go.Op.call { callee := Go.Callee.value (Go.Operand.func 19), args := #[Go.Operand.tmp 68], argTypes := #[23] }, type := 40, pos := _, after := #[{ on := 22, ground := Go.Ground.data }, { on := 21, ground := Go.Ground.chain }, { on := 21, ground := Go.Ground.guard }], guard := some (21, false) }) (v := undef) rfl (by kernel_rfl) (by kernel_rfl) (by kernel_rfl) (fun _ _ _ h => h) (Or.inr ⟨by rfl, rfl⟩) (by assumption) ?_
        (try simp only [Act.put, List.setIfInBounds_toArray, List.set_cons_zero, List.set_cons_succ])
        refine wpAnyH_take (i := 24) (oi := { dst := some 70, op := Go.Op.convert 40 9 (Go.Operand.tmp 69), type := 9, pos := _, after := #[{ on := 23, ground := Go.Ground.data }, { on := 21, ground := Go.Ground.guard }], guard := some (21, false) }) (v := undef) rfl (by kernel_rfl) (by kernel_rfl) (by kernel_rfl) (fun _ _ _ h => h) (Or.inr ⟨by rfl, rfl⟩) (by assumption) ?_
        (try simp only [Act.put, List.setIfInBounds_toArray, List.set_cons_zero, List.set_cons_succ])
        refine wpAnyH_take (i := 25) (oi := { dst := some 71, op := Go.Op.move (Go.Operand.tmp 9), type := 44, pos := _, after := #[{ on := 21, ground := Go.Ground.guard }], guard := some (21, false) }) (v := undef) rfl (by kernel_rfl) (by kernel_rfl) (by kernel_rfl) (fun _ _ _ h => h) (Or.inr ⟨by rfl, rfl⟩) (by assumption) ?_
        (try simp only [Act.put, List.setIfInBounds_toArray, List.set_cons_zero, List.set_cons_succ])
        refine wpAnyH_take (i := 26) (oi := { dst := some 72, op := Go.Op.call { callee := Go.Callee.value (Go.Operand.func 31), args := #[Go.Operand.tmp 71], argTypes := #[44] }, type := 40, pos := _, after := #[{ on := 25, ground := Go.Ground.data }, { on := 23, ground := Go.Ground.chain }, { on := 21, ground := Go.Ground.guard }], guard := some (21, false) }) (v := undef) rfl (by kernel_rfl) (by kernel_rfl) (by kernel_rfl) (fun _ _ _ h => h) (Or.inr ⟨by rfl, rfl⟩) (by assumption) ?_
        (try simp only [Act.put, List.setIfInBounds_toArray, List.set_cons_zero, List.set_cons_succ])
        refine wpAnyH_take (i := 27) (oi := { dst := some 73, op := Go.Op.convert 40 9 (Go.Operand.tmp 72), type := 9, pos := _, after := #[{ on := 26, ground := Go.Ground.data }, { on := 21, ground := Go.Ground.guard }], guard := some (21, false) }) (v := undef) rfl (by kernel_rfl) (by kernel_rfl) (by kernel_rfl) (fun _ _ _ h => h) (Or.inr ⟨by rfl, rfl⟩) (by assumption) ?_
        (try simp only [Act.put, List.setIfInBounds_toArray, List.set_cons_zero, List.set_cons_succ])
        refine wpAnyH_take (i := 28) (oi := { dst := some 74, op := Go.Op.binOp Go.BinOp.neq 9 (Go.Operand.tmp 70) (Go.Operand.tmp 73) 9, type := 4, pos := _, after := #[{ on := 24, ground := Go.Ground.data }, { on := 27, ground := Go.Ground.data }, { on := 21, ground := Go.Ground.guard }], guard := some (21, false) }) (v := undef) rfl (by kernel_rfl) (by kernel_rfl) (by kernel_rfl) (fun _ _ _ h => h) (Or.inr ⟨by rfl, rfl⟩) (by assumption) ?_
        (try simp only [Act.put, List.setIfInBounds_toArray, List.set_cons_zero, List.set_cons_succ])
        refine wpAnyH_take (i := 29) (oi := { dst := some 75, op := Go.Op.pick (Go.Operand.tmp 67) (Go.Operand.const (Go.Value.bool true)) (Go.Operand.tmp 74), type := 4, pos := _, after := #[{ on := 21, ground := Go.Ground.data }, { on := 28, ground := Go.Ground.data }, { on := 18, ground := Go.Ground.guard }], guard := some (18, true) }) (v := undef) rfl (by kernel_rfl) (by kernel_rfl) (by kernel_rfl) (fun _ _ _ h => h) (Or.inr ⟨by rfl, rfl⟩) (by assumption) ?_
        (try simp only [Act.put, List.setIfInBounds_toArray, List.set_cons_zero, List.set_cons_succ])
        refine wpAnyH_take (i := 30) (oi := { dst := some 76, op := Go.Op.pick (Go.Operand.tmp 64) (Go.Operand.tmp 75) (Go.Operand.const (Go.Value.bool false)), type := 4, pos := _, after := #[{ on := 18, ground := Go.Ground.data }, { on := 29, ground := Go.Ground.data }, { on := 16, ground := Go.Ground.guard }], guard := some (16, false) }) (v := ?va30) rfl (by kernel_rfl) (by kernel_rfl) (by kernel_rfl) (fun _ _ _ h => h) (Or.inl ⟨by rfl, ?hya30⟩) (by assumption) ?_
        case hya30 => (intro wz hSw; (try dsimp only at hSw); go_simp; try with_reducible rfl)
        (try simp only [Act.put, List.setIfInBounds_toArray, List.set_cons_zero, List.set_cons_succ])
        refine wpAnyH_take (i := 31) (oi := { dst := some 77, op := Go.Op.pick (Go.Operand.tmp 62) (Go.Operand.const (Go.Value.bool true)) (Go.Operand.tmp 76), type := 4, pos := _, after := #[{ on := 16, ground := Go.Ground.data }, { on := 30, ground := Go.Ground.data }], guard := none }) (v := ?va31) rfl (by kernel_rfl) (by kernel_rfl) (by kernel_rfl) (fun _ _ _ h => h) (Or.inl ⟨by rfl, ?hya31⟩) (by assumption) ?_
        case hya31 => (intro wz hSw; (try dsimp only at hSw); go_simp; try with_reducible rfl)
        (try simp only [Act.put, List.setIfInBounds_toArray, List.set_cons_zero, List.set_cons_succ])
        refine wpAnyH_done (by kernel_rfl) ?_ _
        exact ⟨_, _, _, _, _, _, _, _, _, _, _, _, _, _, _, _, _, _, _, _, _, _, _, _, _, _, _, _, _, _, _, _, _, _, _, _, _, _, _, _, _, _, _, _, _, _, _, _, _, _, _, _, _, _, _, _, _, _, _, _, _, rfl, bt B3.out (bdr _)⟩
      · rw [hn1] at hn2; cases hn2
    · rcases V3.out with ⟨hn1, rfl, rfl⟩ | ⟨m1, H1, hn1, rfl, rfl, hp1⟩
      · rw [hn1] at hn2; cases hn2
      · obtain rfl : m1 = m2 := by rw [hn1] at hn2; exact Option.some.inj hn2
        clear hn1 hn2
        have PU := Lib.hid (putH_any (hp1.below (bdr w3)))
        have PR : Hid (∀ W, Below w3.drew.heap.size w3.drew W → Calls Try.prog 31 #[.pointer (some ⟨H2, 0, none⟩)] W fun e w' => ∃ v', e = .returned v' ∧ Hid (w'.ownsRow W.heap.size 5 1 v' (16 + 8 * m1.ws.length) (wb (encM m1))) ∧ Hid (Below W.heap.size W w')) := Lib.hid (fun W hW => rput0_any ((hr2.below (bdr w3)).below hW))
        obtain ⟨SS, hSS⟩ : ∃ z, z = strOfNums (encM m1) := ⟨_, rfl⟩
        have ESS := Lib.hid hSS
        clear hSS hp1 hr2
        refine wp_region_held_drew (S := fun w' => True) (by kernel_rfl) ?_ (fun hHeld => ?_)
        · trivial
        refine wpAnyH_take (i := 0) (oi := { dst := some 46, op := Go.Op.move (Go.Operand.tmp 8), type := 24, pos := _, after := #[], guard := none }) (v := ?vb0) rfl (by kernel_rfl) (by kernel_rfl) (by kernel_rfl) (fun _ _ _ h => h) (Or.inl ⟨by rfl, ?hyb0⟩) (by assumption) ?_
        case hyb0 => (intro wz hSw; (try dsimp only at hSw); go_simp; try with_reducible rfl)
        (try simp only [Act.put, List.setIfInBounds_toArray, List.set_cons_zero, List.set_cons_succ])
        refine wpAnyH_take (i := 1) (oi := { dst := some 47, op := Go.Op.binOp Go.BinOp.eql 24 (Go.Operand.tmp 46) (Go.Operand.const (Go.Value.int Go.IntKind.i64 0)) 24, type := 4, pos := _, after := #[{ on := 0, ground := Go.Ground.data }], guard := none }) (v := ?vb1) rfl (by kernel_rfl) (by kernel_rfl) (by kernel_rfl) (fun _ _ _ h => h) (Or.inl ⟨by rfl, ?hyb1⟩) (by assumption) ?_
        case hyb1 => (intro wz hSw; (try dsimp only at hSw); go_simp; try with_reducible rfl)
        (try simp only [Act.put, List.setIfInBounds_toArray, List.set_cons_zero, List.set_cons_succ])
        refine wpAnyH_take (i := 2) (oi := { dst := some 48, op := Go.Op.move (Go.Operand.tmp 10), type := 4, pos := _, after := #[], guard := none }) (v := ?vb2) rfl (by kernel_rfl) (by kernel_rfl) (by kernel_rfl) (fun _ _ _ h => h) (Or.inl ⟨by rfl, ?hyb2⟩) (by assumption) ?_
        case hyb2 => (intro wz hSw; (try dsimp only at hSw); go_simp; try with_reducible rfl)
        (try simp only [Act.put, List.setIfInBounds_toArray, List.set_cons_zero, List.set_cons_succ])
        refine wpAnyH_take (i := 3) (oi := { dst := some 49, op := Go.Op.binOp Go.BinOp.neq 4 (Go.Operand.tmp 47) (Go.Operand.tmp 48) 4, type := 4, pos := _, after := #[{ on := 1, ground := Go.Ground.data }, { on := 2, ground := Go.Ground.data }], guard := none }) (v := ?vb3) rfl (by kernel_rfl) (by kernel_rfl) (by kernel_rfl) (fun _ _ _ h => h) (Or.inl ⟨by rfl, ?hyb3⟩) (by assumption) ?_
        case hyb3 => (intro wz hSw; (try dsimp only at hSw); go_simp; try with_reducible rfl)
        (try simp only [Act.put, List.setIfInBounds_toArray, List.set_cons_zero, List.set_cons_succ])
        refine wpAnyH_take (i := 4) (oi := { dst := some 50, op := Go.Op.move (Go.Operand.tmp 49), type := 4, pos := _, after := #[{ on := 3, ground := Go.Ground.data }], guard := none }) (v := ?vb4) rfl (by kernel_rfl) (by kernel_rfl) (by kernel_rfl) (fun _ _ _ h => h) (Or.inl ⟨by rfl, ?hyb4⟩) (by assumption) ?_
        case hyb4 => (intro wz hSw; (try dsimp only at hSw); go_simp; try with_reducible rfl)
        (try simp only [Act.put, List.setIfInBounds_toArray, List.set_cons_zero, List.set_cons_succ])
        refine wpAnyH_take (i := 5) (oi := { dst := some 51, op := Go.Op.move (Go.Operand.tmp 10), type := 4, pos := _, after := #[{ on := 4, ground := Go.Ground.guard }], guard := some (4, false) }) (v := ?vb5) rfl (by kernel_rfl) (by kernel_rfl) (by kernel_rfl) (fun _ _ _ h => h) (Or.inl ⟨by rfl, ?hyb5⟩) (by assumption) ?_
        case hyb5 => (intro wz hSw; (try dsimp only at hSw); go_simp; try with_reducible rfl)
        (try simp only [Act.put, List.setIfInBounds_toArray, List.set_cons_zero, List.set_cons_succ])
        refine wpAnyH_take (i := 6) (oi := { dst := some 52, op := Go.Op.unOp Go.UnOp.not 4 (Go.Operand.tmp 51), type := 4, pos := _, after := #[{ on := 5, ground := Go.Ground.data }, { on := 4, ground := Go.Ground.guard }], guard := some (4, false) }) (v := ?vb6) rfl (by kernel_rfl) (by kernel_rfl) (by kernel_rfl) (fun _ _ _ h => h) (Or.inl ⟨by rfl, ?hyb6⟩) (by assumption) ?_
        case hyb6 => (intro wz hSw; (try dsimp only at hSw); go_simp; try with_reducible rfl)
        (try simp only [Act.put, List.setIfInBounds_toArray, List.set_cons_zero, List.set_cons_succ])
        refine wpAnyH_take (i := 7) (oi := { dst := some 53, op := Go.Op.move (Go.Operand.tmp 52), type := 4, pos := _, after := #[{ on := 6, ground := Go.Ground.data }, { on := 4, ground := Go.Ground.chain }, { on := 4, ground := Go.Ground.guard }], guard := some (4, false) }) (v := ?vb7) rfl (by kernel_rfl) (by kernel_rfl) (by kernel_rfl) (fun _ _ _ h => h) (Or.inl ⟨by rfl, ?hyb7⟩) (by assumption) ?_
        case hyb7 => (intro wz hSw; (try dsimp only at hSw); go_simp; try with_reducible rfl)
        (try simp only [Act.put, List.setIfInBounds_toArray, List.set_cons_zero, List.set_cons_succ])
        refine wpAnyH_take (i := 8) (oi := { dst := some 54, op := Go.Op.move (Go.Operand.tmp 8), type := 24, pos := _, after := #[{ on := 7, ground := Go.Ground.guard }], guard := some (7, true) }) (v := undef) rfl (by kernel_rfl) (by kernel_rfl) (by kernel_rfl) (fun _ _ _ h => h) (Or.inr ⟨by rfl, rfl⟩) (by assumption) ?_
        (try simp only [Act.put, List.setIfInBounds_toArray, List.set_cons_zero, List.set_cons_succ])
        refine wpAnyH_take (i := 9) (oi := { dst := some 55, op := Go.Op.binOp Go.BinOp.neq 24 (Go.Operand.tmp 54) (Go.Operand.const (Go.Value.int Go.IntKind.i64 3)) 24, type := 4, pos := _, after := #[{ on := 8, ground := Go.Ground.data }, { on := 7, ground := Go.Ground.guard }], guard := some (7, true) }) (v := undef) rfl (by kernel_rfl) (by kernel_rfl) (by kernel_rfl) (fun _ _ _ h => h) (Or.inr ⟨by rfl, rfl⟩) (by assumption) ?_
        (try simp only [Act.put, List.setIfInBounds_toArray, List.set_cons_zero, List.set_cons_succ])
        refine wpAnyH_take (i := 10) (oi := { dst := some 56, op := Go.Op.move (Go.Operand.tmp 55), type := 4, pos := _, after := #[{ on := 9, ground := Go.Ground.data }, { on := 7, ground := Go.Ground.chain }, { on := 7, ground := Go.Ground.guard }], guard := some (7, true) }) (v := undef) rfl (by kernel_rfl) (by kernel_rfl) (by kernel_rfl) (fun _ _ _ h => h) (Or.inr ⟨by rfl, rfl⟩) (by assumption) ?_
        (try simp only [Act.put, List.setIfInBounds_toArray, List.set_cons_zero, List.set_cons_succ])
        refine wpAnyH_take (i := 11) (oi := { dst := some 57, op := Go.Op.move (Go.Operand.tmp 7), type := 23, pos := _, after := #[{ on := 10, ground := Go.Ground.guard }], guard := some (10, false) }) (v := undef) rfl (by kernel_rfl) (by kernel_rfl) (by kernel_rfl) (fun _ _ _ h => h) (Or.inr ⟨by rfl, rfl⟩) (by assumption) ?_
        (try simp only [Act.put, List.setIfInBounds_toArray, List.set_cons_zero, List.set_cons_succ])
        refine wpAnyH_take (i := 12) (oi := { dst := some 58, op := Go.Op.binOp Go.BinOp.neq 23 (Go.Operand.tmp 57) (Go.Operand.const (Go.Value.pointer none)) 23, type := 4, pos := _, after := #[{ on := 11, ground := Go.Ground.data }, { on := 10, ground := Go.Ground.guard }], guard := some (10, false) }) (v := undef) rfl (by kernel_rfl) (by kernel_rfl) (by kernel_rfl) (fun _ _ _ h => h) (Or.inr ⟨by rfl, rfl⟩) (by assumption) ?_
        (try simp only [Act.put, List.setIfInBounds_toArray, List.set_cons_zero, List.set_cons_succ])
        refine wpAnyH_take (i := 13) (oi := { dst := some 59, op := Go.Op.pick (Go.Operand.tmp 56) (Go.Operand.const (Go.Value.bool true)) (Go.Operand.tmp 58), type := 4, pos := _, after := #[{ on := 10, ground := Go.Ground.data }, { on := 12, ground := Go.Ground.data }, { on := 7, ground := Go.Ground.guard }], guard := some (7, true) }) (v := undef) rfl (by kernel_rfl) (by kernel_rfl) (by kernel_rfl) (fun _ _ _ h => h) (Or.inr ⟨by rfl, rfl⟩) (by assumption) ?_
        (try simp only [Act.put, List.setIfInBounds_toArray, List.set_cons_zero, List.set_cons_succ])
        refine wpAnyH_take (i := 14) (oi := { dst := some 60, op := Go.Op.pick (Go.Operand.tmp 53) (Go.Operand.tmp 59) (Go.Operand.const (Go.Value.bool false)), type := 4, pos := _, after := #[{ on := 7, ground := Go.Ground.data }, { on := 13, ground := Go.Ground.data }, { on := 4, ground := Go.Ground.guard }], guard := some (4, false) }) (v := ?vb14) rfl (by kernel_rfl) (by kernel_rfl) (by kernel_rfl) (fun _ _ _ h => h) (Or.inl ⟨by rfl, ?hyb14⟩) (by assumption) ?_
        case hyb14 => (intro wz hSw; (try dsimp only at hSw); go_simp; try with_reducible rfl)
        (try simp only [Act.put, List.setIfInBounds_toArray, List.set_cons_zero, List.set_cons_succ])
        refine wpAnyH_take (i := 15) (oi := { dst := some 61, op := Go.Op.pick (Go.Operand.tmp 50) (Go.Operand.const (Go.Value.bool true)) (Go.Operand.tmp 60), type := 4, pos := _, after := #[{ on := 4, ground := Go.Ground.data }, { on := 14, ground := Go.Ground.data }], guard := none }) (v := ?vb15) rfl (by kernel_rfl) (by kernel_rfl) (by kernel_rfl) (fun _ _ _ h => h) (Or.inl ⟨by rfl, ?hyb15⟩) (by assumption) ?_
        case hyb15 => (intro wz hSw; (try dsimp only at hSw); go_simp; try with_reducible rfl)
        (try simp only [Act.put, List.setIfInBounds_toArray, List.set_cons_zero, List.set_cons_succ])
        refine wpAnyH_take (i := 16) (oi := { dst := some 62, op := Go.Op.move (Go.Operand.tmp 61), type := 4, pos := _, after := #[{ on := 15, ground := Go.Ground.data }, { on := 10, ground := Go.Ground.chain }], guard := none }) (v := ?vb16) rfl (by kernel_rfl) (by kernel_rfl) (by kernel_rfl) (fun _ _ _ h => h) (Or.inl ⟨by rfl, ?hyb16⟩) (by assumption) ?_
        case hyb16 => (intro wz hSw; (try dsimp only at hSw); go_simp; try with_reducible rfl)
        (try simp only [Act.put, List.setIfInBounds_toArray, List.set_cons_zero, List.set_cons_succ])
        refine wpAnyH_take (i := 17) (oi := { dst := some 63, op := Go.Op.move (Go.Operand.tmp 10), type := 4, pos := _, after := #[{ on := 16, ground := Go.Ground.guard }], guard := some (16, false) }) (v := ?vb17) rfl (by kernel_rfl) (by kernel_rfl) (by kernel_rfl) (fun _ _ _ h => h) (Or.inl ⟨by rfl, ?hyb17⟩) (by assumption) ?_
        case hyb17 => (intro wz hSw; (try dsimp only at hSw); go_simp; try with_reducible rfl)
        (try simp only [Act.put, List.setIfInBounds_toArray, List.set_cons_zero, List.set_cons_succ])
        refine wpAnyH_take (i := 18) (oi := { dst := some 64, op := Go.Op.move (Go.Operand.tmp 63), type := 4, pos := _, after := #[{ on := 17, ground := Go.Ground.data }, { on := 16, ground := Go.Ground.chain }, { on := 16, ground := Go.Ground.guard }], guard := some (16, false) }) (v := ?vb18) rfl (by kernel_rfl) (by kernel_rfl) (by kernel_rfl) (fun _ _ _ h => h) (Or.inl ⟨by rfl, ?hyb18⟩) (by assumption) ?_
        case hyb18 => (intro wz hSw; (try dsimp only at hSw); go_simp; try with_reducible rfl)
        (try simp only [Act.put, List.setIfInBounds_toArray, List.set_cons_zero, List.set_cons_succ])
        refine wpAnyH_take (i := 19) (oi := { dst := some 65, op := Go.Op.move (Go.Operand.tmp 7), type := 23, pos := _, after := #[{ on := 18, ground := Go.Ground.guard }], guard := some (18, true) }) (v := ?vb19) rfl (by kernel_rfl) (by kernel_rfl) (by kernel_rfl) (fun _ _ _ h => h) (Or.inl ⟨by rfl, ?hyb19⟩) (by assumption) ?_
        case hyb19 => (intro wz hSw; (try dsimp only at hSw); go_simp; try with_reducible rfl)
        (try simp only [Act.put, List.setIfInBounds_toArray, List.set_cons_zero, List.set_cons_succ])
        refine wpAnyH_take (i := 20) (oi := { dst := some 66, op := Go.Op.binOp Go.BinOp.eql 23 (Go.Operand.tmp 65) (Go.Operand.const (Go.Value.pointer none)) 23, type := 4, pos := _, after := #[{ on := 19, ground := Go.Ground.data }, { on := 18, ground := Go.Ground.guard }], guard := some (18, true) }) (v := ?vb20) rfl (by kernel_rfl) (by kernel_rfl) (by kernel_rfl) (fun _ _ _ h => h) (Or.inl ⟨by rfl, ?hyb20⟩) (by assumption) ?_
        case hyb20 => (intro wz hSw; (try dsimp only at hSw); go_simp; try with_reducible rfl)
        (try simp only [Act.put, List.setIfInBounds_toArray, List.set_cons_zero, List.set_cons_succ])
        refine wpAnyH_take (i := 21) (oi := { dst := some 67, op := Go.Op.move (Go.Operand.tmp 66), type := 4, pos := _, after := #[{ on := 20, ground := Go.Ground.data }, { on := 18, ground := Go.Ground.chain }, { on := 18, ground := Go.Ground.guard }], guard := some (18, true) }) (v := ?vb21) rfl (by kernel_rfl) (by kernel_rfl) (by kernel_rfl) (fun _ _ _ h => h) (Or.inl ⟨by rfl, ?hyb21⟩) (by assumption) ?_
        case hyb21 => (intro wz hSw; (try dsimp only at hSw); go_simp; try with_reducible rfl)
        (try simp only [Act.put, List.setIfInBounds_toArray, List.set_cons_zero, List.set_cons_succ])
        refine wpAnyH_take (i := 22) (oi := { dst := some 68, op := Go.Op.move (Go.Operand.tmp 7), type := 23, pos := _, after := #[{ on := 21, ground := Go.Ground.guard }], guard := some (21, false) }) (v := ?vb22) rfl (by kernel_rfl) (by kernel_rfl) (by kernel_rfl) (fun _ _ _ h => h) (Or.inl ⟨by rfl, ?hyb22⟩) (by assumption) ?_
        case hyb22 => (intro wz hSw; (try dsimp only at hSw); go_simp; try with_reducible rfl)
        (try simp only [Act.put, List.setIfInBounds_toArray, List.set_cons_zero, List.set_cons_succ])
        refine wpAnyH_take (i := 25) (oi := { dst := some 71, op := Go.Op.move (Go.Operand.tmp 9), type := 44, pos := _, after := #[{ on := 21, ground := Go.Ground.guard }], guard := some (21, false) }) (v := ?vb25) rfl (by kernel_rfl) (by kernel_rfl) (by kernel_rfl) (fun _ _ _ h => h) (Or.inl ⟨by rfl, ?hyb25⟩) (by assumption) ?_
        case hyb25 => (intro wz hSw; (try dsimp only at hSw); go_simp; try with_reducible rfl)
        (try simp only [Act.put, List.setIfInBounds_toArray, List.set_cons_zero, List.set_cons_succ])
        refine wpAnyH_ready (rs := [23]) (by kernel_rfl) (by simp) ?_
        refine AllReadyH.cons (o := { dst := some 69, op := Go.Op.call { callee := Go.Callee.value (Go.Operand.func 19), args := #[Go.Operand.tmp 68], argTypes := #[23] }, type := 40, pos := _, after := #[{ on := 22, ground := Go.Ground.data }, { on := 21, ground := Go.Ground.chain }, { on := 21, ground := Go.Ground.guard }], guard := some (21, false) }) rfl (fun K hK => ?_) AllReadyH.nil
        rw [if_pos (by rfl)]
        go_simp
        refine (PU.out).mono ?_; rintro e w10 ⟨v10, rfl, own10, b10⟩
        go_wp2_with fail
        refine hK.out _ _ trivial (fun hHeld => ?_)
        clear hK K
        (try simp only [Act.put, List.setIfInBounds_toArray, List.set_cons_zero, List.set_cons_succ])
        have cv10 : (convert 40 9 v10).run Try.prog w10 = .ok (.string SS) w10 := by rw [ESS.out]; exact str_own own10.out
        refine upon_mono (S' := fun w' => (convert 40 9 v10).run Try.prog w' = .ok (.string SS) w') (fun _ h => trivial) _ _ _ _ ?_
        have hHeld2 := cv10
        refine wpAnyH_take (i := 24) (oi := { dst := some 70, op := Go.Op.convert 40 9 (Go.Operand.tmp 69), type := 9, pos := _, after := #[{ on := 23, ground := Go.Ground.data }, { on := 21, ground := Go.Ground.guard }], guard := some (21, false) }) (v := ?vb24) rfl (by kernel_rfl) (by kernel_rfl) (by kernel_rfl) (fun _ _ _ h => h) (Or.inl ⟨by rfl, ?hyb24⟩) hHeld2 ?_
        case hyb24 => (intro wz hSw; (try dsimp only at hSw); have hcv := hSw; go_simp; try with_reducible rfl)
        (try simp only [Act.put, List.setIfInBounds_toArray, List.set_cons_zero, List.set_cons_succ])
        refine wpAnyH_ready (rs := [26]) (by kernel_rfl) (by simp) ?_
        refine AllReadyH.cons (o := { dst := some 72, op := Go.Op.call { callee := Go.Callee.value (Go.Operand.func 31), args := #[Go.Operand.tmp 71], argTypes := #[44] }, type := 40, pos := _, after := #[{ on := 25, ground := Go.Ground.data }, { on := 23, ground := Go.Ground.chain }, { on := 21, ground := Go.Ground.guard }], guard := some (21, false) }) rfl (fun K hK => ?_) AllReadyH.nil
        rw [if_pos (by rfl)]
        go_simp
        refine (PR.out _ b10.out).mono ?_; rintro e w11 ⟨v11, rfl, own11, b11⟩
        have cv11 : (convert 40 9 v11).run Try.prog w11 = .ok (.string SS) w11 := by rw [ESS.out]; exact str_own own11.out
        have cv10b : (convert 40 9 v10).run Try.prog w11 = .ok (.string SS) w11 := by rw [ESS.out]; exact str_own (own_below own10.out b11.out)
        have bb11 := bt b10.out b11.out
        go_wp2_with fail
        refine hK.out _ _ cv10b (fun hHeld3 => ?_)
        clear hK K
        (try simp only [Act.put, List.setIfInBounds_toArray, List.set_cons_zero, List.set_cons_succ])
        refine wpAnyH_ready (rs := [27]) (by kernel_rfl) (by simp) ?_
        refine AllReadyH.cons (o := { dst := some 73, op := Go.Op.convert 40 9 (Go.Operand.tmp 72), type := 9, pos := _, after := #[{ on := 26, ground := Go.Ground.data }, { on := 21, ground := Go.Ground.guard }], guard := some (21, false) }) rfl (fun K hK => ?_) AllReadyH.nil
        rw [if_pos (by rfl)]
        go_simp
        refine hK.out _ _ hHeld3 (fun hHeld4 => ?_)
        clear hK K
        (try simp only [Act.put, List.setIfInBounds_toArray, List.set_cons_zero, List.set_cons_succ])
        refine wpAnyH_take (i := 28) (oi := { dst := some 74, op := Go.Op.binOp Go.BinOp.neq 9 (Go.Operand.tmp 70) (Go.Operand.tmp 73) 9, type := 4, pos := _, after := #[{ on := 24, ground := Go.Ground.data }, { on := 27, ground := Go.Ground.data }, { on := 21, ground := Go.Ground.guard }], guard := some (21, false) }) (v := ?vb28) rfl (by kernel_rfl) (by kernel_rfl) (by kernel_rfl) (fun _ _ _ h => h) (Or.inl ⟨by rfl, ?hyb28⟩) (by assumption) ?_
        case hyb28 => (intro wz hSw; (try dsimp only at hSw); go_simp; try with_reducible rfl)
        (try simp only [Act.put, List.setIfInBounds_toArray, List.set_cons_zero, List.set_cons_succ])
        refine wpAnyH_take (i := 29) (oi := { dst := some 75, op := Go.Op.pick (Go.Operand.tmp 67) (Go.Operand.const (Go.Value.bool true)) (Go.Operand.tmp 74), type := 4, pos := _, after := #[{ on := 21, ground := Go.Ground.data }, { on := 28, ground := Go.Ground.data }, { on := 18, ground := Go.Ground.guard }], guard := some (18, true) }) (v := ?vb29) rfl (by kernel_rfl) (by kernel_rfl) (by kernel_rfl) (fun _ _ _ h => h) (Or.inl ⟨by rfl, ?hyb29⟩) (by assumption) ?_
        case hyb29 => (intro wz hSw; (try dsimp only at hSw); go_simp; try with_reducible rfl)
        (try simp only [Act.put, List.setIfInBounds_toArray, List.set_cons_zero, List.set_cons_succ])
        refine wpAnyH_take (i := 30) (oi := { dst := some 76, op := Go.Op.pick (Go.Operand.tmp 64) (Go.Operand.tmp 75) (Go.Operand.const (Go.Value.bool false)), type := 4, pos := _, after := #[{ on := 18, ground := Go.Ground.data }, { on := 29, ground := Go.Ground.data }, { on := 16, ground := Go.Ground.guard }], guard := some (16, false) }) (v := ?vb30) rfl (by kernel_rfl) (by kernel_rfl) (by kernel_rfl) (fun _ _ _ h => h) (Or.inl ⟨by rfl, ?hyb30⟩) (by assumption) ?_
        case hyb30 => (intro wz hSw; (try dsimp only at hSw); go_simp; try with_reducible rfl)
        (try simp only [Act.put, List.setIfInBounds_toArray, List.set_cons_zero, List.set_cons_succ])
        refine wpAnyH_take (i := 31) (oi := { dst := some 77, op := Go.Op.pick (Go.Operand.tmp 62) (Go.Operand.const (Go.Value.bool true)) (Go.Operand.tmp 76), type := 4, pos := _, after := #[{ on := 16, ground := Go.Ground.data }, { on := 30, ground := Go.Ground.data }], guard := none }) (v := ?vb31) rfl (by kernel_rfl) (by kernel_rfl) (by kernel_rfl) (fun _ _ _ h => h) (Or.inl ⟨by rfl, ?hyb31⟩) (by assumption) ?_
        case hyb31 => (intro wz hSw; (try dsimp only at hSw); go_simp; try with_reducible rfl)
        (try simp only [Act.put, List.setIfInBounds_toArray, List.set_cons_zero, List.set_cons_succ])
        refine wpAnyH_done (by kernel_rfl) ?_ _
        exact ⟨_, _, _, _, _, _, _, _, _, _, _, _, _, _, _, _, _, _, _, _, _, _, _, _, _, _, _, _, _, _, _, _, _, _, _, _, _, _, _, _, _, _, _, _, _, _, _, _, _, _, _, _, _, _, _, _, _, _, _, _, _, rfl, bt B3.out (bt (bdr _) bb11)⟩
end Go.Proofs.Ytknpgmbniohcnaa
