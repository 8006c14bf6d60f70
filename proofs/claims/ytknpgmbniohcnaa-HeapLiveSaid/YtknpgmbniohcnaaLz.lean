import Derived.Test.YtknpgmbniohcnaaLq
namespace Go.Proofs.Ytknpgmbniohcnaa
open Go.ChangeShapes Go.WideShapes Go.ChangeAt Go.RowKit Go.WideMaps
set_option linter.unusedVariables false
set_option linter.unusedSimpArgs false
set_option maxRecDepth 100000 in
set_option maxHeartbeats 32000000 in
theorem live_walk {w : World} {A1 : Option Addr} {n1 c1 : Nat} {acts : List AcR} (ha : AcsIn w A1 n1 acts) {A : Option Addr} {n c : Nat} {xs : List Int} (hu : InU w A n c xs) :
    Calls Try.prog 6 #[.slice A1 n1 c1, .slice A n c] w fun e w' => e = .returned (.bool true) ∧ Below w.heap.size w w' := by
  have AW := Lib.hid (fun W => awake_any W)
  have HA := Lib.hid ha
  have HU := Lib.hid hu
  clear ha hu
  obtain ⟨i0, hi0, hz0, hz1, hz2⟩ := info_parts info28
  by_cases h1 : 30 < n1
  · have d1 : decide (30 < (n1 : Int)) = true := decide_eq_true (by omega)
    clear i0 hi0 hz0 hz1 hz2
    go_enter Try.func6, Try.ntmps6
    go_wp2_with fail
    refine (AW.out _).mono ?_; rintro e w1 ⟨rfl, hb1⟩
    go_wp2
    go_ret
    exact ⟨rfl, hb1⟩
  have d1 : decide (30 < (n1 : Int)) = false := decide_eq_false (by omega)
  by_cases h2 : 10 < n
  · have d2 : decide (10 < (n : Int)) = true := decide_eq_true (by omega)
    clear i0 hi0 hz0 hz1 hz2
    go_enter Try.func6, Try.ntmps6
    go_wp2_with fail
    refine (AW.out _).mono ?_; rintro e w1 ⟨rfl, hb1⟩
    go_wp2
    go_ret
    exact ⟨rfl, hb1⟩
  have d2 : decide (10 < (n : Int)) = false := decide_eq_false (by omega)
  have NW := Lib.hid (fun W => new_ok W 2000 (by decide) (by decide))
  have hn10 : n ≤ 10 := by omega
  have hn30 : n1 ≤ 30 := by omega
  clear h1 h2
  have HII := Lib.hid (And.intro hi0 (And.intro hz0 (And.intro hz1 hz2)))
  clear hi0 hz0 hz1 hz2
  go_enter Try.func6, Try.ntmps6
  go_wp2_with fail
  refine (AW.out _).mono ?_; rintro e w1 ⟨rfl, hb1⟩
  have B1 := Lib.hid hb1
  clear hb1 AW
  go_wp2_with fail
  refine (NW.out _).mono ?_; rintro e w2 ⟨rfl, -, b2, z2⟩
  clear NW
  have ST : Hid (LvI w w2 w1.heap.size w2.heap.size (emp 2000)) := Lib.hid ⟨full_emp (by decide) (by decide), rfl, by decide, z2.out.2 w2 _ (Below.refl _ _) (Nat.le_refl _), bt B1.out b2.out, B1.out.size, (bt B1.out b2.out).size⟩
  obtain ⟨H, hH⟩ : ∃ H, H = w1.heap.size := ⟨_, rfl⟩
  obtain ⟨B, hB⟩ : ∃ B, B = w2.heap.size := ⟨_, rfl⟩
  rw [← hH, ← hB] at ST
  rw [← hH]
  clear hH hB z2 b2 B1
  go_wp2
  go_loopw [7] (fun i wr => ∃ (k : Nat) (m : Hm), i = .int .i64 k ∧ k ≤ n1 ∧ Hid (LvI w wr H B m)) (fun i _ => n1 - (intOf i).toNat)
  case atStart => exact ⟨0, _, rfl, by omega, ST⟩
  case round =>
    obtain ⟨k, m, rfl, hk, HI⟩ := hrel
    clear ST
    by_cases hkn : k < n1
    · have hkx : k < acts.length := by have := HA.out.1; omega
      have hkni : (k : Int) < (n1 : Int) := by omega
      obtain ⟨b, off, rfl, hb, hc⟩ := HA.out.2 (by omega)
      have hac := (hc k hkx).below hb HI.out.bel
      obtain ⟨r', hr⟩ : ∃ r, r = acts[k] := ⟨_, rfl⟩
      rw [← hr] at hac
      obtain ⟨A', n', c', e6, hu⟩ := hac.c6
      have CC : Hid (∀ W, Below w.heap.size w W → W.cell? ⟨b, off + k * 7 + 1, none⟩ = some (.int .i64 r'.kind) ∧ W.cell? ⟨b, off + k * 7 + 2, none⟩ = some (.int .i64 r'.tag) ∧ W.cell? ⟨b, off + k * 7 + 6, none⟩ = some (.slice A' n' c')) := Lib.hid (fun W hW => by
        have h0 := hc k hkx
        rw [← hr] at h0
        obtain ⟨A2, n2, c2, f6, _⟩ := h0.c6
        have e7 := (HI.out.bel.cell (p := ⟨b, off + k * 7 + 6, none⟩) hb).trans f6
        rw [e6] at e7
        exact ⟨(hW.cell (p := ⟨b, _, none⟩) hb).trans h0.c1, (hW.cell (p := ⟨b, _, none⟩) hb).trans h0.c2, ((hW.cell (p := ⟨b, _, none⟩) hb).trans f6).trans e7.symm⟩)
      have C2 : Hid (∀ W, Below w.heap.size w W → W.cell? ⟨b, off + k * 7 + 4, none⟩ = some (.int .u64 r'.p) ∧ W.cell? ⟨b, off + k * 7 + 3, none⟩ = some (.int .i64 r'.i) ∧ W.cell? ⟨b, off + k * 7 + 5, none⟩ = some (.int .u64 r'.x)) := Lib.hid (fun W hW => by
        have h0 := hc k hkx
        rw [← hr] at h0
        exact ⟨(hW.cell (p := ⟨b, _, none⟩) hb).trans h0.c4, (hW.cell (p := ⟨b, _, none⟩) hb).trans h0.c3, (hW.cell (p := ⟨b, _, none⟩) hb).trans h0.c5⟩)
      have c0' := hac.c0
      have c1' := hac.c1
      have c2' := hac.c2
      have c3' := hac.c3
      have c4' := hac.c4
      have c5' := hac.c5
      have RG := Lib.hid hac.rg
      have HXS := Lib.hid hu.2.2.1
      have HUD := Lib.hid (hu.below (bdr wr))
      clear hc hr hac
      by_cases h10 : 10 < n'
      · have dd : decide (10 < (n' : Int)) = true := decide_eq_true (by omega)
        clear hu
        go_wp2
        go_ret
        exact ⟨by rfl, HI.out.bel⟩
      have dd : decide (10 < (n' : Int)) = false := decide_eq_false (by omega)
      clear hu
      have BD : Hid (Below w.heap.size w wr.drew) := Lib.hid (HI.out.bel.trans (bdr wr |>.mono HI.out.bel.size))
      have HPD := Lib.hid (HI.out.hp.below (bdr wr))
      have HID : Hid (LvI w wr.drew H B m) := Lib.hid ⟨HI.out.full, HI.out.room, HI.out.le, HPD.out, BD.out, HI.out.ge⟩
      obtain ⟨op, hop⟩ : ∃ z, z = r'.op := ⟨_, rfl⟩
      rw [← hop] at c0'
      by_cases h1 : op = 1
      · have d0 : decide (op = 1) = true := decide_eq_true h1
        have d00 : (op == 1) = true := by rw [h1]; rfl
        have SE := Lib.hid (set_any HPD.out r'.p r'.i r'.x RG.out.2.2.2.2.1 RG.out.2.2.2.2.2 RG.out.2.2.2.1.1 RG.out.2.2.2.1.2)
        subst h1
        go_wp2_with fail
        refine wp_region_held_drew (S := fun w' => w'.cell? ⟨b, off + k * 7 + 4, none⟩ = some (.int .u64 r'.p) ∧ w'.cell? ⟨b, off + k * 7 + 3, none⟩ = some (.int .i64 r'.i) ∧ w'.cell? ⟨b, off + k * 7 + 5, none⟩ = some (.int .u64 r'.x)) (by kernel_rfl) ?_ (fun hHeld => ?_)
        · (try dsimp only); go_keep
        refine wpAnyH_take (i := 0) (oi := { dst := some 65, op := Go.Op.move (Go.Operand.tmp 5), type := 23, pos := _, after := #[], guard := none }) (v := ?vs0) rfl (by kernel_rfl) (by kernel_rfl) (by kernel_rfl) (fun _ _ _ h => h) (Or.inl ⟨by rfl, ?hys0⟩) (by assumption) ?_
        case hys0 => (intro wz hSw; (try dsimp only at hSw); go_simp; try with_reducible rfl)
        (try simp only [Act.put, List.setIfInBounds_toArray, List.set_cons_zero, List.set_cons_succ])
        refine wpAnyH_take (i := 1) (oi := { dst := some 66, op := Go.Op.move (Go.Operand.tmp 0), type := 43, pos := _, after := #[], guard := none }) (v := ?vs1) rfl (by kernel_rfl) (by kernel_rfl) (by kernel_rfl) (fun _ _ _ h => h) (Or.inl ⟨by rfl, ?hys1⟩) (by assumption) ?_
        case hys1 => (intro wz hSw; (try dsimp only at hSw); go_simp; try with_reducible rfl)
        (try simp only [Act.put, List.setIfInBounds_toArray, List.set_cons_zero, List.set_cons_succ])
        refine wpAnyH_take (i := 2) (oi := { dst := some 67, op := Go.Op.move (Go.Operand.tmp 7), type := 3, pos := _, after := #[], guard := none }) (v := ?vs2) rfl (by kernel_rfl) (by kernel_rfl) (by kernel_rfl) (fun _ _ _ h => h) (Or.inl ⟨by rfl, ?hys2⟩) (by assumption) ?_
        case hys2 => (intro wz hSw; (try dsimp only at hSw); go_simp; try with_reducible rfl)
        (try simp only [Act.put, List.setIfInBounds_toArray, List.set_cons_zero, List.set_cons_succ])
        refine wpAnyH_take (i := 3) (oi := { dst := some 68, op := Go.Op.indexAddr 43 (Go.Operand.tmp 66) (Go.Operand.tmp 67), type := 0, pos := _, after := #[{ on := 1, ground := Go.Ground.data }, { on := 2, ground := Go.Ground.data }], guard := none }) (v := ?vs3) rfl (by kernel_rfl) (by kernel_rfl) (by kernel_rfl) (fun _ _ _ h => h) (Or.inl ⟨by rfl, ?hys3⟩) (by assumption) ?_
        case hys3 => (intro wz hSw; (try dsimp only at hSw); go_simp; try with_reducible rfl)
        (try simp only [Act.put, List.setIfInBounds_toArray, List.set_cons_zero, List.set_cons_succ])
        refine wpAnyH_take (i := 4) (oi := { dst := some 69, op := Go.Op.fieldAddr 49 (Go.Operand.tmp 68) 4, type := 0, pos := _, after := #[{ on := 3, ground := Go.Ground.data }], guard := none }) (v := ?vs4) rfl (by kernel_rfl) (by kernel_rfl) (by kernel_rfl) (fun _ _ _ h => h) (Or.inl ⟨by rfl, ?hys4⟩) (by assumption) ?_
        case hys4 => (intro wz hSw; (try dsimp only at hSw); go_simp; try with_reducible rfl)
        (try simp only [Act.put, List.setIfInBounds_toArray, List.set_cons_zero, List.set_cons_succ])
        refine wpAnyH_take (i := 5) (oi := { dst := some 70, op := Go.Op.load 27 (Go.Operand.tmp 69), type := 27, pos := _, after := #[{ on := 4, ground := Go.Ground.data }], guard := none }) (v := ?vs5) rfl (by kernel_rfl) (by kernel_rfl) (by kernel_rfl) (fun _ _ _ h => h) (Or.inl ⟨by rfl, ?hys5⟩) (by assumption) ?_
        case hys5 => (intro wz hSw; (try dsimp only at hSw); go_simp; try with_reducible rfl)
        (try simp only [Act.put, List.setIfInBounds_toArray, List.set_cons_zero, List.set_cons_succ])
        refine wpAnyH_take (i := 6) (oi := { dst := some 71, op := Go.Op.move (Go.Operand.tmp 0), type := 43, pos := _, after := #[], guard := none }) (v := ?vs6) rfl (by kernel_rfl) (by kernel_rfl) (by kernel_rfl) (fun _ _ _ h => h) (Or.inl ⟨by rfl, ?hys6⟩) (by assumption) ?_
        case hys6 => (intro wz hSw; (try dsimp only at hSw); go_simp; try with_reducible rfl)
        (try simp only [Act.put, List.setIfInBounds_toArray, List.set_cons_zero, List.set_cons_succ])
        refine wpAnyH_take (i := 7) (oi := { dst := some 72, op := Go.Op.move (Go.Operand.tmp 7), type := 3, pos := _, after := #[], guard := none }) (v := ?vs7) rfl (by kernel_rfl) (by kernel_rfl) (by kernel_rfl) (fun _ _ _ h => h) (Or.inl ⟨by rfl, ?hys7⟩) (by assumption) ?_
        case hys7 => (intro wz hSw; (try dsimp only at hSw); go_simp; try with_reducible rfl)
        (try simp only [Act.put, List.setIfInBounds_toArray, List.set_cons_zero, List.set_cons_succ])
        refine wpAnyH_take (i := 8) (oi := { dst := some 73, op := Go.Op.indexAddr 43 (Go.Operand.tmp 71) (Go.Operand.tmp 72), type := 0, pos := _, after := #[{ on := 6, ground := Go.Ground.data }, { on := 7, ground := Go.Ground.data }], guard := none }) (v := ?vs8) rfl (by kernel_rfl) (by kernel_rfl) (by kernel_rfl) (fun _ _ _ h => h) (Or.inl ⟨by rfl, ?hys8⟩) (by assumption) ?_
        case hys8 => (intro wz hSw; (try dsimp only at hSw); go_simp; try with_reducible rfl)
        (try simp only [Act.put, List.setIfInBounds_toArray, List.set_cons_zero, List.set_cons_succ])
        refine wpAnyH_take (i := 9) (oi := { dst := some 74, op := Go.Op.fieldAddr 49 (Go.Operand.tmp 73) 3, type := 0, pos := _, after := #[{ on := 8, ground := Go.Ground.data }], guard := none }) (v := ?vs9) rfl (by kernel_rfl) (by kernel_rfl) (by kernel_rfl) (fun _ _ _ h => h) (Or.inl ⟨by rfl, ?hys9⟩) (by assumption) ?_
        case hys9 => (intro wz hSw; (try dsimp only at hSw); go_simp; try with_reducible rfl)
        (try simp only [Act.put, List.setIfInBounds_toArray, List.set_cons_zero, List.set_cons_succ])
        refine wpAnyH_take (i := 10) (oi := { dst := some 75, op := Go.Op.load 3 (Go.Operand.tmp 74), type := 3, pos := _, after := #[{ on := 9, ground := Go.Ground.data }], guard := none }) (v := ?vs10) rfl (by kernel_rfl) (by kernel_rfl) (by kernel_rfl) (fun _ _ _ h => h) (Or.inl ⟨by rfl, ?hys10⟩) (by assumption) ?_
        case hys10 => (intro wz hSw; (try dsimp only at hSw); go_simp; try with_reducible rfl)
        (try simp only [Act.put, List.setIfInBounds_toArray, List.set_cons_zero, List.set_cons_succ])
        refine wpAnyH_take (i := 11) (oi := { dst := some 76, op := Go.Op.move (Go.Operand.tmp 0), type := 43, pos := _, after := #[], guard := none }) (v := ?vs11) rfl (by kernel_rfl) (by kernel_rfl) (by kernel_rfl) (fun _ _ _ h => h) (Or.inl ⟨by rfl, ?hys11⟩) (by assumption) ?_
        case hys11 => (intro wz hSw; (try dsimp only at hSw); go_simp; try with_reducible rfl)
        (try simp only [Act.put, List.setIfInBounds_toArray, List.set_cons_zero, List.set_cons_succ])
        refine wpAnyH_take (i := 12) (oi := { dst := some 77, op := Go.Op.move (Go.Operand.tmp 7), type := 3, pos := _, after := #[], guard := none }) (v := ?vs12) rfl (by kernel_rfl) (by kernel_rfl) (by kernel_rfl) (fun _ _ _ h => h) (Or.inl ⟨by rfl, ?hys12⟩) (by assumption) ?_
        case hys12 => (intro wz hSw; (try dsimp only at hSw); go_simp; try with_reducible rfl)
        (try simp only [Act.put, List.setIfInBounds_toArray, List.set_cons_zero, List.set_cons_succ])
        refine wpAnyH_take (i := 13) (oi := { dst := some 78, op := Go.Op.indexAddr 43 (Go.Operand.tmp 76) (Go.Operand.tmp 77), type := 0, pos := _, after := #[{ on := 11, ground := Go.Ground.data }, { on := 12, ground := Go.Ground.data }], guard := none }) (v := ?vs13) rfl (by kernel_rfl) (by kernel_rfl) (by kernel_rfl) (fun _ _ _ h => h) (Or.inl ⟨by rfl, ?hys13⟩) (by assumption) ?_
        case hys13 => (intro wz hSw; (try dsimp only at hSw); go_simp; try with_reducible rfl)
        (try simp only [Act.put, List.setIfInBounds_toArray, List.set_cons_zero, List.set_cons_succ])
        refine wpAnyH_take (i := 14) (oi := { dst := some 79, op := Go.Op.fieldAddr 49 (Go.Operand.tmp 78) 5, type := 0, pos := _, after := #[{ on := 13, ground := Go.Ground.data }], guard := none }) (v := ?vs14) rfl (by kernel_rfl) (by kernel_rfl) (by kernel_rfl) (fun _ _ _ h => h) (Or.inl ⟨by rfl, ?hys14⟩) (by assumption) ?_
        case hys14 => (intro wz hSw; (try dsimp only at hSw); go_simp; try with_reducible rfl)
        (try simp only [Act.put, List.setIfInBounds_toArray, List.set_cons_zero, List.set_cons_succ])
        refine wpAnyH_take (i := 15) (oi := { dst := some 80, op := Go.Op.load 27 (Go.Operand.tmp 79), type := 27, pos := _, after := #[{ on := 14, ground := Go.Ground.data }], guard := none }) (v := ?vs15) rfl (by kernel_rfl) (by kernel_rfl) (by kernel_rfl) (fun _ _ _ h => h) (Or.inl ⟨by rfl, ?hys15⟩) (by assumption) ?_
        case hys15 => (intro wz hSw; (try dsimp only at hSw); go_simp; try with_reducible rfl)
        (try simp only [Act.put, List.setIfInBounds_toArray, List.set_cons_zero, List.set_cons_succ])
        refine wpAnyH_ready (rs := [16]) (by kernel_rfl) (by simp) ?_
        refine AllReadyH.cons (o := { dst := some 81, op := Go.Op.call { callee := Go.Callee.value (Go.Operand.func 14), args := #[Go.Operand.tmp 65, Go.Operand.tmp 70, Go.Operand.tmp 75, Go.Operand.tmp 80], argTypes := #[23, 28, 3, 28] }, type := 24, pos := _, after := #[{ on := 0, ground := Go.Ground.data }, { on := 5, ground := Go.Ground.data }, { on := 10, ground := Go.Ground.data }, { on := 15, ground := Go.Ground.data }], guard := none }) rfl (fun K hK => ?_) AllReadyH.nil
        go_simp
        refine SE.out.mono ?_; rintro e w3 ⟨rfl, hp3, hf3⟩
        have HO3 := Lib.hid (HID.out.set RG.out.2.2.2.2.1 RG.out.2.2.2.2.2 hp3.out hf3.out)
        have cc := C2.out w3 HO3.out.bel
        obtain ⟨cc1', cc2', cc6'⟩ := cc
        go_wp2_with fail
        refine hK.out _ _ ?_ (fun hHeld => ?_)
        · (try dsimp only); go_keep
        clear hK K
        (try simp only [Act.put, List.setIfInBounds_toArray, List.set_cons_zero, List.set_cons_succ])
        refine wpAnyH_done (by kernel_rfl) ?_ _
        clear hHeld
        go_wp2
        go_roundw
        case rel => exact ⟨k + 1, _, by go_num, by omega, HO3⟩
        case measure => simp [intOf]; omega
      · have d0 : decide (op = 1) = false := decide_eq_false h1
        have d00 : (op == 1) = false := beq_eq_false_iff_ne.2 h1
        have BK := Lib.hid (back_any HUD.out (by omega))
        go_wp2_with fail
        refine wp_region_held_drew (S := fun w' => w'.cell? ⟨b, off + k * 7 + 1, none⟩ = some (.int .i64 r'.kind) ∧ w'.cell? ⟨b, off + k * 7 + 2, none⟩ = some (.int .i64 r'.tag) ∧ w'.cell? ⟨b, off + k * 7 + 6, none⟩ = some (.slice A' n' c')) (by kernel_rfl) ?_ (fun hHeld => ?_)
        · (try dsimp only); go_keep
        refine wpAnyH_take (i := 0) (oi := { dst := some 82, op := Go.Op.move (Go.Operand.tmp 5), type := 23, pos := _, after := #[], guard := none }) (v := ?vz0) rfl (by kernel_rfl) (by kernel_rfl) (by kernel_rfl) (fun _ _ _ h => h) (Or.inl ⟨by rfl, ?hyz0⟩) (by assumption) ?_
        case hyz0 => (intro wz hSw; (try dsimp only at hSw); go_simp; try with_reducible rfl)
        (try simp only [Act.put, List.setIfInBounds_toArray, List.set_cons_zero, List.set_cons_succ])
        refine wpAnyH_take (i := 1) (oi := { dst := some 83, op := Go.Op.move (Go.Operand.tmp 0), type := 43, pos := _, after := #[], guard := none }) (v := ?vz1) rfl (by kernel_rfl) (by kernel_rfl) (by kernel_rfl) (fun _ _ _ h => h) (Or.inl ⟨by rfl, ?hyz1⟩) (by assumption) ?_
        case hyz1 => (intro wz hSw; (try dsimp only at hSw); go_simp; try with_reducible rfl)
        (try simp only [Act.put, List.setIfInBounds_toArray, List.set_cons_zero, List.set_cons_succ])
        refine wpAnyH_take (i := 2) (oi := { dst := some 84, op := Go.Op.move (Go.Operand.tmp 7), type := 3, pos := _, after := #[], guard := none }) (v := ?vz2) rfl (by kernel_rfl) (by kernel_rfl) (by kernel_rfl) (fun _ _ _ h => h) (Or.inl ⟨by rfl, ?hyz2⟩) (by assumption) ?_
        case hyz2 => (intro wz hSw; (try dsimp only at hSw); go_simp; try with_reducible rfl)
        (try simp only [Act.put, List.setIfInBounds_toArray, List.set_cons_zero, List.set_cons_succ])
        refine wpAnyH_take (i := 3) (oi := { dst := some 85, op := Go.Op.indexAddr 43 (Go.Operand.tmp 83) (Go.Operand.tmp 84), type := 0, pos := _, after := #[{ on := 1, ground := Go.Ground.data }, { on := 2, ground := Go.Ground.data }], guard := none }) (v := ?vz3) rfl (by kernel_rfl) (by kernel_rfl) (by kernel_rfl) (fun _ _ _ h => h) (Or.inl ⟨by rfl, ?hyz3⟩) (by assumption) ?_
        case hyz3 => (intro wz hSw; (try dsimp only at hSw); go_simp; try with_reducible rfl)
        (try simp only [Act.put, List.setIfInBounds_toArray, List.set_cons_zero, List.set_cons_succ])
        refine wpAnyH_take (i := 4) (oi := { dst := some 86, op := Go.Op.fieldAddr 49 (Go.Operand.tmp 85) 1, type := 0, pos := _, after := #[{ on := 3, ground := Go.Ground.data }], guard := none }) (v := ?vz4) rfl (by kernel_rfl) (by kernel_rfl) (by kernel_rfl) (fun _ _ _ h => h) (Or.inl ⟨by rfl, ?hyz4⟩) (by assumption) ?_
        case hyz4 => (intro wz hSw; (try dsimp only at hSw); go_simp; try with_reducible rfl)
        (try simp only [Act.put, List.setIfInBounds_toArray, List.set_cons_zero, List.set_cons_succ])
        refine wpAnyH_take (i := 5) (oi := { dst := some 87, op := Go.Op.load 3 (Go.Operand.tmp 86), type := 3, pos := _, after := #[{ on := 4, ground := Go.Ground.data }], guard := none }) (v := ?vz5) rfl (by kernel_rfl) (by kernel_rfl) (by kernel_rfl) (fun _ _ _ h => h) (Or.inl ⟨by rfl, ?hyz5⟩) (by assumption) ?_
        case hyz5 => (intro wz hSw; (try dsimp only at hSw); go_simp; try with_reducible rfl)
        (try simp only [Act.put, List.setIfInBounds_toArray, List.set_cons_zero, List.set_cons_succ])
        refine wpAnyH_take (i := 6) (oi := { dst := some 88, op := Go.Op.move (Go.Operand.tmp 0), type := 43, pos := _, after := #[], guard := none }) (v := ?vz6) rfl (by kernel_rfl) (by kernel_rfl) (by kernel_rfl) (fun _ _ _ h => h) (Or.inl ⟨by rfl, ?hyz6⟩) (by assumption) ?_
        case hyz6 => (intro wz hSw; (try dsimp only at hSw); go_simp; try with_reducible rfl)
        (try simp only [Act.put, List.setIfInBounds_toArray, List.set_cons_zero, List.set_cons_succ])
        refine wpAnyH_take (i := 7) (oi := { dst := some 89, op := Go.Op.move (Go.Operand.tmp 7), type := 3, pos := _, after := #[], guard := none }) (v := ?vz7) rfl (by kernel_rfl) (by kernel_rfl) (by kernel_rfl) (fun _ _ _ h => h) (Or.inl ⟨by rfl, ?hyz7⟩) (by assumption) ?_
        case hyz7 => (intro wz hSw; (try dsimp only at hSw); go_simp; try with_reducible rfl)
        (try simp only [Act.put, List.setIfInBounds_toArray, List.set_cons_zero, List.set_cons_succ])
        refine wpAnyH_take (i := 8) (oi := { dst := some 90, op := Go.Op.indexAddr 43 (Go.Operand.tmp 88) (Go.Operand.tmp 89), type := 0, pos := _, after := #[{ on := 6, ground := Go.Ground.data }, { on := 7, ground := Go.Ground.data }], guard := none }) (v := ?vz8) rfl (by kernel_rfl) (by kernel_rfl) (by kernel_rfl) (fun _ _ _ h => h) (Or.inl ⟨by rfl, ?hyz8⟩) (by assumption) ?_
        case hyz8 => (intro wz hSw; (try dsimp only at hSw); go_simp; try with_reducible rfl)
        (try simp only [Act.put, List.setIfInBounds_toArray, List.set_cons_zero, List.set_cons_succ])
        refine wpAnyH_take (i := 9) (oi := { dst := some 91, op := Go.Op.fieldAddr 49 (Go.Operand.tmp 90) 2, type := 0, pos := _, after := #[{ on := 8, ground := Go.Ground.data }], guard := none }) (v := ?vz9) rfl (by kernel_rfl) (by kernel_rfl) (by kernel_rfl) (fun _ _ _ h => h) (Or.inl ⟨by rfl, ?hyz9⟩) (by assumption) ?_
        case hyz9 => (intro wz hSw; (try dsimp only at hSw); go_simp; try with_reducible rfl)
        (try simp only [Act.put, List.setIfInBounds_toArray, List.set_cons_zero, List.set_cons_succ])
        refine wpAnyH_take (i := 10) (oi := { dst := some 92, op := Go.Op.load 3 (Go.Operand.tmp 91), type := 3, pos := _, after := #[{ on := 9, ground := Go.Ground.data }], guard := none }) (v := ?vz10) rfl (by kernel_rfl) (by kernel_rfl) (by kernel_rfl) (fun _ _ _ h => h) (Or.inl ⟨by rfl, ?hyz10⟩) (by assumption) ?_
        case hyz10 => (intro wz hSw; (try dsimp only at hSw); go_simp; try with_reducible rfl)
        (try simp only [Act.put, List.setIfInBounds_toArray, List.set_cons_zero, List.set_cons_succ])
        refine wpAnyH_take (i := 11) (oi := { dst := some 93, op := Go.Op.move (Go.Operand.tmp 0), type := 43, pos := _, after := #[], guard := none }) (v := ?vz11) rfl (by kernel_rfl) (by kernel_rfl) (by kernel_rfl) (fun _ _ _ h => h) (Or.inl ⟨by rfl, ?hyz11⟩) (by assumption) ?_
        case hyz11 => (intro wz hSw; (try dsimp only at hSw); go_simp; try with_reducible rfl)
        (try simp only [Act.put, List.setIfInBounds_toArray, List.set_cons_zero, List.set_cons_succ])
        refine wpAnyH_take (i := 12) (oi := { dst := some 94, op := Go.Op.move (Go.Operand.tmp 7), type := 3, pos := _, after := #[], guard := none }) (v := ?vz12) rfl (by kernel_rfl) (by kernel_rfl) (by kernel_rfl) (fun _ _ _ h => h) (Or.inl ⟨by rfl, ?hyz12⟩) (by assumption) ?_
        case hyz12 => (intro wz hSw; (try dsimp only at hSw); go_simp; try with_reducible rfl)
        (try simp only [Act.put, List.setIfInBounds_toArray, List.set_cons_zero, List.set_cons_succ])
        refine wpAnyH_take (i := 13) (oi := { dst := some 95, op := Go.Op.indexAddr 43 (Go.Operand.tmp 93) (Go.Operand.tmp 94), type := 0, pos := _, after := #[{ on := 11, ground := Go.Ground.data }, { on := 12, ground := Go.Ground.data }], guard := none }) (v := ?vz13) rfl (by kernel_rfl) (by kernel_rfl) (by kernel_rfl) (fun _ _ _ h => h) (Or.inl ⟨by rfl, ?hyz13⟩) (by assumption) ?_
        case hyz13 => (intro wz hSw; (try dsimp only at hSw); go_simp; try with_reducible rfl)
        (try simp only [Act.put, List.setIfInBounds_toArray, List.set_cons_zero, List.set_cons_succ])
        refine wpAnyH_take (i := 14) (oi := { dst := some 96, op := Go.Op.fieldAddr 49 (Go.Operand.tmp 95) 6, type := 0, pos := _, after := #[{ on := 13, ground := Go.Ground.data }], guard := none }) (v := ?vz14) rfl (by kernel_rfl) (by kernel_rfl) (by kernel_rfl) (fun _ _ _ h => h) (Or.inl ⟨by rfl, ?hyz14⟩) (by assumption) ?_
        case hyz14 => (intro wz hSw; (try dsimp only at hSw); go_simp; try with_reducible rfl)
        (try simp only [Act.put, List.setIfInBounds_toArray, List.set_cons_zero, List.set_cons_succ])
        refine wpAnyH_take (i := 15) (oi := { dst := some 97, op := Go.Op.load 45 (Go.Operand.tmp 96), type := 45, pos := _, after := #[{ on := 14, ground := Go.Ground.data }], guard := none }) (v := ?vz15) rfl (by kernel_rfl) (by kernel_rfl) (by kernel_rfl) (fun _ _ _ h => h) (Or.inl ⟨by rfl, ?hyz15⟩) (by assumption) ?_
        case hyz15 => (intro wz hSw; (try dsimp only at hSw); go_simp; try with_reducible rfl)
        (try simp only [Act.put, List.setIfInBounds_toArray, List.set_cons_zero, List.set_cons_succ])
        refine wpAnyH_ready (rs := [16]) (by kernel_rfl) (by simp) ?_
        refine AllReadyH.cons (o := { dst := some 98, op := Go.Op.call { callee := Go.Callee.value (Go.Operand.func 21), args := #[Go.Operand.tmp 97], argTypes := #[45] }, type := 34, pos := _, after := #[{ on := 15, ground := Go.Ground.data }], guard := none }) rfl (fun K hK => ?_) AllReadyH.nil
        go_simp
        refine BK.out.mono ?_; rintro e w2 ⟨v, rfl, hv, hbv⟩
        have MK := Lib.hid (make_own HPD.out hbv.out hv.out r'.kind r'.tag HXS.out (by omega))
        have cc := CC.out w2 (BD.out.trans (hbv.out.mono BD.out.size))
        obtain ⟨cc1, cc2, cc6⟩ := cc
        go_wp2_with fail
        refine hK.out _ _ ?_ (fun hHeld => ?_)
        · (try dsimp only); go_keep
        clear hK K
        (try simp only [Act.put, List.setIfInBounds_toArray, List.set_cons_zero, List.set_cons_succ])
        refine wpAnyH_ready (rs := [17]) (by kernel_rfl) (by simp) ?_
        refine AllReadyH.cons (o := { dst := some 99, op := Go.Op.call { callee := Go.Callee.value (Go.Operand.func 11), args := #[Go.Operand.tmp 82, Go.Operand.tmp 87, Go.Operand.tmp 92, Go.Operand.tmp 98], argTypes := #[23, 3, 3, 34] }, type := 29, pos := _, after := #[{ on := 0, ground := Go.Ground.data }, { on := 5, ground := Go.Ground.data }, { on := 10, ground := Go.Ground.data }, { on := 16, ground := Go.Ground.data }, { on := 16, ground := Go.Ground.chain }], guard := none }) rfl (fun K hK => ?_) AllReadyH.nil
        go_simp
        refine MK.out.mono ?_; rintro e w3 ⟨rfl, hp3, hf3⟩
        have HO3 := Lib.hid (HID.out.make HXS.out hp3.out hf3.out)
        have cc := CC.out w3 HO3.out.bel
        obtain ⟨cc1', cc2', cc6'⟩ := cc
        go_wp2_with fail
        refine hK.out _ _ ?_ (fun hHeld => ?_)
        · (try dsimp only); go_keep
        clear hK K
        (try simp only [Act.put, List.setIfInBounds_toArray, List.set_cons_zero, List.set_cons_succ])
        refine wpAnyH_done (by kernel_rfl) ?_ _
        clear hHeld
        go_wp2
        go_roundw
        case rel => exact ⟨k + 1, _, by go_num, by omega, HO3⟩
        case measure => simp [intOf]; omega
    · obtain rfl : k = n1 := by omega
      have hkni : ¬ (k : Int) < (k : Int) := by omega
      obtain ⟨wA, hwA⟩ : ∃ wA, wA = wr := ⟨_, rfl⟩
      subst hwA
      have PU := Lib.hid (putH_any HI.out.hp)
      clear HA
      go_wp2_with fail
      refine PU.out.mono ?_; rintro e w3 ⟨v6, rfl, own6, b3⟩
      have LD := Lib.hid (load_own HI.out.full (by rw [HI.out.room]; decide) HI.out.le own6.out)
      clear PU own6
      go_wp2_with fail
      refine LD.out.mono ?_; rintro e w4 ⟨H2, rfl, hl2⟩
      have P4 := Lib.hid (LvI.start HI.out b3.out hl2.out.1 hl2.out.2.1 hl2.out.2.2)
      obtain ⟨B2, hB2⟩ : ∃ z, z = w3.heap.size := ⟨_, rfl⟩
      rw [← hB2] at P4
      have FM := Lib.hid (And.intro HI.out.full (show (m.ws.length : Int) ≤ 2000 from by have := HI.out.le; rw [HI.out.room] at this; exact this))
      have XU := Lib.hid HU.out.2.2.1
      have BK := Lib.hid (back_any (HU.out.below P4.out.bel) (by omega))
      clear LD hl2 b3 HI hB2
      go_wp2_with fail
      refine BK.out.mono ?_; rintro e w5 ⟨v5, rfl, own5, b5⟩
      obtain ⟨A5, c5, rfl, in5, l5⟩ := own_inW own5.out
      have P5 := Lib.hid (P4.out.below b5.out)
      have CL := Lib.hid (collect_any P5.out.hp in5 XU.out (by omega))
      rw [l5] at CL
      clear BK own5 in5 P4 b5
      go_wp2_with fail
      refine CL.out.mono ?_; rintro e w6 ⟨O, rfl, h6⟩
      have PW6 := Lib.hid (P5.out.pw.colP h6.out.1 h6.out.2.1)
      have OR := Lib.hid (show w6.ownsRow w5.heap.size 28 1 (.slice (some ⟨O, 0, none⟩) n n) n (wd (colR m xs)) from h6.out.2.2.1)
      have XL := Lib.hid l5
      obtain ⟨φ, hφ⟩ : ∃ φ, φ = fwd m (colS m xs).mv := ⟨_, rfl⟩
      have CR : Hid (colR m xs = xs.map φ) := Lib.hid (by rw [hφ]; exact (lv_col FM.out.1 (P := fun _ => True) (fun _ _ _ _ _ _ _ => trivial) XU.out (fun _ _ _ => trivial)).2.1)
      have PH := Lib.hid hφ
      clear CL h6 P5 l5 hφ
      go_wp2
      go_loopw [11, 12, 13] (fun va vb i wr => ∃ (k : Nat), i = .int .i64 k ∧ k ≤ n ∧ Hid (AB w6 wr va vb k (xs.take k) k ((xs.take k).map φ))) (fun _ _ i _ => n - (intOf i).toNat)
      case atStart => exact ⟨0, rfl, by omega, Lib.hid (ab_start w6)⟩
      case round =>
        obtain ⟨k, rfl, hk, HAB⟩ := hrel
        by_cases hkn : k < n
        · obtain ⟨rb, ro, rfl, hrb, hrc⟩ := HU.out.2.2.2 (by omega)
          have hkni : (k : Int) < (n : Int) := by omega
          have hkx : k < xs.length := by have := XL.out; omega
          have hrc' := hrc k hkx
          obtain ⟨x, hx⟩ : ∃ x, x = xs[k] := ⟨_, rfl⟩
          rw [← hx] at hrc'
          obtain ⟨y, hy⟩ : ∃ y, y = φ x := ⟨_, rfl⟩
          have hor : w6.cell? ⟨O, k, none⟩ = some (.int .u64 y) := by
            have z := OR.out.cellAt k (by omega)
            refine z.trans ?_
            rw [CR.out]
            rw [wd_at _ k (by rw [List.length_map]; exact hkx)]
            rw [List.getElem_map, hy, hx]
          have KS : Hid (∀ W, Below w6.heap.size w6 W → W.cell? ⟨rb, ro + k, none⟩ = some (.int .u64 x) ∧ W.cell? ⟨O, k, none⟩ = some (.int .u64 y)) := Lib.hid (fun W hW => ⟨(hW.cell (p := ⟨rb, ro + k, none⟩) (Nat.lt_of_lt_of_le hrb PW6.out.bel.size)).trans ((PW6.out.bel.cell (p := ⟨rb, ro + k, none⟩) hrb).trans hrc'), cell_below hor hW⟩)
          have TK : Hid (xs.take (k + 1) = xs.take k ++ [x]) := Lib.hid (by rw [List.take_succ_eq_append_getElem hkx, ← hx])
          have TM : Hid ((xs.take (k + 1)).map φ = (xs.take k).map φ ++ [y]) := Lib.hid (by rw [TK.out, List.map_append, hy]; rfl)
          obtain ⟨Aa, ca, rfl⟩ := HAB.out.fA
          obtain ⟨Ab, cb, rfl⟩ := HAB.out.fB
          have HABD := Lib.hid (HAB.out.below (bdr wr))
          obtain ⟨kc1, kc2⟩ := KS.out _ HABD.out.bel
          clear hor hrc hrc' hrb hx hy HAB
          go_wp2_with fail
          refine wp_region_held_drew (S := fun w' => w'.cell? ⟨rb, ro + k, none⟩ = some (.int .u64 x) ∧ w'.cell? ⟨O, k, none⟩ = some (.int .u64 y)) (by kernel_rfl) ?_ (fun hHeld => ?_)
          · (try dsimp only); go_keep
          obtain ⟨wd0, hwd0⟩ : ∃ z, z = wr.drew := ⟨_, rfl⟩
          rw [← hwd0] at hHeld HABD ⊢
          clear hwd0
          refine wpAnyH_take (i := 0) (oi := { dst := some 127, op := Go.Op.move (Go.Operand.tmp 11), type := 34, pos := _, after := #[], guard := none }) (v := ?vq00) rfl (by kernel_rfl) (by kernel_rfl) (by kernel_rfl) (fun _ _ _ h => h) (Or.inl ⟨by rfl, ?hyq00⟩) (by assumption) ?_
          case hyq00 => (intro wz hSw; (try dsimp only at hSw); go_simp; try with_reducible rfl)
          (try simp only [Act.put, List.setIfInBounds_toArray, List.set_cons_zero, List.set_cons_succ])
          refine wpAnyH_take (i := 1) (oi := { dst := some 128, op := Go.Op.move (Go.Operand.tmp 1), type := 45, pos := _, after := #[], guard := none }) (v := ?vq01) rfl (by kernel_rfl) (by kernel_rfl) (by kernel_rfl) (fun _ _ _ h => h) (Or.inl ⟨by rfl, ?hyq01⟩) (by assumption) ?_
          case hyq01 => (intro wz hSw; (try dsimp only at hSw); go_simp; try with_reducible rfl)
          (try simp only [Act.put, List.setIfInBounds_toArray, List.set_cons_zero, List.set_cons_succ])
          refine wpAnyH_take (i := 2) (oi := { dst := some 129, op := Go.Op.move (Go.Operand.tmp 13), type := 3, pos := _, after := #[], guard := none }) (v := ?vq02) rfl (by kernel_rfl) (by kernel_rfl) (by kernel_rfl) (fun _ _ _ h => h) (Or.inl ⟨by rfl, ?hyq02⟩) (by assumption) ?_
          case hyq02 => (intro wz hSw; (try dsimp only at hSw); go_simp; try with_reducible rfl)
          (try simp only [Act.put, List.setIfInBounds_toArray, List.set_cons_zero, List.set_cons_succ])
          refine wpAnyH_take (i := 3) (oi := { dst := some 130, op := Go.Op.indexAddr 45 (Go.Operand.tmp 128) (Go.Operand.tmp 129), type := 0, pos := _, after := #[{ on := 1, ground := Go.Ground.data }, { on := 2, ground := Go.Ground.data }], guard := none }) (v := ?vq03) rfl (by kernel_rfl) (by kernel_rfl) (by kernel_rfl) (fun _ _ _ h => h) (Or.inl ⟨by rfl, ?hyq03⟩) (by assumption) ?_
          case hyq03 => (intro wz hSw; (try dsimp only at hSw); go_simp; try with_reducible rfl)
          (try simp only [Act.put, List.setIfInBounds_toArray, List.set_cons_zero, List.set_cons_succ])
          refine wpAnyH_take (i := 4) (oi := { dst := some 131, op := Go.Op.load 27 (Go.Operand.tmp 130), type := 27, pos := _, after := #[{ on := 3, ground := Go.Ground.data }], guard := none }) (v := ?vq04) rfl (by kernel_rfl) (by kernel_rfl) (by kernel_rfl) (fun _ _ _ h => h) (Or.inl ⟨by rfl, ?hyq04⟩) (by assumption) ?_
          case hyq04 => (intro wz hSw; (try dsimp only at hSw); go_simp; try with_reducible rfl)
          (try simp only [Act.put, List.setIfInBounds_toArray, List.set_cons_zero, List.set_cons_succ])
          refine wpAnyH_take (i := 7) (oi := { dst := some 134, op := Go.Op.move (Go.Operand.tmp 12), type := 34, pos := _, after := #[], guard := none }) (v := ?vq07) rfl (by kernel_rfl) (by kernel_rfl) (by kernel_rfl) (fun _ _ _ h => h) (Or.inl ⟨by rfl, ?hyq07⟩) (by assumption) ?_
          case hyq07 => (intro wz hSw; (try dsimp only at hSw); go_simp; try with_reducible rfl)
          (try simp only [Act.put, List.setIfInBounds_toArray, List.set_cons_zero, List.set_cons_succ])
          refine wpAnyH_take (i := 8) (oi := { dst := some 135, op := Go.Op.move (Go.Operand.tmp 10), type := 34, pos := _, after := #[], guard := none }) (v := ?vq08) rfl (by kernel_rfl) (by kernel_rfl) (by kernel_rfl) (fun _ _ _ h => h) (Or.inl ⟨by rfl, ?hyq08⟩) (by assumption) ?_
          case hyq08 => (intro wz hSw; (try dsimp only at hSw); go_simp; try with_reducible rfl)
          (try simp only [Act.put, List.setIfInBounds_toArray, List.set_cons_zero, List.set_cons_succ])
          refine wpAnyH_take (i := 9) (oi := { dst := some 136, op := Go.Op.move (Go.Operand.tmp 13), type := 3, pos := _, after := #[], guard := none }) (v := ?vq09) rfl (by kernel_rfl) (by kernel_rfl) (by kernel_rfl) (fun _ _ _ h => h) (Or.inl ⟨by rfl, ?hyq09⟩) (by assumption) ?_
          case hyq09 => (intro wz hSw; (try dsimp only at hSw); go_simp; try with_reducible rfl)
          (try simp only [Act.put, List.setIfInBounds_toArray, List.set_cons_zero, List.set_cons_succ])
          refine wpAnyH_take (i := 10) (oi := { dst := some 137, op := Go.Op.indexAddr 34 (Go.Operand.tmp 135) (Go.Operand.tmp 136), type := 0, pos := _, after := #[{ on := 8, ground := Go.Ground.data }, { on := 9, ground := Go.Ground.data }], guard := none }) (v := ?vq010) rfl (by kernel_rfl) (by kernel_rfl) (by kernel_rfl) (fun _ _ _ h => h) (Or.inl ⟨by rfl, ?hyq010⟩) (by assumption) ?_
          case hyq010 => (intro wz hSw; (try dsimp only at hSw); go_simp; try with_reducible rfl)
          (try simp only [Act.put, List.setIfInBounds_toArray, List.set_cons_zero, List.set_cons_succ])
          refine wpAnyH_take (i := 11) (oi := { dst := some 138, op := Go.Op.load 28 (Go.Operand.tmp 137), type := 28, pos := _, after := #[{ on := 10, ground := Go.Ground.data }], guard := none }) (v := ?vq011) rfl (by kernel_rfl) (by kernel_rfl) (by kernel_rfl) (fun _ _ _ h => h) (Or.inl ⟨by rfl, ?hyq011⟩) (by assumption) ?_
          case hyq011 => (intro wz hSw; (try dsimp only at hSw); go_simp; try with_reducible rfl)
          (try simp only [Act.put, List.setIfInBounds_toArray, List.set_cons_zero, List.set_cons_succ])
          refine wpAnyH_ready (rs := [5, 12]) (by kernel_rfl) (by simp) ?_
          refine AllReadyH.cons (o := { dst := some 132, op := Go.Op.buildSlice 34 1 #[(0, Go.Operand.tmp 131)], type := 34, pos := _, after := #[{ on := 4, ground := Go.Ground.data }], guard := none }) rfl (fun K hK => ?_) (AllReadyH.cons (o := { dst := some 139, op := Go.Op.buildSlice 34 1 #[(0, Go.Operand.tmp 138)], type := 34, pos := _, after := #[{ on := 11, ground := Go.Ground.data }], guard := none }) rfl (fun K hK => ?_) AllReadyH.nil)
          · rw [if_pos (by rfl)]
            go_simp
            have bl2 : Hid (Below wd0.heap.size wd0 (wd0.alloc (.cells #[.int .u64 x] 28))) := Lib.hid (below_alloc wd0 _)
            have ab2 := Lib.hid (HABD.out.below bl2.out)
            have nc2 : Hid ((wd0.alloc (.cells #[.int .u64 x] 28)).cell? ⟨wd0.heap.size, 0, none⟩ = some (.int .u64 x)) := Lib.hid (by have z := new_cell wd0 (.int .u64 x) 28; rw [Go.WideShapes.add_plain] at z; exact z)
            refine hK.out _ _ (KS.out _ ab2.out.bel) (fun hHeld2 => ?_)
            clear hK K
            (try simp only [Act.put, List.setIfInBounds_toArray, List.set_cons_zero, List.set_cons_succ])
            obtain ⟨wt2, hw2⟩ : ∃ z, z = wd0.alloc (.cells #[.int .u64 x] 28) := ⟨_, rfl⟩
            rw [← hw2] at hHeld2 ab2 nc2 ⊢
            clear hw2 bl2
            refine wpAnyH_ready (rs := [6, 12]) (by kernel_rfl) (by simp) ?_
            refine AllReadyH.cons (o := { dst := some 133, op := Go.Op.call { callee := Go.Callee.builtin Go.Builtin.append, args := #[Go.Operand.tmp 127, Go.Operand.tmp 132], argTypes := #[34, 34] }, type := 34, pos := _, after := #[{ on := 0, ground := Go.Ground.data }, { on := 5, ground := Go.Ground.data }], guard := none }) rfl (fun K hK => ?_) (AllReadyH.cons (o := { dst := some 139, op := Go.Op.buildSlice 34 1 #[(0, Go.Operand.tmp 138)], type := 34, pos := _, after := #[{ on := 11, ground := Go.Ground.data }], guard := none }) rfl (fun K hK => ?_) AllReadyH.nil)
            · rw [if_pos (by rfl)]
              refine wp_append_at (.tmp 127) (.tmp 132) 34 rfl w6.heap.size 28 i0 (.int .u64 0) 8 Try.underlying34 HII.out.1 HII.out.2.1 HII.out.2.2.1 HII.out.2.2.2 rfl _ (k) _ rfl ab2.out.oa ⟨wd0.heap.size, 0, none⟩ 1 1 [.int .u64 x] rfl rfl (news1u nc2.out) (one1u x) (by unfold maxLen; omega) (by omega) ab2.out.size ?_
              intro v3 wt3 own3 gr3 at3
              have ab3 := Lib.hid (ab2.out.growA own3 gr3 at3)
              refine hK.out _ _ (KS.out _ ab3.out.bel) (fun hHeld3 => ?_)
              clear hK K
              (try simp only [Act.put, List.setIfInBounds_toArray, List.set_cons_zero, List.set_cons_succ])
              clear own3 gr3 at3
              refine wpAnyH_ready (rs := [12]) (by kernel_rfl) (by simp) ?_
              refine AllReadyH.cons (o := { dst := some 139, op := Go.Op.buildSlice 34 1 #[(0, Go.Operand.tmp 138)], type := 34, pos := _, after := #[{ on := 11, ground := Go.Ground.data }], guard := none }) rfl (fun K hK => ?_) AllReadyH.nil
              rw [if_pos (by rfl)]
              go_simp
              have bl4 : Hid (Below wt3.heap.size wt3 (wt3.alloc (.cells #[.int .u64 y] 28))) := Lib.hid (below_alloc wt3 _)
              have ab4 := Lib.hid (ab3.out.below bl4.out)
              have nc4 : Hid ((wt3.alloc (.cells #[.int .u64 y] 28)).cell? ⟨wt3.heap.size, 0, none⟩ = some (.int .u64 y)) := Lib.hid (by have z := new_cell wt3 (.int .u64 y) 28; rw [Go.WideShapes.add_plain] at z; exact z)
              refine hK.out _ _ (KS.out _ ab4.out.bel) (fun hHeld4 => ?_)
              clear hK K
              (try simp only [Act.put, List.setIfInBounds_toArray, List.set_cons_zero, List.set_cons_succ])
              obtain ⟨wt4, hw4⟩ : ∃ z, z = wt3.alloc (.cells #[.int .u64 y] 28) := ⟨_, rfl⟩
              rw [← hw4] at hHeld4 ab4 nc4 ⊢
              clear hw4 bl4
              refine wpAnyH_ready (rs := [13]) (by kernel_rfl) (by simp) ?_
              refine AllReadyH.cons (o := { dst := some 140, op := Go.Op.call { callee := Go.Callee.builtin Go.Builtin.append, args := #[Go.Operand.tmp 134, Go.Operand.tmp 139], argTypes := #[34, 34] }, type := 34, pos := _, after := #[{ on := 7, ground := Go.Ground.data }, { on := 12, ground := Go.Ground.data }, { on := 6, ground := Go.Ground.chain }], guard := none }) rfl (fun K hK => ?_) AllReadyH.nil
              rw [if_pos (by rfl)]
              refine wp_append_at (.tmp 134) (.tmp 139) 34 rfl w6.heap.size 28 i0 (.int .u64 0) 8 Try.underlying34 HII.out.1 HII.out.2.1 HII.out.2.2.1 HII.out.2.2.2 rfl _ (k) _ rfl ab4.out.ob ⟨wt3.heap.size, 0, none⟩ 1 1 [.int .u64 y] rfl rfl (news1u nc4.out) (one1u y) (by unfold maxLen; omega) (by omega) ab4.out.size ?_
              intro v5 wt5 own5 gr5 at5
              have ab5 := Lib.hid (ab4.out.growB own5 gr5 at5)
              refine hK.out _ _ (KS.out _ ab5.out.bel) (fun hHeld5 => ?_)
              clear hK K
              (try simp only [Act.put, List.setIfInBounds_toArray, List.set_cons_zero, List.set_cons_succ])
              clear own5 gr5 at5
              refine wpAnyH_take (i := 14) (oi := { dst := some 11, op := Go.Op.assign (Go.Operand.tmp 133), type := 34, pos := _, after := #[{ on := 6, ground := Go.Ground.data }, { on := 13, ground := Go.Ground.chain }, { on := 0, ground := Go.Ground.phase }, { on := 1, ground := Go.Ground.phase }, { on := 2, ground := Go.Ground.phase }, { on := 3, ground := Go.Ground.phase }, { on := 4, ground := Go.Ground.phase }, { on := 5, ground := Go.Ground.phase }, { on := 6, ground := Go.Ground.phase }, { on := 7, ground := Go.Ground.textOnly Go.Departure.lateStores }, { on := 8, ground := Go.Ground.textOnly Go.Departure.lateStores }, { on := 9, ground := Go.Ground.textOnly Go.Departure.lateStores }, { on := 10, ground := Go.Ground.textOnly Go.Departure.lateStores }, { on := 11, ground := Go.Ground.textOnly Go.Departure.lateStores }, { on := 12, ground := Go.Ground.textOnly Go.Departure.lateStores }, { on := 13, ground := Go.Ground.textOnly Go.Departure.lateStoresUnsure }], guard := none }) (v := ?vf514) rfl (by kernel_rfl) (by kernel_rfl) (by kernel_rfl) (fun _ _ _ h => h) (Or.inl ⟨by rfl, ?hyf514⟩) (by assumption) ?_
              case hyf514 => (intro wz hSw; (try dsimp only at hSw); go_simp; try with_reducible rfl)
              (try simp only [Act.put, List.setIfInBounds_toArray, List.set_cons_zero, List.set_cons_succ])
              refine wpAnyH_take (i := 15) (oi := { dst := some 12, op := Go.Op.assign (Go.Operand.tmp 140), type := 34, pos := _, after := #[{ on := 13, ground := Go.Ground.data }, { on := 14, ground := Go.Ground.chain }, { on := 0, ground := Go.Ground.phase }, { on := 1, ground := Go.Ground.phase }, { on := 2, ground := Go.Ground.phase }, { on := 3, ground := Go.Ground.phase }, { on := 4, ground := Go.Ground.phase }, { on := 5, ground := Go.Ground.phase }, { on := 6, ground := Go.Ground.phase }, { on := 7, ground := Go.Ground.phase }, { on := 8, ground := Go.Ground.phase }, { on := 9, ground := Go.Ground.phase }, { on := 10, ground := Go.Ground.phase }, { on := 11, ground := Go.Ground.phase }, { on := 12, ground := Go.Ground.phase }, { on := 13, ground := Go.Ground.phase }, { on := 14, ground := Go.Ground.phase }], guard := none }) (v := ?vf515) rfl (by kernel_rfl) (by kernel_rfl) (by kernel_rfl) (fun _ _ _ h => h) (Or.inl ⟨by rfl, ?hyf515⟩) (by assumption) ?_
              case hyf515 => (intro wz hSw; (try dsimp only at hSw); go_simp; try with_reducible rfl)
              (try simp only [Act.put, List.setIfInBounds_toArray, List.set_cons_zero, List.set_cons_succ])
              refine wpAnyH_done (by kernel_rfl) ?_ _
              clear KS
              go_wp2
              go_roundw
              case rel => exact ⟨k + 1, by go_num, by omega, Lib.hid (by rw [TM.out, TK.out]; exact ab5.out)⟩
              case measure => simp [intOf]; omega
            · rw [if_pos (by rfl)]
              go_simp
              have bl7 : Hid (Below wt2.heap.size wt2 (wt2.alloc (.cells #[.int .u64 y] 28))) := Lib.hid (below_alloc wt2 _)
              have ab7 := Lib.hid (ab2.out.below bl7.out)
              have nc7 : Hid ((wt2.alloc (.cells #[.int .u64 y] 28)).cell? ⟨wt2.heap.size, 0, none⟩ = some (.int .u64 y)) := Lib.hid (by have z := new_cell wt2 (.int .u64 y) 28; rw [Go.WideShapes.add_plain] at z; exact z)
              have n17 := Lib.hid (cell_below nc2.out bl7.out)
              refine hK.out _ _ (KS.out _ ab7.out.bel) (fun hHeld7 => ?_)
              clear hK K
              (try simp only [Act.put, List.setIfInBounds_toArray, List.set_cons_zero, List.set_cons_succ])
              obtain ⟨wt7, hw7⟩ : ∃ z, z = wt2.alloc (.cells #[.int .u64 y] 28) := ⟨_, rfl⟩
              rw [← hw7] at hHeld7 ab7 nc7 n17 ⊢
              clear hw7 bl7
              refine wpAnyH_ready (rs := [6]) (by kernel_rfl) (by simp) ?_
              refine AllReadyH.cons (o := { dst := some 133, op := Go.Op.call { callee := Go.Callee.builtin Go.Builtin.append, args := #[Go.Operand.tmp 127, Go.Operand.tmp 132], argTypes := #[34, 34] }, type := 34, pos := _, after := #[{ on := 0, ground := Go.Ground.data }, { on := 5, ground := Go.Ground.data }], guard := none }) rfl (fun K hK => ?_) AllReadyH.nil
              rw [if_pos (by rfl)]
              refine wp_append_at (.tmp 127) (.tmp 132) 34 rfl w6.heap.size 28 i0 (.int .u64 0) 8 Try.underlying34 HII.out.1 HII.out.2.1 HII.out.2.2.1 HII.out.2.2.2 rfl _ (k) _ rfl ab7.out.oa ⟨wd0.heap.size, 0, none⟩ 1 1 [.int .u64 x] rfl rfl (news1u n17.out) (one1u x) (by unfold maxLen; omega) (by omega) ab7.out.size ?_
              intro v8 wt8 own8 gr8 at8
              have ab8 := Lib.hid (ab7.out.growA own8 gr8 at8)
              have n28 := Lib.hid (cell_grown nc7.out gr8 (fun e => ab2.out.ltA e))
              refine hK.out _ _ (KS.out _ ab8.out.bel) (fun hHeld8 => ?_)
              clear hK K
              (try simp only [Act.put, List.setIfInBounds_toArray, List.set_cons_zero, List.set_cons_succ])
              clear own8 gr8 at8
              refine wpAnyH_ready (rs := [13]) (by kernel_rfl) (by simp) ?_
              refine AllReadyH.cons (o := { dst := some 140, op := Go.Op.call { callee := Go.Callee.builtin Go.Builtin.append, args := #[Go.Operand.tmp 134, Go.Operand.tmp 139], argTypes := #[34, 34] }, type := 34, pos := _, after := #[{ on := 7, ground := Go.Ground.data }, { on := 12, ground := Go.Ground.data }, { on := 6, ground := Go.Ground.chain }], guard := none }) rfl (fun K hK => ?_) AllReadyH.nil
              rw [if_pos (by rfl)]
              refine wp_append_at (.tmp 134) (.tmp 139) 34 rfl w6.heap.size 28 i0 (.int .u64 0) 8 Try.underlying34 HII.out.1 HII.out.2.1 HII.out.2.2.1 HII.out.2.2.2 rfl _ (k) _ rfl ab8.out.ob ⟨wt2.heap.size, 0, none⟩ 1 1 [.int .u64 y] rfl rfl (news1u n28.out) (one1u y) (by unfold maxLen; omega) (by omega) ab8.out.size ?_
              intro v9 wt9 own9 gr9 at9
              have ab9 := Lib.hid (ab8.out.growB own9 gr9 at9)
              refine hK.out _ _ (KS.out _ ab9.out.bel) (fun hHeld9 => ?_)
              clear hK K
              (try simp only [Act.put, List.setIfInBounds_toArray, List.set_cons_zero, List.set_cons_succ])
              clear own9 gr9 at9
              refine wpAnyH_take (i := 14) (oi := { dst := some 11, op := Go.Op.assign (Go.Operand.tmp 133), type := 34, pos := _, after := #[{ on := 6, ground := Go.Ground.data }, { on := 13, ground := Go.Ground.chain }, { on := 0, ground := Go.Ground.phase }, { on := 1, ground := Go.Ground.phase }, { on := 2, ground := Go.Ground.phase }, { on := 3, ground := Go.Ground.phase }, { on := 4, ground := Go.Ground.phase }, { on := 5, ground := Go.Ground.phase }, { on := 6, ground := Go.Ground.phase }, { on := 7, ground := Go.Ground.textOnly Go.Departure.lateStores }, { on := 8, ground := Go.Ground.textOnly Go.Departure.lateStores }, { on := 9, ground := Go.Ground.textOnly Go.Departure.lateStores }, { on := 10, ground := Go.Ground.textOnly Go.Departure.lateStores }, { on := 11, ground := Go.Ground.textOnly Go.Departure.lateStores }, { on := 12, ground := Go.Ground.textOnly Go.Departure.lateStores }, { on := 13, ground := Go.Ground.textOnly Go.Departure.lateStoresUnsure }], guard := none }) (v := ?vf914) rfl (by kernel_rfl) (by kernel_rfl) (by kernel_rfl) (fun _ _ _ h => h) (Or.inl ⟨by rfl, ?hyf914⟩) (by assumption) ?_
              case hyf914 => (intro wz hSw; (try dsimp only at hSw); go_simp; try with_reducible rfl)
              (try simp only [Act.put, List.setIfInBounds_toArray, List.set_cons_zero, List.set_cons_succ])
              refine wpAnyH_take (i := 15) (oi := { dst := some 12, op := Go.Op.assign (Go.Operand.tmp 140), type := 34, pos := _, after := #[{ on := 13, ground := Go.Ground.data }, { on := 14, ground := Go.Ground.chain }, { on := 0, ground := Go.Ground.phase }, { on := 1, ground := Go.Ground.phase }, { on := 2, ground := Go.Ground.phase }, { on := 3, ground := Go.Ground.phase }, { on := 4, ground := Go.Ground.phase }, { on := 5, ground := Go.Ground.phase }, { on := 6, ground := Go.Ground.phase }, { on := 7, ground := Go.Ground.phase }, { on := 8, ground := Go.Ground.phase }, { on := 9, ground := Go.Ground.phase }, { on := 10, ground := Go.Ground.phase }, { on := 11, ground := Go.Ground.phase }, { on := 12, ground := Go.Ground.phase }, { on := 13, ground := Go.Ground.phase }, { on := 14, ground := Go.Ground.phase }], guard := none }) (v := ?vf915) rfl (by kernel_rfl) (by kernel_rfl) (by kernel_rfl) (fun _ _ _ h => h) (Or.inl ⟨by rfl, ?hyf915⟩) (by assumption) ?_
              case hyf915 => (intro wz hSw; (try dsimp only at hSw); go_simp; try with_reducible rfl)
              (try simp only [Act.put, List.setIfInBounds_toArray, List.set_cons_zero, List.set_cons_succ])
              refine wpAnyH_done (by kernel_rfl) ?_ _
              clear KS
              go_wp2
              go_roundw
              case rel => exact ⟨k + 1, by go_num, by omega, Lib.hid (by rw [TM.out, TK.out]; exact ab9.out)⟩
              case measure => simp [intOf]; omega
          · rw [if_pos (by rfl)]
            go_simp
            have bl11 : Hid (Below wd0.heap.size wd0 (wd0.alloc (.cells #[.int .u64 y] 28))) := Lib.hid (below_alloc wd0 _)
            have ab11 := Lib.hid (HABD.out.below bl11.out)
            have nc11 : Hid ((wd0.alloc (.cells #[.int .u64 y] 28)).cell? ⟨wd0.heap.size, 0, none⟩ = some (.int .u64 y)) := Lib.hid (by have z := new_cell wd0 (.int .u64 y) 28; rw [Go.WideShapes.add_plain] at z; exact z)
            refine hK.out _ _ (KS.out _ ab11.out.bel) (fun hHeld11 => ?_)
            clear hK K
            (try simp only [Act.put, List.setIfInBounds_toArray, List.set_cons_zero, List.set_cons_succ])
            obtain ⟨wt11, hw11⟩ : ∃ z, z = wd0.alloc (.cells #[.int .u64 y] 28) := ⟨_, rfl⟩
            rw [← hw11] at hHeld11 ab11 nc11 ⊢
            clear hw11 bl11
            refine wpAnyH_ready (rs := [5]) (by kernel_rfl) (by simp) ?_
            refine AllReadyH.cons (o := { dst := some 132, op := Go.Op.buildSlice 34 1 #[(0, Go.Operand.tmp 131)], type := 34, pos := _, after := #[{ on := 4, ground := Go.Ground.data }], guard := none }) rfl (fun K hK => ?_) AllReadyH.nil
            rw [if_pos (by rfl)]
            go_simp
            have bl12 : Hid (Below wt11.heap.size wt11 (wt11.alloc (.cells #[.int .u64 x] 28))) := Lib.hid (below_alloc wt11 _)
            have ab12 := Lib.hid (ab11.out.below bl12.out)
            have nc12 : Hid ((wt11.alloc (.cells #[.int .u64 x] 28)).cell? ⟨wt11.heap.size, 0, none⟩ = some (.int .u64 x)) := Lib.hid (by have z := new_cell wt11 (.int .u64 x) 28; rw [Go.WideShapes.add_plain] at z; exact z)
            have n212 := Lib.hid (cell_below nc11.out bl12.out)
            refine hK.out _ _ (KS.out _ ab12.out.bel) (fun hHeld12 => ?_)
            clear hK K
            (try simp only [Act.put, List.setIfInBounds_toArray, List.set_cons_zero, List.set_cons_succ])
            obtain ⟨wt12, hw12⟩ : ∃ z, z = wt11.alloc (.cells #[.int .u64 x] 28) := ⟨_, rfl⟩
            rw [← hw12] at hHeld12 ab12 nc12 n212 ⊢
            clear hw12 bl12
            refine wpAnyH_ready (rs := [6]) (by kernel_rfl) (by simp) ?_
            refine AllReadyH.cons (o := { dst := some 133, op := Go.Op.call { callee := Go.Callee.builtin Go.Builtin.append, args := #[Go.Operand.tmp 127, Go.Operand.tmp 132], argTypes := #[34, 34] }, type := 34, pos := _, after := #[{ on := 0, ground := Go.Ground.data }, { on := 5, ground := Go.Ground.data }], guard := none }) rfl (fun K hK => ?_) AllReadyH.nil
            rw [if_pos (by rfl)]
            refine wp_append_at (.tmp 127) (.tmp 132) 34 rfl w6.heap.size 28 i0 (.int .u64 0) 8 Try.underlying34 HII.out.1 HII.out.2.1 HII.out.2.2.1 HII.out.2.2.2 rfl _ (k) _ rfl ab12.out.oa ⟨wt11.heap.size, 0, none⟩ 1 1 [.int .u64 x] rfl rfl (news1u nc12.out) (one1u x) (by unfold maxLen; omega) (by omega) ab12.out.size ?_
            intro v13 wt13 own13 gr13 at13
            have ab13 := Lib.hid (ab12.out.growA own13 gr13 at13)
            have n213 := Lib.hid (cell_grown n212.out gr13 (fun e => HABD.out.ltA e))
            refine hK.out _ _ (KS.out _ ab13.out.bel) (fun hHeld13 => ?_)
            clear hK K
            (try simp only [Act.put, List.setIfInBounds_toArray, List.set_cons_zero, List.set_cons_succ])
            clear own13 gr13 at13
            refine wpAnyH_ready (rs := [13]) (by kernel_rfl) (by simp) ?_
            refine AllReadyH.cons (o := { dst := some 140, op := Go.Op.call { callee := Go.Callee.builtin Go.Builtin.append, args := #[Go.Operand.tmp 134, Go.Operand.tmp 139], argTypes := #[34, 34] }, type := 34, pos := _, after := #[{ on := 7, ground := Go.Ground.data }, { on := 12, ground := Go.Ground.data }, { on := 6, ground := Go.Ground.chain }], guard := none }) rfl (fun K hK => ?_) AllReadyH.nil
            rw [if_pos (by rfl)]
            refine wp_append_at (.tmp 134) (.tmp 139) 34 rfl w6.heap.size 28 i0 (.int .u64 0) 8 Try.underlying34 HII.out.1 HII.out.2.1 HII.out.2.2.1 HII.out.2.2.2 rfl _ (k) _ rfl ab13.out.ob ⟨wd0.heap.size, 0, none⟩ 1 1 [.int .u64 y] rfl rfl (news1u n213.out) (one1u y) (by unfold maxLen; omega) (by omega) ab13.out.size ?_
            intro v14 wt14 own14 gr14 at14
            have ab14 := Lib.hid (ab13.out.growB own14 gr14 at14)
            refine hK.out _ _ (KS.out _ ab14.out.bel) (fun hHeld14 => ?_)
            clear hK K
            (try simp only [Act.put, List.setIfInBounds_toArray, List.set_cons_zero, List.set_cons_succ])
            clear own14 gr14 at14
            refine wpAnyH_take (i := 14) (oi := { dst := some 11, op := Go.Op.assign (Go.Operand.tmp 133), type := 34, pos := _, after := #[{ on := 6, ground := Go.Ground.data }, { on := 13, ground := Go.Ground.chain }, { on := 0, ground := Go.Ground.phase }, { on := 1, ground := Go.Ground.phase }, { on := 2, ground := Go.Ground.phase }, { on := 3, ground := Go.Ground.phase }, { on := 4, ground := Go.Ground.phase }, { on := 5, ground := Go.Ground.phase }, { on := 6, ground := Go.Ground.phase }, { on := 7, ground := Go.Ground.textOnly Go.Departure.lateStores }, { on := 8, ground := Go.Ground.textOnly Go.Departure.lateStores }, { on := 9, ground := Go.Ground.textOnly Go.Departure.lateStores }, { on := 10, ground := Go.Ground.textOnly Go.Departure.lateStores }, { on := 11, ground := Go.Ground.textOnly Go.Departure.lateStores }, { on := 12, ground := Go.Ground.textOnly Go.Departure.lateStores }, { on := 13, ground := Go.Ground.textOnly Go.Departure.lateStoresUnsure }], guard := none }) (v := ?vf1414) rfl (by kernel_rfl) (by kernel_rfl) (by kernel_rfl) (fun _ _ _ h => h) (Or.inl ⟨by rfl, ?hyf1414⟩) (by assumption) ?_
            case hyf1414 => (intro wz hSw; (try dsimp only at hSw); go_simp; try with_reducible rfl)
            (try simp only [Act.put, List.setIfInBounds_toArray, List.set_cons_zero, List.set_cons_succ])
            refine wpAnyH_take (i := 15) (oi := { dst := some 12, op := Go.Op.assign (Go.Operand.tmp 140), type := 34, pos := _, after := #[{ on := 13, ground := Go.Ground.data }, { on := 14, ground := Go.Ground.chain }, { on := 0, ground := Go.Ground.phase }, { on := 1, ground := Go.Ground.phase }, { on := 2, ground := Go.Ground.phase }, { on := 3, ground := Go.Ground.phase }, { on := 4, ground := Go.Ground.phase }, { on := 5, ground := Go.Ground.phase }, { on := 6, ground := Go.Ground.phase }, { on := 7, ground := Go.Ground.phase }, { on := 8, ground := Go.Ground.phase }, { on := 9, ground := Go.Ground.phase }, { on := 10, ground := Go.Ground.phase }, { on := 11, ground := Go.Ground.phase }, { on := 12, ground := Go.Ground.phase }, { on := 13, ground := Go.Ground.phase }, { on := 14, ground := Go.Ground.phase }], guard := none }) (v := ?vf1415) rfl (by kernel_rfl) (by kernel_rfl) (by kernel_rfl) (fun _ _ _ h => h) (Or.inl ⟨by rfl, ?hyf1415⟩) (by assumption) ?_
            case hyf1415 => (intro wz hSw; (try dsimp only at hSw); go_simp; try with_reducible rfl)
            (try simp only [Act.put, List.setIfInBounds_toArray, List.set_cons_zero, List.set_cons_succ])
            refine wpAnyH_done (by kernel_rfl) ?_ _
            clear KS
            go_wp2
            go_roundw
            case rel => exact ⟨k + 1, by go_num, by omega, Lib.hid (by rw [TM.out, TK.out]; exact ab14.out)⟩
            case measure => simp [intOf]; omega
        · obtain rfl : k = n := by omega
          obtain ⟨wB, hwB⟩ : ∃ wB, wB = wr := ⟨_, rfl⟩
          subst hwB
          have e1 : xs.take k = xs := List.take_of_length_le (by have := XL.out; omega)
          rw [e1] at HAB
          have hkni : ¬ (k : Int) < (k : Int) := by omega
          have CPK := Lib.hid (copied_kids FM.out.1 XU.out)
          have START : Hid (WI m xs (colS m xs).mv 0 xs (List.replicate m.ws.length 0)) := Lib.hid (wi_start XU.out (lv_col FM.out.1 (P := fun _ => True) (fun _ _ _ _ _ _ _ => trivial) XU.out (fun _ _ _ => trivial)).2.2)
          have MM := Lib.hid (mpi_made wB m (colS m xs).mv)
          have AM := Lib.hid (HAB.out.below (below_alloc wB (.map #[] 0)))
          have MQ := Lib.hid HAB.out.size
          obtain ⟨M, hM⟩ : ∃ M, M = wB.heap.size := ⟨_, rfl⟩
          rw [← hM] at MM MQ
          have hmm := @run_makeMap Try.prog
          clear e1 HU OR HAB CR
          go_wp2
          rw [← hM]
          clear hM hmm
          go_loopw [11, 12, 14, 16] (fun va vb nv iv wr => ∃ (i L N q : Nat) (al mk : List Int), iv = .int .i64 i ∧ nv = .int .i64 N ∧ i ≤ L ∧ L ≤ 2010 ∧ N ≤ 2000 ∧ q ≤ N ∧ Hid (N = usedN m mk) ∧ Hid (WI m xs (colS m xs).mv i al mk) ∧ Hid (AB w6 wr va vb L al L (al.map φ)) ∧ Hid (MpI wr M q m (colS m xs).mv mk)) (fun _ _ _ iv _ => 3000 - (intOf iv).toNat)
          case atStart => exact ⟨0, k, 0, 0, xs, _, rfl, rfl, by omega, by omega, by omega, by omega, Lib.hid (used_zero _ _).symm, START, AM, MM⟩
          case round =>
            obtain ⟨i, L, N, q, al, mk, rfl, rfl, hi, hL, hN, hq, HN, HW, HAB, HM⟩ := hrel
            clear START MM AM
            obtain ⟨Aa, ca, rfl⟩ := HAB.out.fA
            obtain ⟨Ab, cb, rfl⟩ := HAB.out.fB
            have HP := Lib.hid (PW6.out.hp.below HAB.out.bel)
            have HQ := Lib.hid (PW6.out.hq.below HAB.out.bel)
            by_cases hil : i < L
            · have hili : (i : Int) < (L : Int) := by omega
              have hi3 : (i : Int) < 3000 := by omega
              obtain ⟨ga, ca', ea, hca⟩ := HAB.out.atA hil
              obtain ⟨gb, cb', eb, hcb⟩ := HAB.out.atB hil
              injection ea with ea1 ea2 ea3
              injection eb with eb1 eb2 eb3
              subst ea1 ea3 eb1 eb3
              have hal := HAB.out.lenA
              have hia : i < al.length := by omega
              have hmem : al.getD i 0 ∈ al := by rw [getD_at hia]; exact List.getElem_mem hia
              have hmap : (al.map φ).getD i 0 = φ (al.getD i 0) := by rw [getD_at hia, getD_at (by rw [List.length_map]; exact hia), List.getElem_map]
              rw [hmap] at hcb
              have XX := Lib.hid (HW.out.u _ hmem)
              have XC := Lib.hid (HW.out.cp _ hmem)
              obtain ⟨x, hx⟩ : ∃ x, x = al.getD i 0 := ⟨_, rfl⟩
              rw [← hx] at hca hcb XX XC
              have HX := Lib.hid hx
              have HIA := Lib.hid hia
              obtain ⟨y, hy⟩ : ∃ y, y = φ x := ⟨_, rfl⟩
              rw [← hy] at hcb
              have HY : Hid (y = fwd m (colS m xs).mv x) := Lib.hid (by rw [hy, PH.out])
              have HY2 := Lib.hid hy
              clear hmem hmap hal hia hx hy
              have HH := Lib.hid (hhead_any HQ.out x XX.out)
              cases hf : findB m x with
              | false =>
                have e : headR m x = (0, 0, 0, 4) := by unfold headR; rw [hf]; rfl
                rw [e] at HH
                have hyx : y = x := by rw [HY.out]; exact fwd_none hf
                subst hyx
                have HF := Lib.hid hf
                clear e hf
                go_wp2_with fail
                refine HH.out.mono ?_; rintro e w7 ⟨rfl, rfl⟩
                clear HH
                go_wp2_with fail
                go_quiet (fail)
                go_wp2
                go_roundw
                case rel => exact ⟨i + 1, L, N, q, al, mk, by go_num, rfl, by omega, hL, hN, hq, HN, Lib.hid (wi_skip HW.out HIA.out (fun h => by rw [← HX.out, HF.out] at h; cases h)), Lib.hid (HAB.out.below (bdrN _ _)), Lib.hid (HM.out.below (bdrN _ _))⟩
                case measure => simp [intOf]; omega
              | true =>
                have e : headR m x = (splK (m.ws.getD (findV m x).toNat 0), splT (m.ws.getD (findV m x).toNat 0), splS (m.ws.getD (findV m x).toNat 0), 0) := if_pos hf
                rw [e] at HH
                have FF := Lib.hid (fwd_found FM.out.1 XU.out XX.out hf (XC.out hf))
                rw [← HY.out] at FF
                have e2 : headR (colM m xs) y = (splK (m.ws.getD (findV m x).toNat 0), splT (m.ws.getD (findV m x).toNat 0), splS (m.ws.getD (findV m x).toNat 0), 0) := by
                  unfold headR
                  rw [if_pos FF.out.1, FF.out.2.1]
                have HH2 : Hid (∀ W, Below w6.heap.size w6 W → Calls Try.prog 17 #[.pointer (some ⟨H, 0, none⟩), .int .u64 y] W fun e w' => e = .returned (.tuple #[.int .i64 (headR (colM m xs) y).1, .int .i64 (headR (colM m xs) y).2.1, .int .i64 (headR (colM m xs) y).2.2.1, .int .i64 (headR (colM m xs) y).2.2.2]) ∧ W = w') := Lib.hid (fun W hW => hhead_any (PW6.out.hp.below hW) y FF.out.2.2.1)
                rw [e2] at HH2
                have hsz : splS (m.ws.getD (findV m x).toNat 0) = (szN m.ws (atV x).toNat : Int) := by
                  obtain ⟨f1, f2, f3, f4⟩ := findB_lt hf
                  rw [f2]
                  have := (splS_nn (FM.out.1.toOk.wf _ (List.getElem_mem f3)).1).1
                  rw [← getD_at f3] at this
                  unfold szN
                  omega
                rw [hsz] at HH HH2
                obtain ⟨kk, hkk⟩ : ∃ z, z = splK (m.ws.getD (findV m x).toNat 0) := ⟨_, rfl⟩
                obtain ⟨tt, htt⟩ : ∃ z, z = splT (m.ws.getD (findV m x).toNat 0) := ⟨_, rfl⟩
                obtain ⟨sz, hzz⟩ : ∃ z, z = szN m.ws (atV x).toNat := ⟨_, rfl⟩
                rw [← hkk, ← htt, ← hzz] at HH HH2
                have HZ := Lib.hid hzz
                have HF := Lib.hid hf
                clear e e2 hsz hkk htt hzz hf
                obtain ⟨D, hown, hD, hhas, hat⟩ := HM.out
                have hkey := Maps.keyOf_int_mk (P := Try.prog) Try.underlying28 (wf_word XX.out)
                have hh := hhas x XX.out
                have HD := Lib.hid (And.intro hD (And.intro hhas hat))
                clear hD hhas hat
                by_cases hs : seenB m mk x = true
                · rw [hs] at hh
                  have CLY : Hid (∀ cc : Int, D.atKey (.int .u64 x) (.lit (.int .u64 0)) = .lit (.int .u64 cc) → cc = y) := Lib.hid (fun cc hcc => by
                    rw [HD.out.2.2 x XX.out hs] at hcc
                    injection hcc with hcc
                    injection hcc with _ hcc
                    rw [HY.out]; exact hcc.symm)
                  have HS := Lib.hid hs
                  clear hs
                  go_wp2_with fail
                  refine HH.out.mono ?_; rintro e w7 ⟨rfl, rfl⟩
                  clear HH HH2
                  go_wp2_with (first
                    | (at_lookup; refine wpList_lookup_own_ok_int _ rfl _ _ 63 rfl 28 28 .u64 law28 Try.underlying63 Try.underlying28 (zero28 _) M q D rfl hown _ _ rfl hkey ?_; intro cL hatc hwc; rw [hh]; obtain rfl := CLY.out cL hatc; clear hatc hwc CLY)
                    | fail)
                  go_wp2
                  go_roundw
                  case rel =>
                    refine ⟨i + 1, L, N, q, al, mk, by go_num, rfl, by omega, hL, hN, hq, HN, Lib.hid (wi_skip HW.out HIA.out (fun h => ?_)), HAB, HM⟩
                    rw [← HX.out]
                    have := HS.out
                    unfold seenB at this
                    simpa [HF.out] using this
                  case measure => simp [intOf]; omega
                · have hs' : seenB m mk x = false := by simpa using hs
                  rw [hs'] at hh
                  have h0 : mk.getD (atV x).toNat 0 = 0 := by
                    unfold seenB at hs'
                    simpa [HF.out] using hs'
                  have WN := Lib.hid (wi_new FM.out.1.toOk HW.out HIA.out (by rw [← HX.out]; exact HF.out) (by rw [← HX.out]; exact h0) CPK.out)
                  rw [← HX.out, ← HZ.out] at WN
                  have MP := Lib.hid (mpi_put (x := x) HW.out.lm XX.out HF.out HD.out.1 HD.out.2.1 HD.out.2.2)
                  rw [← HY.out] at MP
                  obtain ⟨p, hp⟩ : ∃ p, p = (atV x).toNat := ⟨_, rfl⟩
                  rw [← hp] at WN MP HZ FF
                  have UL := Lib.hid (used_le FM.out.1.toOk (mk.set p 1))
                  have OL : Hid ((objOf m p).length = sz) := Lib.hid (by
                    obtain ⟨f1, f2, f3, f4⟩ := findB_lt HF.out
                    rw [← hp] at f3 f4
                    have h5 := (obj_len FM.out.1.toOk f3 f4).1
                    rw [HZ.out]
                    unfold szN
                    omega)
                  have BND : Hid (N + (sz + 1) ≤ 2000 ∧ L + sz ≤ 2010 ∧ usedN m (mk.set p 1) = N + (sz + 1)) := Lib.hid (by
                    have h1 := WN.out.2
                    have h2 := WN.out.1.sz
                    have h3 := UL.out
                    have h4 := FM.out.2
                    have h5 := HN.out
                    have h6 := XL.out
                    have h7 := HAB.out.lenA
                    rw [List.length_append, OL.out, h7] at h2
                    have h8 : N + (sz + 1) ≤ 2000 := by omega
                    exact ⟨h8, by omega, by omega⟩)
                  have hb1 : N + (sz + 1) ≤ 2000 := BND.out.1
                  have hb2 : L + sz ≤ 2010 := BND.out.2.1
                  clear hs hs' h0 UL hp
                  go_wp2_with fail
                  refine HH.out.mono ?_; rintro e w7 ⟨rfl, rfl⟩
                  clear HH
                  go_wp2_with (first
                    | (at_lookup; refine wpList_lookup_own_ok_int _ rfl _ _ 63 rfl 28 28 .u64 law28 Try.underlying63 Try.underlying28 (zero28 _) M q D rfl hown _ _ rfl hkey ?_; intro cL hatc hwc; rw [hh]; clear hatc hwc)
                    | fail)
                  have HABD := Lib.hid (HAB.out.below (bdr wr))
                  have NE := Lib.hid (HABD.out.neM (HM.out.below (bdr wr)))
                  have hownD : wr.drew.ownsMap Try.prog 28 (plainElem Try.prog 28) M q D := hown
                  have hcaD : wr.drew.cell? ⟨ga, i, none⟩ = some (.int .u64 x) := hca
                  have hcbD : wr.drew.cell? ⟨gb, i, none⟩ = some (.int .u64 y) := hcb
                  clear hown HAB HM HP HQ
                  refine wp_region_held_drew (S := fun w' => w'.cell? ⟨ga, i, none⟩ = some (.int .u64 x) ∧ w'.cell? ⟨gb, i, none⟩ = some (.int .u64 y)) (by kernel_rfl) ?_ (fun hHeld => ?_)
                  · (try dsimp only); go_keep
                  refine wpAnyH_take (i := 0) (oi := { dst := some 190, op := Go.Op.move (Go.Operand.tmp 15), type := 63, pos := _, after := #[], guard := none }) (v := ?vu0) rfl (by kernel_rfl) (by kernel_rfl) (by kernel_rfl) (fun _ _ _ h => h) (Or.inl ⟨by rfl, ?hyu0⟩) (by assumption) ?_
                  case hyu0 => (intro wz hSw; (try dsimp only at hSw); go_simp; try with_reducible rfl)
                  (try simp only [Act.put, List.setIfInBounds_toArray, List.set_cons_zero, List.set_cons_succ])
                  refine wpAnyH_take (i := 1) (oi := { dst := some 191, op := Go.Op.move (Go.Operand.tmp 11), type := 34, pos := _, after := #[], guard := none }) (v := ?vu1) rfl (by kernel_rfl) (by kernel_rfl) (by kernel_rfl) (fun _ _ _ h => h) (Or.inl ⟨by rfl, ?hyu1⟩) (by assumption) ?_
                  case hyu1 => (intro wz hSw; (try dsimp only at hSw); go_simp; try with_reducible rfl)
                  (try simp only [Act.put, List.setIfInBounds_toArray, List.set_cons_zero, List.set_cons_succ])
                  refine wpAnyH_take (i := 2) (oi := { dst := some 192, op := Go.Op.move (Go.Operand.tmp 16), type := 3, pos := _, after := #[], guard := none }) (v := ?vu2) rfl (by kernel_rfl) (by kernel_rfl) (by kernel_rfl) (fun _ _ _ h => h) (Or.inl ⟨by rfl, ?hyu2⟩) (by assumption) ?_
                  case hyu2 => (intro wz hSw; (try dsimp only at hSw); go_simp; try with_reducible rfl)
                  (try simp only [Act.put, List.setIfInBounds_toArray, List.set_cons_zero, List.set_cons_succ])
                  refine wpAnyH_take (i := 3) (oi := { dst := some 193, op := Go.Op.indexAddr 34 (Go.Operand.tmp 191) (Go.Operand.tmp 192), type := 0, pos := _, after := #[{ on := 1, ground := Go.Ground.data }, { on := 2, ground := Go.Ground.data }], guard := none }) (v := ?vu3) rfl (by kernel_rfl) (by kernel_rfl) (by kernel_rfl) (fun _ _ _ h => h) (Or.inl ⟨by rfl, ?hyu3⟩) (by assumption) ?_
                  case hyu3 => (intro wz hSw; (try dsimp only at hSw); go_simp; try with_reducible rfl)
                  (try simp only [Act.put, List.setIfInBounds_toArray, List.set_cons_zero, List.set_cons_succ])
                  refine wpAnyH_take (i := 4) (oi := { dst := some 194, op := Go.Op.load 28 (Go.Operand.tmp 193), type := 28, pos := _, after := #[{ on := 3, ground := Go.Ground.data }], guard := none }) (v := ?vu4) rfl (by kernel_rfl) (by kernel_rfl) (by kernel_rfl) (fun _ _ _ h => h) (Or.inl ⟨by rfl, ?hyu4⟩) (by assumption) ?_
                  case hyu4 => (intro wz hSw; (try dsimp only at hSw); go_simp; try with_reducible rfl)
                  (try simp only [Act.put, List.setIfInBounds_toArray, List.set_cons_zero, List.set_cons_succ])
                  refine wpAnyH_take (i := 5) (oi := { dst := some 195, op := Go.Op.move (Go.Operand.tmp 12), type := 34, pos := _, after := #[], guard := none }) (v := ?vu5) rfl (by kernel_rfl) (by kernel_rfl) (by kernel_rfl) (fun _ _ _ h => h) (Or.inl ⟨by rfl, ?hyu5⟩) (by assumption) ?_
                  case hyu5 => (intro wz hSw; (try dsimp only at hSw); go_simp; try with_reducible rfl)
                  (try simp only [Act.put, List.setIfInBounds_toArray, List.set_cons_zero, List.set_cons_succ])
                  refine wpAnyH_take (i := 6) (oi := { dst := some 196, op := Go.Op.move (Go.Operand.tmp 16), type := 3, pos := _, after := #[], guard := none }) (v := ?vu6) rfl (by kernel_rfl) (by kernel_rfl) (by kernel_rfl) (fun _ _ _ h => h) (Or.inl ⟨by rfl, ?hyu6⟩) (by assumption) ?_
                  case hyu6 => (intro wz hSw; (try dsimp only at hSw); go_simp; try with_reducible rfl)
                  (try simp only [Act.put, List.setIfInBounds_toArray, List.set_cons_zero, List.set_cons_succ])
                  refine wpAnyH_take (i := 7) (oi := { dst := some 197, op := Go.Op.indexAddr 34 (Go.Operand.tmp 195) (Go.Operand.tmp 196), type := 0, pos := _, after := #[{ on := 5, ground := Go.Ground.data }, { on := 6, ground := Go.Ground.data }], guard := none }) (v := ?vu7) rfl (by kernel_rfl) (by kernel_rfl) (by kernel_rfl) (fun _ _ _ h => h) (Or.inl ⟨by rfl, ?hyu7⟩) (by assumption) ?_
                  case hyu7 => (intro wz hSw; (try dsimp only at hSw); go_simp; try with_reducible rfl)
                  (try simp only [Act.put, List.setIfInBounds_toArray, List.set_cons_zero, List.set_cons_succ])
                  refine wpAnyH_take (i := 8) (oi := { dst := some 198, op := Go.Op.load 28 (Go.Operand.tmp 197), type := 28, pos := _, after := #[{ on := 7, ground := Go.Ground.data }], guard := none }) (v := ?vu8) rfl (by kernel_rfl) (by kernel_rfl) (by kernel_rfl) (fun _ _ _ h => h) (Or.inl ⟨by rfl, ?hyu8⟩) (by assumption) ?_
                  case hyu8 => (intro wz hSw; (try dsimp only at hSw); go_simp; try with_reducible rfl)
                  (try simp only [Act.put, List.setIfInBounds_toArray, List.set_cons_zero, List.set_cons_succ])
                  refine wpAnyH_ready (rs := [9]) (by kernel_rfl) (by simp) ?_
                  refine AllReadyH.cons (o := { dst := none, op := Go.Op.mapUpdate 63 (Go.Operand.tmp 190) (Go.Operand.tmp 194) (Go.Operand.tmp 198), type := 0, pos := _, after := #[{ on := 0, ground := Go.Ground.data }, { on := 4, ground := Go.Ground.data }, { on := 8, ground := Go.Ground.data }, { on := 0, ground := Go.Ground.phase }, { on := 1, ground := Go.Ground.phase }, { on := 2, ground := Go.Ground.phase }, { on := 3, ground := Go.Ground.phase }, { on := 4, ground := Go.Ground.phase }, { on := 5, ground := Go.Ground.phase }, { on := 6, ground := Go.Ground.phase }, { on := 7, ground := Go.Ground.phase }, { on := 8, ground := Go.Ground.phase }], guard := none }) rfl (fun K hK => ?_) AllReadyH.nil
                  rw [if_pos (by rfl)]
                  refine wp_map_put (.tmp 190) (.tmp 194) (.tmp 198) 63 rfl 28 28 law28 Try.underlying63 _ M q D rfl hownD (by unfold maxLen; omega) _ _ _ rfl rfl hkey _ [] (plainElem_int Try.underlying28 (wf_word FF.out.2.2.1)) ?_
                  intro w8 hown8 gr8
                  have HM8 : Hid (MpI w8 M (q + 1) m (colS m xs).mv (mk.set p 1)) := Lib.hid ⟨_, hown8, MP.out.1, MP.out.2.1, MP.out.2.2⟩
                  have AB8 := Lib.hid (HABD.out.turn gr8 MQ.out NE.out.1 NE.out.2)
                  have hca8 : w8.cell? ⟨ga, i, none⟩ = some (.int .u64 x) := cell_grown hcaD gr8 (fun e => NE.out.1 (by rw [e]; rfl))
                  have hcb8 : w8.cell? ⟨gb, i, none⟩ = some (.int .u64 y) := cell_grown hcbD gr8 (fun e => NE.out.2 (by rw [e]; rfl))
                  clear hown8 gr8
                  refine hK.out _ _ ⟨hca8, hcb8⟩ (fun hHeld => ?_)
                  clear hK K
                  (try simp only [Act.put, List.setIfInBounds_toArray, List.set_cons_zero, List.set_cons_succ])
                  refine wpAnyH_done (by kernel_rfl) ?_ _
                  clear MP NE hownD hcaD hcbD hkey hh HD HABD
                  clear hHeld
                  go_wp2_with fail
                  refine (HH2.out _ AB8.out.bel).mono ?_; rintro e w9 ⟨rfl, rfl⟩
                  clear HH2 hca8 hcb8 hca hcb
                  go_wp2
                  go_loopw [11, 12, 27] (fun va vb cv wr => ∃ c : Nat, cv = .int .i64 c ∧ c ≤ sz ∧ Hid (AB w6 wr va vb (L + c) (al ++ (objOf m p).take c) (L + c) ((al ++ (objOf m p).take c).map φ)) ∧ Hid (MpI wr M (q + 1) m (colS m xs).mv (mk.set p 1))) (fun _ _ cv _ => sz - (intOf cv).toNat)
                  case atStart => exact ⟨0, rfl, by omega, Lib.hid (by rw [List.take_zero, List.append_nil]; exact AB8.out), HM8⟩
                  case round =>
                    obtain ⟨c, rfl, hc, HA9, HM9⟩ := hrel
                    clear AB8 HM8
                    by_cases hcs : c < sz
                    · have hcsi : (c : Int) < (sz : Int) := by omega
                      obtain ⟨Ac, cc1, rfl⟩ := HA9.out.fA
                      obtain ⟨Ad, cd1, rfl⟩ := HA9.out.fB
                      have hiL : i < L + c := by omega
                      obtain ⟨g1, x1, ea, ha9⟩ := HA9.out.atA hiL
                      obtain ⟨g2, x2, eb, hb9⟩ := HA9.out.atB hiL
                      injection ea with ea1 ea2 ea3
                      injection eb with eb1 eb2 eb3
                      subst ea1 ea3 eb1 eb3
                      have hiA : i < al.length := HIA.out
                      have gx : (al ++ (objOf m p).take c).getD i 0 = x := by rw [getD_app_l _ _ _ _ hiA]; exact HX.out.symm
                      have gy : ((al ++ (objOf m p).take c).map φ).getD i 0 = y := by
                        rw [List.map_append, getD_app_l _ _ _ _ (by rw [List.length_map]; exact hiA), getD_at (by rw [List.length_map]; exact hiA), List.getElem_map, HY2.out, HX.out, getD_at hiA]
                      rw [gx] at ha9
                      rw [gy] at hb9
                      have hiLi : (i : Int) < ((L + c : Nat) : Int) := by omega
                      have FC := Lib.hid (FF.out.2.2.2 c (by rw [← HZ.out]; exact hcs))
                      have GA := Lib.hid (get_any (PW6.out.hq.below HA9.out.bel) x c XX.out (by omega) (by omega))
                      have GB := Lib.hid (get_any (PW6.out.hp.below HA9.out.bel) y c FF.out.2.2.1 (by omega) (by omega))
                      rw [FC.out.1] at GA
                      rw [FC.out.2] at GB
                      obtain ⟨v1, hv1⟩ : ∃ z, z = m.ws.getD (p + 1 + c) 0 := ⟨_, rfl⟩
                      obtain ⟨v2, hv2⟩ : ∃ z, z = fwd m (colS m xs).mv v1 := ⟨_, rfl⟩
                      rw [← hv1] at GA GB
                      rw [← hv2] at GB
                      obtain ⟨er1, her1⟩ : ∃ z, z = (getR m x c).2 := ⟨_, rfl⟩
                      obtain ⟨er2, her2⟩ : ∃ z, z = (getR (colM m xs) y c).2 := ⟨_, rfl⟩
                      rw [← her1] at GA
                      rw [← her2] at GB
                      have TK : Hid (al ++ (objOf m p).take (c + 1) = al ++ (objOf m p).take c ++ [v1]) := Lib.hid (by
                        have hco : c < (objOf m p).length := by rw [OL.out]; exact hcs
                        rw [List.take_succ_eq_append_getElem hco, List.append_assoc, hv1, ← (objOf_mem hco).2, getD_at hco])
                      have TM : Hid ((al ++ (objOf m p).take (c + 1)).map φ = (al ++ (objOf m p).take c).map φ ++ [v2]) := Lib.hid (by rw [TK.out, List.map_append, hv2, PH.out]; rfl)
                      have HAD := Lib.hid (HA9.out.below (below_alloc wr (.cells #[.int .u64 v1] 28)))
                      have HMD := Lib.hid (HM9.out.below (below_alloc wr (.cells #[.int .u64 v1] 28)))
                      clear ea2 eb2 gx gy FC hv1 hv2 her1 her2 HA9 HM9 hiA
                      go_wp2_with fail
                      refine GA.out.mono ?_; rintro e w10 ⟨rfl, rfl⟩
                      clear GA
                      go_wp2_with fail
                      refine GB.out.mono ?_; rintro e w10 ⟨rfl, rfl⟩
                      clear GB
                      go_wp2_with (at_builtin; refine wpList_append_own_at _ rfl (.tmp 256) (.tmp 258) 34 rfl w6.heap.size 28 i0 (.int .u64 0) 1 8 Try.underlying34 HII.out.1 HII.out.2.1 HII.out.2.2.1 HII.out.2.2.2 rfl (by decide) _ (L + c) _ rfl HAD.out.oa ⟨wr.heap.size, 0, none⟩ 1 1 [.int .u64 v1] rfl rfl ?c1 ?c2 (by unfold maxLen; omega) (by omega) HAD.out.size ?_)
                      case c1 => exact cell_one_new _ _ _
                      case c2 => exact one1u _
                      intro ve1 we1 own1 gr1 _ at1
                      have HAE := Lib.hid (HAD.out.growA own1 gr1 (by rw [alloc_size]; exact at1))
                      have HME := Lib.hid (HMD.out.grown gr1 (HAD.out.neM HMD.out).1)
                      have HAG := Lib.hid (HAE.out.below (below_alloc we1 (.cells #[.int .u64 v2] 28)))
                      have HMG := Lib.hid (HME.out.below (below_alloc we1 (.cells #[.int .u64 v2] 28)))
                      clear own1 gr1 at1 HAD HMD HAE HME
                      go_wp2_with (at_builtin; refine wpList_append_own_at _ rfl (.tmp 260) (.tmp 262) 34 rfl w6.heap.size 28 i0 (.int .u64 0) 1 8 Try.underlying34 HII.out.1 HII.out.2.1 HII.out.2.2.1 HII.out.2.2.2 rfl (by decide) _ (L + c) _ rfl HAG.out.ob ⟨we1.heap.size, 0, none⟩ 1 1 [.int .u64 v2] rfl rfl ?c3 ?c4 (by unfold maxLen; omega) (by omega) HAG.out.size ?_)
                      case c3 => exact cell_one_new _ _ _
                      case c4 => exact one1u _
                      intro ve2 we2 own2 gr2 _ at2
                      have hmc : List.map φ al ++ List.take c (List.map φ (objOf m p)) = List.map φ (al ++ List.take c (objOf m p)) := by rw [List.map_append, List.map_take]
                      rw [hmc] at own2
                      have HAK := Lib.hid (HAG.out.growB own2 gr2 (by rw [alloc_size]; exact at2))
                      clear hmc
                      have HMK := Lib.hid (HMG.out.grown gr2 (HAG.out.neM HMG.out).2)
                      clear own2 gr2 at2 HAG HMG
                      go_wp2
                      go_roundw
                      case rel => exact ⟨c + 1, by go_num, by omega, Lib.hid (by rw [TM.out, TK.out]; exact HAK.out), HMK⟩
                      case measure => simp [intOf]; omega
                    · obtain rfl : c = sz := by omega
                      have hcsi : ¬ (c : Int) < (c : Int) := by omega
                      have eo : (objOf m p).take c = objOf m p := List.take_of_length_le (by rw [OL.out]; omega)
                      rw [eo] at HA9
                      clear eo
                      go_wp2
                      go_roundw
                      case rel => exact ⟨i + 1, L + c, N + (c + 1), q + 1, al ++ objOf m p, mk.set p 1, by go_num, by go_num, by omega, by omega, by omega, by omega, Lib.hid BND.out.2.2.symm, Lib.hid WN.out.1, HA9, HM9⟩
                      case measure => simp [intOf]; omega
            · obtain rfl : i = L := by omega
              have hili : ¬ (i : Int) < (i : Int) := by omega
              have hal := HAB.out.lenA
              have HE : Hid ((colM m xs).ws.length = N) := Lib.hid (by
                have z := HW.out
                rw [← hal] at z
                rw [HN.out]
                exact (wi_end FM.out.1 XU.out z).symm)
              have US := Lib.hid (used_any HP.out)
              rw [HE.out] at US
              have BB := Lib.hid (PW6.out.bel.trans (HAB.out.bel.mono PW6.out.bel.size))
              clear hal
              go_wp2_with fail
              refine US.out.mono ?_; rintro e w7 ⟨rfl, rfl⟩
              go_wp2
              go_ret
              exact ⟨by rfl, BB.out⟩
end Go.Proofs.Ytknpgmbniohcnaa
