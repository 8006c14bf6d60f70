import Derived.Test.YtknpgmbniohcnaaSo
namespace Go.Proofs.Ytknpgmbniohcnaa
open Go.ChangeShapes Go.WideShapes Go.ChangeAt Go.RowKit
set_option linter.unusedVariables false
set_option linter.unusedSimpArgs false
set_option maxRecDepth 100000 in
set_option maxHeartbeats 8000000 in
theorem own_walk {w : World} {A : Option Addr} {n c : Nat} {acts : List AcR} (ha : AcsIn w A n acts) :
    Calls Try.prog 8 #[.slice A n c] w fun e w' => e = .returned (.bool true) ∧ Below w.heap.size w w' := by
  have AW := Lib.hid (awake_any w)
  by_cases hn : 20 < n
  · have d1 : decide (20 < (n : Int)) = true := decide_eq_true (by omega)
    clear ha
    go_enter Try.func8, Try.ntmps8
    go_wp2_with fail
    refine AW.out.mono ?_; rintro e w1 ⟨rfl, hb1⟩
    go_wp2
    go_ret
    exact ⟨rfl, hb1⟩
  have d1 : decide (20 < (n : Int)) = false := decide_eq_false (by omega)
  have NW := Lib.hid (fun W => new_ok W 500 (by decide) (by decide))
  have HA := Lib.hid ha
  clear ha
  go_enter Try.func8, Try.ntmps8
  go_wp2_with fail
  refine AW.out.mono ?_; rintro e w1 ⟨rfl, hb1⟩
  have B1 := Lib.hid hb1
  clear AW hb1
  go_wp2_with fail
  refine (NW.out _).mono ?_; rintro e w2 ⟨rfl, -, b2, z2⟩
  clear NW
  have ST : Hid (OwnI w w2 w1.heap.size w2.heap.size (emp 500)) := Lib.hid ⟨full_emp (by decide) (by decide), rfl, by decide, z2.out.2 w2 _ (Below.refl _ _) (Nat.le_refl _), bt B1.out b2.out, B1.out.size, (bt B1.out b2.out).size⟩
  obtain ⟨H, hH⟩ : ∃ H, H = w1.heap.size := ⟨_, rfl⟩
  obtain ⟨B, hB⟩ : ∃ B, B = w2.heap.size := ⟨_, rfl⟩
  rw [← hH, ← hB] at ST
  rw [← hH]
  clear hH hB z2 b2 B1
  go_wp2
  go_loopw [5] (fun i wr => ∃ (k : Nat) (m : Hm), i = .int .i64 k ∧ k ≤ n ∧ Hid (OwnI w wr H B m)) (fun i _ => n - (intOf i).toNat)
  case atStart => exact ⟨0, _, rfl, by omega, ST⟩
  case round =>
    obtain ⟨k, m, rfl, hk, HI⟩ := hrel
    clear ST
    by_cases hkn : k < n
    · have hkx : k < acts.length := by have := HA.out.1; omega
      have hkni : (k : Int) < (n : Int) := by omega
      obtain ⟨b, off, rfl, hb, hc⟩ := HA.out.2 (by omega)
      have hac := (hc k hkx).below hb HI.out.bel
      obtain ⟨r, hr⟩ : ∃ r, r = acts[k] := ⟨_, rfl⟩
      rw [← hr] at hac
      obtain ⟨A', n', c', e6, hu⟩ := hac.c6
      have CC : Hid (∀ W, Below w.heap.size w W → W.cell? ⟨b, off + k * 7 + 1, none⟩ = some (.int .i64 r.kind) ∧ W.cell? ⟨b, off + k * 7 + 2, none⟩ = some (.int .i64 r.tag) ∧ W.cell? ⟨b, off + k * 7 + 6, none⟩ = some (.slice A' n' c')) := Lib.hid (fun W hW => by
        have h0 := hc k hkx
        rw [← hr] at h0
        obtain ⟨A2, n2, c2, f6, _⟩ := h0.c6
        have e7 := (HI.out.bel.cell (p := ⟨b, off + k * 7 + 6, none⟩) hb).trans f6
        rw [e6] at e7
        exact ⟨(hW.cell (p := ⟨b, _, none⟩) hb).trans h0.c1, (hW.cell (p := ⟨b, _, none⟩) hb).trans h0.c2, ((hW.cell (p := ⟨b, _, none⟩) hb).trans f6).trans e7.symm⟩)
      have c1' := hac.c1
      have c2' := hac.c2
      have HXS := Lib.hid hu.2.2.1
      have HUD := Lib.hid (hu.below (bdr wr))
      clear hc hr hac
      by_cases h10 : 10 < n'
      · have dd : decide (10 < (n' : Int)) = true := decide_eq_true (by omega)
        clear hu
        go_wp2
        go_ret
        exact ⟨by rfl, HI.out.bel⟩
      · have dd : decide (10 < (n' : Int)) = false := decide_eq_false (by omega)
        clear hu
        have BK := Lib.hid (back_any HUD.out (by omega))
        have BD : Hid (Below w.heap.size w wr.drew) := Lib.hid (HI.out.bel.trans (bdr wr |>.mono HI.out.bel.size))
        have HPD := Lib.hid (HI.out.hp.below (bdr wr))
        have HID : Hid (OwnI w wr.drew H B m) := Lib.hid ⟨HI.out.full, HI.out.room, HI.out.le, HPD.out, BD.out, HI.out.ge⟩
        go_wp2_with fail
        refine wp_region_held_drew (S := fun w' => w'.cell? ⟨b, off + k * 7 + 1, none⟩ = some (.int .i64 r.kind) ∧ w'.cell? ⟨b, off + k * 7 + 2, none⟩ = some (.int .i64 r.tag) ∧ w'.cell? ⟨b, off + k * 7 + 6, none⟩ = some (.slice A' n' c')) (by kernel_rfl) ?_ (fun hHeld => ?_)
        · (try dsimp only); go_keep
        refine wpAnyH_take (i := 0) (oi := { dst := some 35, op := Go.Op.move (Go.Operand.tmp 3), type := 23, pos := _, after := #[], guard := none }) (v := ?vz0) rfl (by kernel_rfl) (by kernel_rfl) (by kernel_rfl) (fun _ _ _ h => h) (Or.inl ⟨by rfl, ?hyz0⟩) (by assumption) ?_
        case hyz0 => (intro wz hSw; (try dsimp only at hSw); go_simp; try with_reducible rfl)
        (try simp only [Act.put, List.setIfInBounds_toArray, List.set_cons_zero, List.set_cons_succ])
        refine wpAnyH_take (i := 1) (oi := { dst := some 36, op := Go.Op.move (Go.Operand.tmp 0), type := 43, pos := _, after := #[], guard := none }) (v := ?vz1) rfl (by kernel_rfl) (by kernel_rfl) (by kernel_rfl) (fun _ _ _ h => h) (Or.inl ⟨by rfl, ?hyz1⟩) (by assumption) ?_
        case hyz1 => (intro wz hSw; (try dsimp only at hSw); go_simp; try with_reducible rfl)
        (try simp only [Act.put, List.setIfInBounds_toArray, List.set_cons_zero, List.set_cons_succ])
        refine wpAnyH_take (i := 2) (oi := { dst := some 37, op := Go.Op.move (Go.Operand.tmp 5), type := 3, pos := _, after := #[], guard := none }) (v := ?vz2) rfl (by kernel_rfl) (by kernel_rfl) (by kernel_rfl) (fun _ _ _ h => h) (Or.inl ⟨by rfl, ?hyz2⟩) (by assumption) ?_
        case hyz2 => (intro wz hSw; (try dsimp only at hSw); go_simp; try with_reducible rfl)
        (try simp only [Act.put, List.setIfInBounds_toArray, List.set_cons_zero, List.set_cons_succ])
        refine wpAnyH_take (i := 3) (oi := { dst := some 38, op := Go.Op.indexAddr 43 (Go.Operand.tmp 36) (Go.Operand.tmp 37), type := 0, pos := _, after := #[{ on := 1, ground := Go.Ground.data }, { on := 2, ground := Go.Ground.data }], guard := none }) (v := ?vz3) rfl (by kernel_rfl) (by kernel_rfl) (by kernel_rfl) (fun _ _ _ h => h) (Or.inl ⟨by rfl, ?hyz3⟩) (by assumption) ?_
        case hyz3 => (intro wz hSw; (try dsimp only at hSw); go_simp; try with_reducible rfl)
        (try simp only [Act.put, List.setIfInBounds_toArray, List.set_cons_zero, List.set_cons_succ])
        refine wpAnyH_take (i := 4) (oi := { dst := some 39, op := Go.Op.fieldAddr 49 (Go.Operand.tmp 38) 1, type := 0, pos := _, after := #[{ on := 3, ground := Go.Ground.data }], guard := none }) (v := ?vz4) rfl (by kernel_rfl) (by kernel_rfl) (by kernel_rfl) (fun _ _ _ h => h) (Or.inl ⟨by rfl, ?hyz4⟩) (by assumption) ?_
        case hyz4 => (intro wz hSw; (try dsimp only at hSw); go_simp; try with_reducible rfl)
        (try simp only [Act.put, List.setIfInBounds_toArray, List.set_cons_zero, List.set_cons_succ])
        refine wpAnyH_take (i := 5) (oi := { dst := some 40, op := Go.Op.load 3 (Go.Operand.tmp 39), type := 3, pos := _, after := #[{ on := 4, ground := Go.Ground.data }], guard := none }) (v := ?vz5) rfl (by kernel_rfl) (by kernel_rfl) (by kernel_rfl) (fun _ _ _ h => h) (Or.inl ⟨by rfl, ?hyz5⟩) (by assumption) ?_
        case hyz5 => (intro wz hSw; (try dsimp only at hSw); go_simp; try with_reducible rfl)
        (try simp only [Act.put, List.setIfInBounds_toArray, List.set_cons_zero, List.set_cons_succ])
        refine wpAnyH_take (i := 6) (oi := { dst := some 41, op := Go.Op.move (Go.Operand.tmp 0), type := 43, pos := _, after := #[], guard := none }) (v := ?vz6) rfl (by kernel_rfl) (by kernel_rfl) (by kernel_rfl) (fun _ _ _ h => h) (Or.inl ⟨by rfl, ?hyz6⟩) (by assumption) ?_
        case hyz6 => (intro wz hSw; (try dsimp only at hSw); go_simp; try with_reducible rfl)
        (try simp only [Act.put, List.setIfInBounds_toArray, List.set_cons_zero, List.set_cons_succ])
        refine wpAnyH_take (i := 7) (oi := { dst := some 42, op := Go.Op.move (Go.Operand.tmp 5), type := 3, pos := _, after := #[], guard := none }) (v := ?vz7) rfl (by kernel_rfl) (by kernel_rfl) (by kernel_rfl) (fun _ _ _ h => h) (Or.inl ⟨by rfl, ?hyz7⟩) (by assumption) ?_
        case hyz7 => (intro wz hSw; (try dsimp only at hSw); go_simp; try with_reducible rfl)
        (try simp only [Act.put, List.setIfInBounds_toArray, List.set_cons_zero, List.set_cons_succ])
        refine wpAnyH_take (i := 8) (oi := { dst := some 43, op := Go.Op.indexAddr 43 (Go.Operand.tmp 41) (Go.Operand.tmp 42), type := 0, pos := _, after := #[{ on := 6, ground := Go.Ground.data }, { on := 7, ground := Go.Ground.data }], guard := none }) (v := ?vz8) rfl (by kernel_rfl) (by kernel_rfl) (by kernel_rfl) (fun _ _ _ h => h) (Or.inl ⟨by rfl, ?hyz8⟩) (by assumption) ?_
        case hyz8 => (intro wz hSw; (try dsimp only at hSw); go_simp; try with_reducible rfl)
        (try simp only [Act.put, List.setIfInBounds_toArray, List.set_cons_zero, List.set_cons_succ])
        refine wpAnyH_take (i := 9) (oi := { dst := some 44, op := Go.Op.fieldAddr 49 (Go.Operand.tmp 43) 2, type := 0, pos := _, after := #[{ on := 8, ground := Go.Ground.data }], guard := none }) (v := ?vz9) rfl (by kernel_rfl) (by kernel_rfl) (by kernel_rfl) (fun _ _ _ h => h) (Or.inl ⟨by rfl, ?hyz9⟩) (by assumption) ?_
        case hyz9 => (intro wz hSw; (try dsimp only at hSw); go_simp; try with_reducible rfl)
        (try simp only [Act.put, List.setIfInBounds_toArray, List.set_cons_zero, List.set_cons_succ])
        refine wpAnyH_take (i := 10) (oi := { dst := some 45, op := Go.Op.load 3 (Go.Operand.tmp 44), type := 3, pos := _, after := #[{ on := 9, ground := Go.Ground.data }], guard := none }) (v := ?vz10) rfl (by kernel_rfl) (by kernel_rfl) (by kernel_rfl) (fun _ _ _ h => h) (Or.inl ⟨by rfl, ?hyz10⟩) (by assumption) ?_
        case hyz10 => (intro wz hSw; (try dsimp only at hSw); go_simp; try with_reducible rfl)
        (try simp only [Act.put, List.setIfInBounds_toArray, List.set_cons_zero, List.set_cons_succ])
        refine wpAnyH_take (i := 11) (oi := { dst := some 46, op := Go.Op.move (Go.Operand.tmp 0), type := 43, pos := _, after := #[], guard := none }) (v := ?vz11) rfl (by kernel_rfl) (by kernel_rfl) (by kernel_rfl) (fun _ _ _ h => h) (Or.inl ⟨by rfl, ?hyz11⟩) (by assumption) ?_
        case hyz11 => (intro wz hSw; (try dsimp only at hSw); go_simp; try with_reducible rfl)
        (try simp only [Act.put, List.setIfInBounds_toArray, List.set_cons_zero, List.set_cons_succ])
        refine wpAnyH_take (i := 12) (oi := { dst := some 47, op := Go.Op.move (Go.Operand.tmp 5), type := 3, pos := _, after := #[], guard := none }) (v := ?vz12) rfl (by kernel_rfl) (by kernel_rfl) (by kernel_rfl) (fun _ _ _ h => h) (Or.inl ⟨by rfl, ?hyz12⟩) (by assumption) ?_
        case hyz12 => (intro wz hSw; (try dsimp only at hSw); go_simp; try with_reducible rfl)
        (try simp only [Act.put, List.setIfInBounds_toArray, List.set_cons_zero, List.set_cons_succ])
        refine wpAnyH_take (i := 13) (oi := { dst := some 48, op := Go.Op.indexAddr 43 (Go.Operand.tmp 46) (Go.Operand.tmp 47), type := 0, pos := _, after := #[{ on := 11, ground := Go.Ground.data }, { on := 12, ground := Go.Ground.data }], guard := none }) (v := ?vz13) rfl (by kernel_rfl) (by kernel_rfl) (by kernel_rfl) (fun _ _ _ h => h) (Or.inl ⟨by rfl, ?hyz13⟩) (by assumption) ?_
        case hyz13 => (intro wz hSw; (try dsimp only at hSw); go_simp; try with_reducible rfl)
        (try simp only [Act.put, List.setIfInBounds_toArray, List.set_cons_zero, List.set_cons_succ])
        refine wpAnyH_take (i := 14) (oi := { dst := some 49, op := Go.Op.fieldAddr 49 (Go.Operand.tmp 48) 6, type := 0, pos := _, after := #[{ on := 13, ground := Go.Ground.data }], guard := none }) (v := ?vz14) rfl (by kernel_rfl) (by kernel_rfl) (by kernel_rfl) (fun _ _ _ h => h) (Or.inl ⟨by rfl, ?hyz14⟩) (by assumption) ?_
        case hyz14 => (intro wz hSw; (try dsimp only at hSw); go_simp; try with_reducible rfl)
        (try simp only [Act.put, List.setIfInBounds_toArray, List.set_cons_zero, List.set_cons_succ])
        refine wpAnyH_take (i := 15) (oi := { dst := some 50, op := Go.Op.load 45 (Go.Operand.tmp 49), type := 45, pos := _, after := #[{ on := 14, ground := Go.Ground.data }], guard := none }) (v := ?vz15) rfl (by kernel_rfl) (by kernel_rfl) (by kernel_rfl) (fun _ _ _ h => h) (Or.inl ⟨by rfl, ?hyz15⟩) (by assumption) ?_
        case hyz15 => (intro wz hSw; (try dsimp only at hSw); go_simp; try with_reducible rfl)
        (try simp only [Act.put, List.setIfInBounds_toArray, List.set_cons_zero, List.set_cons_succ])
        refine wpAnyH_ready (rs := [16]) (by kernel_rfl) (by simp) ?_
        refine AllReadyH.cons (o := { dst := some 51, op := Go.Op.call { callee := Go.Callee.value (Go.Operand.func 21), args := #[Go.Operand.tmp 50], argTypes := #[45] }, type := 34, pos := _, after := #[{ on := 15, ground := Go.Ground.data }], guard := none }) rfl (fun K hK => ?_) AllReadyH.nil
        go_simp
        refine BK.out.mono ?_; rintro e w2 ⟨v, rfl, hv, hbv⟩
        have MK := Lib.hid (make_own HPD.out hbv.out hv.out r.kind r.tag HXS.out (by omega))
        have cc := CC.out w2 (BD.out.trans (hbv.out.mono BD.out.size))
        obtain ⟨cc1, cc2, cc6⟩ := cc
        go_wp2_with fail
        refine hK.out _ _ ?_ (fun hHeld => ?_)
        · (try dsimp only); go_keep
        clear hK K
        (try simp only [Act.put, List.setIfInBounds_toArray, List.set_cons_zero, List.set_cons_succ])
        refine wpAnyH_ready (rs := [17]) (by kernel_rfl) (by simp) ?_
        refine AllReadyH.cons (o := { dst := some 52, op := Go.Op.call { callee := Go.Callee.value (Go.Operand.func 11), args := #[Go.Operand.tmp 35, Go.Operand.tmp 40, Go.Operand.tmp 45, Go.Operand.tmp 51], argTypes := #[23, 3, 3, 34] }, type := 29, pos := _, after := #[{ on := 0, ground := Go.Ground.data }, { on := 5, ground := Go.Ground.data }, { on := 10, ground := Go.Ground.data }, { on := 16, ground := Go.Ground.data }, { on := 16, ground := Go.Ground.chain }], guard := none }) rfl (fun K hK => ?_) AllReadyH.nil
        go_simp
        refine MK.out.mono ?_; rintro e w3 ⟨rfl, hp3, hf3⟩
        have HO3 := Lib.hid (HID.out.make HXS.out hp3.out hf3.out)
        have cc := CC.out w3 HO3.out.bel
        obtain ⟨cc1', cc2', cc6'⟩ := cc
        go_wp2_with fail
        refine hK.out _ _ ?_ (fun hHeld => ?_)
        · (try dsimp only); go_keep
        clear hK K
        (try simp only [Act.put, List.setIfInBounds_toArray, List.set_cons_zero, List.set_cons_succ])
        refine wpAnyH_done (by kernel_rfl) ?_ _
        clear hHeld
        go_wp2
        go_roundw
        case rel => exact ⟨k + 1, _, by go_num, by omega, HO3⟩
        case measure => simp [intOf]; omega
    · obtain rfl : k = n := by omega
      have hkni : ¬ (k : Int) < (k : Int) := by omega
      obtain ⟨wA, hwA⟩ : ∃ wA, wA = wr := ⟨_, rfl⟩
      subst hwA
      have PU := Lib.hid (putH_any HI.out.hp)
      have hml : (m.ws.length : Int) ≤ 500 := by have h1 := HI.out.le; rw [HI.out.room] at h1; exact h1
      obtain ⟨N6, hN6⟩ : ∃ N6, N6 = 16 + 8 * m.ws.length := ⟨_, rfl⟩
      rw [← hN6] at PU
      have hN6b : N6 ≤ 4100 := by omega
      have hN6p : 0 < N6 := by omega
      have LEN := Lib.hid hml
      clear HA hml
      have HN6 := Lib.hid hN6
      clear hN6
      go_wp2_with fail
      refine PU.out.mono ?_; rintro e w3 ⟨v6, rfl, own6, b3⟩
      obtain ⟨G, cap, hv6, hG0, hGlt⟩ := own6.out.form hN6p
      subst hv6
      obtain ⟨S, hS⟩ : ∃ S, S = strOfNums (encM m) := ⟨_, rfl⟩
      have cv : (convert 40 9 (.slice (some ⟨G, 0, none⟩) N6 cap)).run Try.prog w3 = .ok (.string S) w3 := by rw [hS]; exact str_own own6.out
      have HS := Lib.hid hS
      have GG := Lib.hid (And.intro hG0 hGlt)
      have LD2 : Hid (Calls Try.prog 18 #[.slice (some ⟨G, 0, none⟩) N6 cap] w3 fun e w' => ∃ H2, e = .returned (.tuple #[.pointer (some ⟨H2, 0, none⟩), .int .i64 0]) ∧ Hid (w3.heap.size ≤ H2 ∧ HpAt w' w3.heap.size H2 0 m ∧ Below w3.heap.size w3 w')) := Lib.hid (by
        obtain ⟨A6, c6, e6, hi6, hl6⟩ := own_inB own6.out
        injection e6 with e61 e62 e63
        subst e61 e63
        have hby := enc_byte (all_u64 HI.out.full.toOk)
        rw [← enc_all] at hby
        have z := load_any hi6 hby (by rw [hl6]; omega)
        rw [hl6] at z
        refine z.mono fun e w' ⟨h1, h2⟩ => ?_
        have hle := load_enc HI.out.full (by rw [HI.out.room]; decide) HI.out.le
        rcases h1.out with ⟨h3, _⟩ | ⟨m2, H2, h3, h4, h5, h6⟩
        · rw [hle] at h3; cases h3
        · rw [hle] at h3; injection h3 with h3; subst h3
          exact ⟨H2, h5, Lib.hid ⟨h4, h6, h2.out⟩⟩)
      have HPA : Hid (HpAt w3 B H 0 m) := Lib.hid (HI.out.hp.below b3.out)
      have HRA : Hid (∀ W, Below wA.heap.size wA W → ∀ j, HR W H 0 j → j < wA.heap.size) := Lib.hid (fun W hW j hj => HR_lt HI.out.hp hW hj)
      clear hG0 hGlt hS PU
      go_wp2_with fail
      refine LD2.out.mono ?_; rintro e w4 ⟨H2, rfl, hl2⟩
      clear LD2 cv
      have BA : Hid (Below wA.heap.size wA w4) := Lib.hid (bt b3.out hl2.out.2.2)
      have ST2 : Hid (w4.ownsRow wA.heap.size 5 1 (.slice (some ⟨G, 0, none⟩) N6 cap) N6 (wb (encM m))) := Lib.hid (own_frm own6.out (R := fun k => w3.heap.size ≤ k) (Frm.of_below hl2.out.2.2 (Nat.le_refl _) _) (fun k hk hr => by
        have := GG.out.2
        simp [Value.ownBlock] at hk; omega))
      go_wp2
      go_loopw [10] (fun i wr => ∃ (j : Nat) (l' : List Int), i = .int .i64 j ∧ j ≤ N6 ∧ Hid (wr.ownsRow wA.heap.size 5 1 (.slice (some ⟨G, 0, none⟩) N6 cap) N6 (wb l')) ∧ Hid (Frm w4 wr (fun b => b = G))) (fun i _ => N6 - (intOf i).toNat)
      case atStart => exact ⟨0, _, rfl, by omega, ST2, Lib.hid (Frm.refl _ _)⟩
      case round =>
        obtain ⟨j, l', rfl, hj, OW, FG⟩ := hrel
        clear ST2
        by_cases hjN : j < N6
        · have hjNi : (j : Int) < (N6 : Int) := by omega
          have hll : l'.length = N6 := by have := OW.out.1; rw [wb_len] at this; omega
          have hcj : wr.cell? ⟨G, j, none⟩ = some (.int .u8 (l'[j]'(by omega))) := (OW.out.cellAt j (by omega)).trans (wb_at l' j (by omega))
          obtain ⟨y, hy⟩ : ∃ y, y = l'[j]'(by omega) := ⟨_, rfl⟩
          rw [← hy] at hcj
          have fz : wr.frozen? ⟨G, j, none⟩ = false := OW.out.frozenAt j
          have HST : Hid (∀ z : Int, (wr.setCell ⟨G, j, none⟩ (.int .u8 z)).ownsRow wA.heap.size 5 1 (.slice (some ⟨G, 0, none⟩) N6 cap) N6 (wb (l'.set j z)) ∧ Frm w4 (wr.setCell ⟨G, j, none⟩ (.int .u8 z)) (fun b => b = G)) := Lib.hid (fun z => ⟨by
            rw [show wb (l'.set j z) = (wb l').set j (.int .u8 z) from by simp [wb, List.map_set]]
            exact (OW.out.stored j _).1, FG.out.trans (frm_set j _ rfl)⟩)
          clear hy hll OW FG
          go_wp2
          go_roundw
          case rel => exact ⟨j + 1, _, by go_num, by omega, Lib.hid (HST.out _).1, Lib.hid (HST.out _).2⟩
          case measure => simp [intOf]; omega
        · obtain rfl : j = N6 := by omega
          have hjNi : ¬ (j : Int) < (j : Int) := by omega
          have HPH : Hid (HpAt wr B H 0 m) := Lib.hid ((HPA.out.below hl2.out.2.2).frm FG.out (fun b hb e => by
            have h1 := HRA.out w4 BA.out b hb
            have := GG.out.1; omega))
          have HPC : Hid (HpAt wr w3.heap.size H2 0 m) := Lib.hid (hl2.out.2.1.frm FG.out (fun b hb e => by
            have := GG.out.2; have := hl2.out.1
            rcases hl2.out.2.1.ge hb with e2 | e2 <;> omega))
          have BR : Hid (Below wA.heap.size wA wr) := Lib.hid (BA.out.trans (FG.out.below (fun b hb => by have := GG.out.1; omega) BA.out.size))
          have N5 : Hid (∀ W, Calls Try.prog 13 #[.int .i64 5] W fun e w' => e = .returned (.int .u64 11) ∧ W = w') := Lib.hid (fun W => num_any 5 W)
          have hE : makeE m 1 1 [11] = if m.room < m.ws.length + 2 then 8 else 0 := by
            unfold makeE
            rw [if_neg (by decide), if_neg (by simp [fitsB])]
            rfl
          have MK1 : Hid (Calls Try.prog 11 #[.pointer (some ⟨H2, 0, none⟩), .int .i64 1, .int .i64 1, .slice (some ⟨wr.heap.size, 0, none⟩) 1 1] (wr.alloc (.cells #[.int .u64 11] 28)) fun e w' => e = .returned (.tuple #[.int .u64 (makeV m 1 1 [11]), .int .i64 (makeE m 1 1 [11])]) ∧ Hid (HpAt w' w3.heap.size H2 0 (makeM m 1 1 [11]) ∧ HpAt w' B H 0 m ∧ Below wA.heap.size wA w')) := Lib.hid (by
            refine (make_new HPC.out 1 1 [11] 1 (u64l (by decide)) (by decide)).mono fun e w' ⟨h1, h2, h3⟩ => ⟨h1, Lib.hid ⟨h2.out, HPH.out.frm h3.out (fun b hb hr => ?_), BR.out.trans (h3.out.below (fun b hb => ?_) BR.out.size)⟩⟩
            · have h4 := HRA.out wr BR.out b hb
              have := GG.out; have := hl2.out.1
              rcases HPC.out.ge hr with e2 | e2 <;> omega
            · have := GG.out; have := hl2.out.1
              rcases HPC.out.ge hb with e2 | e2 <;> omega)
          obtain ⟨vm, hvm⟩ : ∃ vm, vm = makeV m 1 1 [11] := ⟨_, rfl⟩
          rw [← hvm, hE] at MK1
          clear OW FG hvm
          by_cases hfull : m.room < m.ws.length + 2
          · rw [if_pos hfull] at MK1
            clear hE hfull
            go_wp2_with fail
            refine (N5.out _).mono ?_; rintro e w5 ⟨rfl, rfl⟩
            go_wp2_with fail
            refine MK1.out.mono ?_; rintro e w6 ⟨rfl, h6⟩
            have PU2 := Lib.hid (putH_any h6.out.2.1)
            go_wp2_with fail
            refine PU2.out.mono ?_; rintro e w7 ⟨v7, rfl, own7, b7⟩
            have cv7 : (convert 40 9 v7).run Try.prog w7 = .ok (.string S) w7 := by rw [HS.out]; exact str_own own7.out
            go_wp2
            go_ret
            exact ⟨by rfl, HI.out.bel.trans ((h6.out.2.2.trans (b7.out.mono h6.out.2.2.size)).mono HI.out.bel.size)⟩
          · rw [if_neg hfull] at MK1
            have hlen2 : (makeM m 1 1 [11]).ws.length = m.ws.length + 2 := by
              unfold makeM
              rw [hE, if_neg hfull, if_pos rfl]
              simp [Hm.add]
            clear hE hfull
            go_wp2_with fail
            refine (N5.out _).mono ?_; rintro e w5 ⟨rfl, rfl⟩
            go_wp2_with fail
            refine MK1.out.mono ?_; rintro e w6 ⟨rfl, h6⟩
            have PU2 := Lib.hid (putH_any h6.out.2.1)
            go_wp2_with fail
            refine PU2.out.mono ?_; rintro e w7 ⟨v7, rfl, own7, b7⟩
            have cv7 : (convert 40 9 v7).run Try.prog w7 = .ok (.string S) w7 := by rw [HS.out]; exact str_own own7.out
            have U1 := Lib.hid (used_any (h6.out.1.below b7.out))
            have U2 := Lib.hid (used_any (h6.out.2.1.below b7.out))
            rw [hlen2] at U1
            have hlb := LEN.out
            obtain ⟨L, hL⟩ : ∃ L, L = m.ws.length := ⟨_, rfl⟩
            rw [← hL] at U1 U2 hlb
            have hw : IntKind.i64.wrap ((L : Int) + 2) = (L : Int) + 2 := IntWalk.i64_in _ (by omega)
            have hcast : ((L + 2 : Nat) : Int) = (L : Int) + 2 := by push_cast; rfl
            rw [hcast] at U1
            clear hlen2 hL
            go_wp2_with fail
            refine U1.out.mono ?_; rintro e w8 ⟨rfl, rfl⟩
            go_wp2_with fail
            refine U2.out.mono ?_; rintro e w8 ⟨rfl, rfl⟩
            go_wp2
            go_ret
            exact ⟨by rfl, HI.out.bel.trans ((h6.out.2.2.trans (b7.out.mono h6.out.2.2.size)).mono HI.out.bel.size)⟩
end Go.Proofs.Ytknpgmbniohcnaa
