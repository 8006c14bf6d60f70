import Derived.Test.YtknpgmbniohcnaaPl
import Derived.Test.YtknpgmbniohcnaaSo
namespace Go.Proofs.Ytknpgmbniohcnaa
open Go.ChangeShapes Go.WideShapes Go.ChangeAt Go.RowKit
set_option linter.unusedVariables false
set_option linter.unusedSimpArgs false
theorem upon_mono {P : Program} {ops : Array Oper} {Q : Exit → Act → World → Prop} {md : Region.Mode} {S S' : World → Prop} (hs : ∀ w, S' w → S w) : ∀ (fuel : Nat) (listed : Array Bool) (a : Act) (w : World), wpAnyH P md ops Q S' fuel listed a w → wpAnyH P md ops Q S fuel listed a w
  | 0, _, _, _, h => h
  | fuel + 1, _, _, _, h => ⟨h.1, fun i hi => wpOp_mono (fun a' w' h' => ⟨hs _ h'.1, upon_mono hs fuel _ a' w' h'.2⟩) (h.2 i hi)⟩
theorem colT_le {t : Int} {k : Nat} (h : 0 ≤ t ∧ t ≤ k) : 0 ≤ colT t ∧ colT t ≤ (k + 1 : Nat) := by unfold colT; split <;> omega
theorem rh_new {w w2 : World} {H B : Nat} {room : Int} (h0 : 0 ≤ room) (h1 : room ≤ 65536) (hH : w2.heap[H]? = some (.cells #[.int .i64 room, .slice none 0 0, .int .i64 0] 47 (0, 0))) (hB : B ≤ w2.heap.size) : RH w2 B H (emp room) :=
  ⟨full_emp h0 h1, hB, 47, none, 0, by decide, hH, World.ownsRow_nil _ _ _ _⟩
set_option maxRecDepth 100000 in
set_option maxHeartbeats 32000000 in
theorem plays_walk {w : World} {A : Option Addr} {n c : Nat} {acts : List AcR} (room p ai : Int) (ha : AcsIn w A n acts) (hpu : U64 p) (hai : I64 ai) :
    Calls Try.prog 4 #[.int .i64 room, .slice A n c, .int .u64 p, .int .i64 ai] w fun e w' => e = .returned (.bool true) ∧ Below w.heap.size w w' := by
  have AW := Lib.hid (awake_any w)
  have HPU := Lib.hid hpu
  have HAI := Lib.hid hai
  have HA := Lib.hid ha
  by_cases hr0 : room < 16
  · have NB := Lib.hid (fun W => new_bad W room (.inl hr0))
    have d0 := decide_eq_true hr0
    clear ha hpu hai
    go_enter Try.func4, Try.ntmps4
    go_wp2_with fail
    refine AW.out.mono ?_; rintro e w1 ⟨rfl, hb1⟩
    go_wp2_with fail
    refine (NB.out _).mono ?_; rintro e w2 ⟨rfl, rfl⟩
    go_wp2
    go_ret
    exact ⟨rfl, hb1⟩
  have d0 := decide_eq_false hr0
  by_cases hr1 : 65536 < room
  · have NB := Lib.hid (fun W => new_bad W room (.inr hr1))
    have d1 := decide_eq_true hr1
    clear ha hpu hai
    go_enter Try.func4, Try.ntmps4
    go_wp2_with fail
    refine AW.out.mono ?_; rintro e w1 ⟨rfl, hb1⟩
    go_wp2_with fail
    refine (NB.out _).mono ?_; rintro e w2 ⟨rfl, rfl⟩
    go_wp2
    go_ret
    exact ⟨rfl, hb1⟩
  have d1 := decide_eq_false hr1
  have NW := Lib.hid (fun W => new_ok W room (by omega) (by omega))
  by_cases hn : 40 < n
  · have dn : decide (40 < (n : Int)) = true := decide_eq_true (by omega)
    clear ha hpu hai
    go_enter Try.func4, Try.ntmps4
    go_wp2_with fail
    refine AW.out.mono ?_; rintro e w1 ⟨rfl, hb1⟩
    go_wp2_with fail
    refine (NW.out _).mono ?_; rintro e w2 ⟨rfl, -, b2, z2⟩
    go_wp2
    go_ret
    exact ⟨rfl, bt hb1 b2.out⟩
  have dn : decide (40 < (n : Int)) = false := decide_eq_false (by omega)
  have HRM := Lib.hid (show 0 ≤ room ∧ room ≤ 65536 from ⟨by omega, by omega⟩)
  clear ha hpu hai hr0 hr1
  go_enter Try.func4, Try.ntmps4
  go_wp2_with fail
  refine AW.out.mono ?_; rintro e w1 ⟨rfl, hb1⟩
  have B1 := Lib.hid hb1
  clear AW hb1
  go_wp2_with fail
  refine (NW.out _).mono ?_; rintro e w2 ⟨rfl, -, b2, z2⟩
  clear NW
  have ST : Hid (PI w (w2.alloc (.cells #[.int .i64 room, .slice none 0 0, .int .i64 0] 47)) w1.heap.size w2.heap.size (w2.heap.size + 1) (emp room)) := Lib.hid (by
    have hsz : (w2.alloc (.cells #[.int .i64 room, .slice none 0 0, .int .i64 0] 47)).heap.size = w2.heap.size + 1 := by show (w2.heap.push _).size = _; simp
    have h1 := z2.out.1
    have h2 := B1.out.size
    refine ⟨z2.out.2 _ _ (below_alloc w2 _) (by omega), rh_new (w := w2) HRM.out.1 HRM.out.2 (by show (w2.heap.push _)[w2.heap.size]? = _; rw [Array.getElem?_push, if_pos rfl]) (by omega), by omega, ⟨by omega, by omega⟩, ⟨by omega, by omega⟩, bt (bt B1.out b2.out) (below_alloc w2 _)⟩)
  obtain ⟨H, hH⟩ : ∃ H, H = w1.heap.size := ⟨_, rfl⟩
  obtain ⟨Hr, hHr⟩ : ∃ H, H = w2.heap.size := ⟨_, rfl⟩
  obtain ⟨B, hB⟩ : ∃ B, B = w2.heap.size + 1 := ⟨_, rfl⟩
  rw [← hH, ← hHr] at ST
  rw [show Hr + 1 = B from by omega] at ST
  rw [← hH]
  clear z2 b2 B1 hH hB
  go_wp2
  rw [← hHr]
  clear hHr
  go_loopw [12] (fun i wr => ∃ (k : Nat) (m : Hm), i = .int .i64 k ∧ k ≤ n ∧ Hid (PI w wr H Hr B m) ∧ Hid (0 ≤ m.turns ∧ m.turns ≤ k)) (fun i _ => n - (intOf i).toNat)
  case atStart => exact ⟨0, emp room, rfl, by omega, ST, Lib.hid ⟨Int.le_refl _, Int.le_refl _⟩⟩
  case round =>
    obtain ⟨k, m, rfl, hk, HP, HTU⟩ := hrel
    clear ST
    by_cases hkn : k < n
    · have hkx : k < acts.length := by have := HA.out.1; omega
      have hkni : (k : Int) < (n : Int) := by omega
      obtain ⟨b, off, rfl, hb, hc⟩ := HA.out.2 (by omega)
      have hac := (hc k hkx).below hb HP.out.bel
      obtain ⟨r, hr⟩ : ∃ r, r = acts[k] := ⟨_, rfl⟩
      rw [← hr] at hac
      obtain ⟨A', n', c', e6, hu⟩ := hac.c6
      have e0 := hac.c0; have e1 := hac.c1; have e2 := hac.c2; have e3 := hac.c3; have e4 := hac.c4; have e5 := hac.c5
      have HRG := Lib.hid hac.rg
      have HXS := Lib.hid hu.2.2.1
      have HU := Lib.hid hu
      have HU2 : Hid (InU w A' n' c' r.l) := Lib.hid (by
        have h0 := hc k hkx
        rw [← hr] at h0
        obtain ⟨A2, n2, c2, f6, hu2⟩ := h0.c6
        have z := (HP.out.bel.cell (p := ⟨b, off + k * 7 + 6, none⟩) hb).trans f6
        rw [e6] at z; injection z with z; injection z with z1 z2 z3
        subst z1 z2 z3; exact hu2)
      clear hc hr hac hu
      by_cases h20 : 20 < n'
      · have dd : decide (20 < (n' : Int)) = true := decide_eq_true (by omega)
        go_wp2
        go_ret
        exact ⟨by rfl, bt HP.out.bel (below_alloc wr _)⟩
      have dd : decide (20 < (n' : Int)) = false := decide_eq_false (by omega)
      have X0 : Hid (XC (wr.alloc (.cells #[.int .i64 r.op, .int .i64 r.kind, .int .i64 r.tag, .int .i64 r.i, .int .u64 r.p, .int .u64 r.x, .slice A' n' c'] 49)) wr.heap.size r A' n' c') := Lib.hid (by
        unfold XC
        show (wr.heap.push _)[wr.heap.size]? = _
        rw [Array.getElem?_push, if_pos rfl])
      have P0 := Lib.hid (HP.out.below (below_alloc wr (.cells #[.int .i64 r.op, .int .i64 r.kind, .int .i64 r.tag, .int .i64 r.i, .int .u64 r.p, .int .u64 r.x, .slice A' n' c'] 49)))
      have HCN0 : Hid (wr.heap.size ≠ H ∧ wr.heap.size ≠ Hr) := Lib.hid ⟨by have := HP.out.hp.lt; omega, by have := HP.out.rh.lt; omega⟩
      by_cases ho : r.op = 0
      · have do0 : (r.op == 0) = true := by rw [ho]; rfl
        clear ho
        go_wp2_with fail
        obtain ⟨w2, hw2⟩ : ∃ z, z = wr.alloc (.cells #[.int .i64 r.op, .int .i64 r.kind, .int .i64 r.tag, .int .i64 r.i, .int .u64 r.p, .int .u64 r.x, .slice A' n' c'] 49) := ⟨_, rfl⟩
        obtain ⟨C, hC⟩ : ∃ z, z = wr.heap.size := ⟨_, rfl⟩
        rw [← hw2, ← hC] at X0
        rw [← hw2] at P0
        rw [← hC] at HCN0
        rw [← hw2, ← hC]
        have HCN := HCN0
        have P2 := Lib.hid (P0.out.below (bdr w2))
        have X2 := Lib.hid (X0.out.below (bdr w2))
        obtain ⟨x0, x1, x2, x3, x4, x5, x6⟩ := X0.out.cells
        have BK := Lib.hid (back_any (HU2.out.below P2.out.bel) (by omega))
        obtain ⟨m2, hm2⟩ : ∃ z, z = makeM m r.kind r.tag r.l := ⟨_, rfl⟩
        obtain ⟨mv, hmv⟩ : ∃ z, z = makeV m r.kind r.tag r.l := ⟨_, rfl⟩
        obtain ⟨me, hme⟩ : ∃ z, z = makeE m r.kind r.tag r.l := ⟨_, rfl⟩
        have HMV := Lib.hid (And.intro hmv (And.intro hme hm2))
        have HT2 : Hid (0 ≤ m2.turns ∧ m2.turns ≤ (k + 1 : Nat)) := Lib.hid (by rw [hm2, (make_room _ _ _ _).2]; have := HTU.out; omega)
        clear hw2 hC e0 e1 e2 e3 e4 e5 e6 X0 P0 HCN0 HP HTU hmv hme hm2
        refine wp_region_held_drew (S := fun w' => w'.cell? ⟨C, 1, none⟩ = some (.int .i64 r.kind) ∧ w'.cell? ⟨C, 2, none⟩ = some (.int .i64 r.tag) ∧ w'.cell? ⟨C, 6, none⟩ = some (.slice A' n' c')) (by kernel_rfl) ?_ (fun hHeld => ?_)
        · (try dsimp only); go_keep
        refine wpAnyH_take (i := 0) (oi := { dst := some 100, op := Go.Op.move (Go.Operand.tmp 9), type := 23, pos := _, after := #[], guard := none }) (v := ?vm0) rfl (by kernel_rfl) (by kernel_rfl) (by kernel_rfl) (fun _ _ _ h => h) (Or.inl ⟨by rfl, ?hym0⟩) (by assumption) ?_
        case hym0 => (intro wz hSw; (try dsimp only at hSw); go_simp; try with_reducible rfl)
        (try simp only [Act.put, List.setIfInBounds_toArray, List.set_cons_zero, List.set_cons_succ])
        refine wpAnyH_take (i := 1) (oi := { dst := some 101, op := Go.Op.fieldAddr 49 (Go.Operand.tmp 13) 1, type := 0, pos := _, after := #[], guard := none }) (v := ?vm1) rfl (by kernel_rfl) (by kernel_rfl) (by kernel_rfl) (fun _ _ _ h => h) (Or.inl ⟨by rfl, ?hym1⟩) (by assumption) ?_
        case hym1 => (intro wz hSw; (try dsimp only at hSw); go_simp; try with_reducible rfl)
        (try simp only [Act.put, List.setIfInBounds_toArray, List.set_cons_zero, List.set_cons_succ])
        refine wpAnyH_take (i := 2) (oi := { dst := some 102, op := Go.Op.load 3 (Go.Operand.tmp 101), type := 3, pos := _, after := #[{ on := 1, ground := Go.Ground.data }], guard := none }) (v := ?vm2) rfl (by kernel_rfl) (by kernel_rfl) (by kernel_rfl) (fun _ _ _ h => h) (Or.inl ⟨by rfl, ?hym2⟩) (by assumption) ?_
        case hym2 => (intro wz hSw; (try dsimp only at hSw); go_simp; try with_reducible rfl)
        (try simp only [Act.put, List.setIfInBounds_toArray, List.set_cons_zero, List.set_cons_succ])
        refine wpAnyH_take (i := 3) (oi := { dst := some 103, op := Go.Op.fieldAddr 49 (Go.Operand.tmp 13) 2, type := 0, pos := _, after := #[], guard := none }) (v := ?vm3) rfl (by kernel_rfl) (by kernel_rfl) (by kernel_rfl) (fun _ _ _ h => h) (Or.inl ⟨by rfl, ?hym3⟩) (by assumption) ?_
        case hym3 => (intro wz hSw; (try dsimp only at hSw); go_simp; try with_reducible rfl)
        (try simp only [Act.put, List.setIfInBounds_toArray, List.set_cons_zero, List.set_cons_succ])
        refine wpAnyH_take (i := 4) (oi := { dst := some 104, op := Go.Op.load 3 (Go.Operand.tmp 103), type := 3, pos := _, after := #[{ on := 3, ground := Go.Ground.data }], guard := none }) (v := ?vm4) rfl (by kernel_rfl) (by kernel_rfl) (by kernel_rfl) (fun _ _ _ h => h) (Or.inl ⟨by rfl, ?hym4⟩) (by assumption) ?_
        case hym4 => (intro wz hSw; (try dsimp only at hSw); go_simp; try with_reducible rfl)
        (try simp only [Act.put, List.setIfInBounds_toArray, List.set_cons_zero, List.set_cons_succ])
        refine wpAnyH_take (i := 5) (oi := { dst := some 105, op := Go.Op.fieldAddr 49 (Go.Operand.tmp 13) 6, type := 0, pos := _, after := #[], guard := none }) (v := ?vm5) rfl (by kernel_rfl) (by kernel_rfl) (by kernel_rfl) (fun _ _ _ h => h) (Or.inl ⟨by rfl, ?hym5⟩) (by assumption) ?_
        case hym5 => (intro wz hSw; (try dsimp only at hSw); go_simp; try with_reducible rfl)
        (try simp only [Act.put, List.setIfInBounds_toArray, List.set_cons_zero, List.set_cons_succ])
        refine wpAnyH_take (i := 6) (oi := { dst := some 106, op := Go.Op.load 45 (Go.Operand.tmp 105), type := 45, pos := _, after := #[{ on := 5, ground := Go.Ground.data }], guard := none }) (v := ?vm6) rfl (by kernel_rfl) (by kernel_rfl) (by kernel_rfl) (fun _ _ _ h => h) (Or.inl ⟨by rfl, ?hym6⟩) (by assumption) ?_
        case hym6 => (intro wz hSw; (try dsimp only at hSw); go_simp; try with_reducible rfl)
        (try simp only [Act.put, List.setIfInBounds_toArray, List.set_cons_zero, List.set_cons_succ])
        refine wpAnyH_ready (rs := [7]) (by kernel_rfl) (by simp) ?_
        refine AllReadyH.cons (o := { dst := some 107, op := Go.Op.call { callee := Go.Callee.value (Go.Operand.func 21), args := #[Go.Operand.tmp 106], argTypes := #[45] }, type := 34, pos := _, after := #[{ on := 6, ground := Go.Ground.data }], guard := none }) rfl (fun K hK => ?_) AllReadyH.nil
        go_simp
        refine BK.out.mono ?_; rintro e w3 ⟨v3, rfl, hv, hbv⟩
        have MK := Lib.hid (make_own P2.out.hp hbv.out hv.out r.kind r.tag HXS.out (by omega))
        rw [← HMV.out.1, ← HMV.out.2.1, ← HMV.out.2.2] at MK
        have cx3 := (X2.out.below hbv.out).cells
        obtain ⟨_, y1, y2, _, _, _, y6⟩ := cx3
        go_wp2_with fail
        refine hK.out _ _ ?_ (fun hHeld => ?_)
        · (try dsimp only); go_keep
        clear hK K
        (try simp only [Act.put, List.setIfInBounds_toArray, List.set_cons_zero, List.set_cons_succ])
        refine wpAnyH_ready (rs := [8]) (by kernel_rfl) (by simp) ?_
        refine AllReadyH.cons (o := { dst := some 108, op := Go.Op.call { callee := Go.Callee.value (Go.Operand.func 11), args := #[Go.Operand.tmp 100, Go.Operand.tmp 102, Go.Operand.tmp 104, Go.Operand.tmp 107], argTypes := #[23, 3, 3, 34] }, type := 29, pos := _, after := #[{ on := 0, ground := Go.Ground.data }, { on := 2, ground := Go.Ground.data }, { on := 4, ground := Go.Ground.data }, { on := 7, ground := Go.Ground.data }, { on := 7, ground := Go.Ground.chain }], guard := none }) rfl (fun K hK => ?_) AllReadyH.nil
        go_simp
        refine MK.out.mono ?_; rintro e w4 ⟨rfl, hp4, hf4⟩
        have P4 := Lib.hid (P2.out.half hp4.out hf4.out)
        have X4 := Lib.hid (X2.out.frm hf4.out (X2.out.hr P2.out.hp HCN.out.1))
        obtain ⟨_, z1, z2, _, _, _, z6⟩ := X4.out.cells
        go_wp2_with fail
        refine hK.out _ _ ?_ (fun hHeld => ?_)
        · (try dsimp only); go_keep
        clear hK K
        (try simp only [Act.put, List.setIfInBounds_toArray, List.set_cons_zero, List.set_cons_succ])
        refine wpAnyH_take (i := 9) (oi := { dst := some 99, op := Go.Op.move (Go.Operand.tmp 108), type := 29, pos := _, after := #[{ on := 8, ground := Go.Ground.data }], guard := none }) (v := ?vm9) rfl (by kernel_rfl) (by kernel_rfl) (by kernel_rfl) (fun _ _ _ h => h) (Or.inl ⟨by rfl, ?hym9⟩) (by assumption) ?_
        case hym9 => (intro wz hSw; (try dsimp only at hSw); go_simp; try with_reducible rfl)
        (try simp only [Act.put, List.setIfInBounds_toArray, List.set_cons_zero, List.set_cons_succ])
        refine wpAnyH_take (i := 10) (oi := { dst := some 109, op := Go.Op.extract (Go.Operand.tmp 99) 0, type := 28, pos := _, after := #[{ on := 9, ground := Go.Ground.data }], guard := none }) (v := ?vm10) rfl (by kernel_rfl) (by kernel_rfl) (by kernel_rfl) (fun _ _ _ h => h) (Or.inl ⟨by rfl, ?hym10⟩) (by assumption) ?_
        case hym10 => (intro wz hSw; (try dsimp only at hSw); go_simp; try with_reducible rfl)
        (try simp only [Act.put, List.setIfInBounds_toArray, List.set_cons_zero, List.set_cons_succ])
        refine wpAnyH_take (i := 11) (oi := { dst := some 110, op := Go.Op.extract (Go.Operand.tmp 99) 1, type := 24, pos := _, after := #[{ on := 9, ground := Go.Ground.data }, { on := 12, ground := Go.Ground.gcOnly Go.Departure.lateStores }], guard := none }) (v := ?vm11) rfl (by kernel_rfl) (by kernel_rfl) (by kernel_rfl) (fun _ _ _ h => h) (Or.inl ⟨by rfl, ?hym11⟩) (by assumption) ?_
        case hym11 => (intro wz hSw; (try dsimp only at hSw); go_simp; try with_reducible rfl)
        (try simp only [Act.put, List.setIfInBounds_toArray, List.set_cons_zero, List.set_cons_succ])
        refine wpAnyH_take (i := 12) (oi := { dst := some 15, op := Go.Op.assign (Go.Operand.tmp 109), type := 28, pos := _, after := #[{ on := 10, ground := Go.Ground.data }, { on := 8, ground := Go.Ground.chain }, { on := 0, ground := Go.Ground.phase }, { on := 1, ground := Go.Ground.phase }, { on := 2, ground := Go.Ground.phase }, { on := 3, ground := Go.Ground.phase }, { on := 4, ground := Go.Ground.phase }, { on := 5, ground := Go.Ground.phase }, { on := 6, ground := Go.Ground.phase }, { on := 7, ground := Go.Ground.phase }, { on := 8, ground := Go.Ground.phase }, { on := 9, ground := Go.Ground.phase }, { on := 10, ground := Go.Ground.phase }, { on := 11, ground := Go.Ground.textOnly Go.Departure.lateStores }], guard := none }) (v := ?vm12) rfl (by kernel_rfl) (by kernel_rfl) (by kernel_rfl) (fun _ _ _ h => h) (Or.inl ⟨by rfl, ?hym12⟩) (by assumption) ?_
        case hym12 => (intro wz hSw; (try dsimp only at hSw); go_simp; try with_reducible rfl)
        (try simp only [Act.put, List.setIfInBounds_toArray, List.set_cons_zero, List.set_cons_succ])
        refine wpAnyH_take (i := 13) (oi := { dst := some 16, op := Go.Op.assign (Go.Operand.tmp 110), type := 24, pos := _, after := #[{ on := 11, ground := Go.Ground.data }, { on := 12, ground := Go.Ground.chain }, { on := 0, ground := Go.Ground.phase }, { on := 1, ground := Go.Ground.phase }, { on := 2, ground := Go.Ground.phase }, { on := 3, ground := Go.Ground.phase }, { on := 4, ground := Go.Ground.phase }, { on := 5, ground := Go.Ground.phase }, { on := 6, ground := Go.Ground.phase }, { on := 7, ground := Go.Ground.phase }, { on := 8, ground := Go.Ground.phase }, { on := 9, ground := Go.Ground.phase }, { on := 10, ground := Go.Ground.phase }, { on := 11, ground := Go.Ground.phase }, { on := 12, ground := Go.Ground.phase }], guard := none }) (v := ?vm13) rfl (by kernel_rfl) (by kernel_rfl) (by kernel_rfl) (fun _ _ _ h => h) (Or.inl ⟨by rfl, ?hym13⟩) (by assumption) ?_
        case hym13 => (intro wz hSw; (try dsimp only at hSw); go_simp; try with_reducible rfl)
        (try simp only [Act.put, List.setIfInBounds_toArray, List.set_cons_zero, List.set_cons_succ])
        refine wpAnyH_done (by kernel_rfl) ?_ _
        clear hHeld BK MK X2 P2
        have RM := Lib.hid (rmake_any P4.out.rh (HU2.out.below P4.out.bel) r.kind r.tag (by omega) P4.out.rh.hB)
        rw [← HMV.out.1, ← HMV.out.2.1, ← HMV.out.2.2] at RM
        go_wp2_with fail
        refine RM.out.mono ?_; rintro e w5 ⟨rfl, hr5, hf5⟩
        have P5 := Lib.hid (P4.out.whole hr5.out (frm_R hf5.out))
        clear RM hr5 hf5 HMV P4 X4 z1 z2 z6 x0 x1 x2 x3 x4 x5 x6
        as_aux_lemma =>
          have GE := Lib.hid (get_any P5.out.hp p ai HPU.out HAI.out.1 HAI.out.2)
          have RG := Lib.hid (rget_any P5.out.rh p ai HPU.out HAI.out)
          have HE := Lib.hid (hhead_any P5.out.hp p HPU.out)
          have RE := Lib.hid (rhead_of P5.out.rh p HPU.out)
          obtain ⟨g1, hg1⟩ : ∃ z, z = (getR m2 p ai).1 := ⟨_, rfl⟩
          obtain ⟨g2, hg2⟩ : ∃ z, z = (getR m2 p ai).2 := ⟨_, rfl⟩
          obtain ⟨g3, hg3⟩ : ∃ z, z = (headR m2 p).1 := ⟨_, rfl⟩
          obtain ⟨g4, hg4⟩ : ∃ z, z = (headR m2 p).2.1 := ⟨_, rfl⟩
          obtain ⟨g5, hg5⟩ : ∃ z, z = (headR m2 p).2.2.1 := ⟨_, rfl⟩
          obtain ⟨g6, hg6⟩ : ∃ z, z = (headR m2 p).2.2.2 := ⟨_, rfl⟩
          rw [← hg1, ← hg2] at GE RG
          rw [← hg3, ← hg4, ← hg5, ← hg6] at HE RE
          clear hg1 hg2 hg3 hg4 hg5 hg6
          go_wp2_with fail
          refine GE.out.mono ?_; rintro e w9 ⟨rfl, rfl⟩
          go_wp2_with fail
          refine RG.out.mono ?_; rintro e w9 ⟨rfl, rfl⟩
          go_wp2_with fail
          refine HE.out.mono ?_; rintro e w9 ⟨rfl, rfl⟩
          go_wp2_with fail
          refine RE.out.mono ?_; rintro e w9 ⟨rfl, rfl⟩
          clear GE RG HE RE
          have PD := Lib.hid (P5.out.below (bdr w5))
          obtain ⟨AR, cR, r0, r1x, r2, _, _, _⟩ := P5.out.rh.cells
          have US := Lib.hid (used_any PD.out.hp)
          have TU := Lib.hid (turns_any PD.out.hp)
          have PU := Lib.hid (putH_any PD.out.hp)
          obtain ⟨LL, hLL⟩ : ∃ z, z = m2.ws.length := ⟨_, rfl⟩
          obtain ⟨tt, htt⟩ : ∃ z, z = m2.turns := ⟨_, rfl⟩
          obtain ⟨SS, hSS⟩ : ∃ z, z = strOfNums (encM m2) := ⟨_, rfl⟩
          rw [← hLL] at US r1x
          rw [← htt] at TU r2
          have ESS := Lib.hid hSS
          have RCL : Hid (∀ W, Below w5.drew.heap.size w5.drew W → W.cell? ⟨Hr, 1, none⟩ = some (.slice AR LL cR) ∧ W.cell? ⟨Hr, 2, none⟩ = some (.int .i64 tt)) := Lib.hid (fun W hb => ⟨(hb.cell (p := ⟨Hr, 1, none⟩) PD.out.rh.lt).trans r1x, (hb.cell (p := ⟨Hr, 2, none⟩) PD.out.rh.lt).trans r2⟩)
          have r1 := r1x
          clear hLL htt hSS r0 r1x
          go_wp2_with fail
          refine wp_region_held_drew (S := fun w' => w'.cell? ⟨Hr, 1, none⟩ = some (.slice AR LL cR) ∧ w'.cell? ⟨Hr, 2, none⟩ = some (.int .i64 tt)) (by kernel_rfl) ?_ (fun hHeld => ?_)
          · (try dsimp only); go_keep
          refine wpAnyH_take (i := 0) (oi := { dst := some 179, op := Go.Op.move (Go.Operand.tmp 14), type := 4, pos := _, after := #[], guard := none }) (v := ?vx0) rfl (by kernel_rfl) (by kernel_rfl) (by kernel_rfl) (fun _ _ _ h => h) (Or.inl ⟨by rfl, ?hyx0⟩) (by assumption) ?_
          case hyx0 => (intro wz hSw; (try dsimp only at hSw); go_simp; try with_reducible rfl)
          (try simp only [Act.put, List.setIfInBounds_toArray, List.set_cons_zero, List.set_cons_succ])
          refine wpAnyH_take (i := 1) (oi := { dst := some 180, op := Go.Op.unOp Go.UnOp.not 4 (Go.Operand.tmp 179), type := 4, pos := _, after := #[{ on := 0, ground := Go.Ground.data }], guard := none }) (v := ?vx1) rfl (by kernel_rfl) (by kernel_rfl) (by kernel_rfl) (fun _ _ _ h => h) (Or.inl ⟨by rfl, ?hyx1⟩) (by assumption) ?_
          case hyx1 => (intro wz hSw; (try dsimp only at hSw); go_simp; try with_reducible rfl)
          (try simp only [Act.put, List.setIfInBounds_toArray, List.set_cons_zero, List.set_cons_succ])
          refine wpAnyH_take (i := 2) (oi := { dst := some 181, op := Go.Op.move (Go.Operand.tmp 180), type := 4, pos := _, after := #[{ on := 1, ground := Go.Ground.data }], guard := none }) (v := ?vx2) rfl (by kernel_rfl) (by kernel_rfl) (by kernel_rfl) (fun _ _ _ h => h) (Or.inl ⟨by rfl, ?hyx2⟩) (by assumption) ?_
          case hyx2 => (intro wz hSw; (try dsimp only at hSw); go_simp; try with_reducible rfl)
          (try simp only [Act.put, List.setIfInBounds_toArray, List.set_cons_zero, List.set_cons_succ])
          refine wpAnyH_take (i := 3) (oi := { dst := some 182, op := Go.Op.move (Go.Operand.tmp 19), type := 28, pos := _, after := #[{ on := 2, ground := Go.Ground.guard }], guard := some (2, false) }) (v := ?vx3) rfl (by kernel_rfl) (by kernel_rfl) (by kernel_rfl) (fun _ _ _ h => h) (Or.inl ⟨by rfl, ?hyx3⟩) (by assumption) ?_
          case hyx3 => (intro wz hSw; (try dsimp only at hSw); go_simp; try with_reducible rfl)
          (try simp only [Act.put, List.setIfInBounds_toArray, List.set_cons_zero, List.set_cons_succ])
          refine wpAnyH_take (i := 4) (oi := { dst := some 183, op := Go.Op.move (Go.Operand.tmp 21), type := 27, pos := _, after := #[{ on := 2, ground := Go.Ground.guard }], guard := some (2, false) }) (v := ?vx4) rfl (by kernel_rfl) (by kernel_rfl) (by kernel_rfl) (fun _ _ _ h => h) (Or.inl ⟨by rfl, ?hyx4⟩) (by assumption) ?_
          case hyx4 => (intro wz hSw; (try dsimp only at hSw); go_simp; try with_reducible rfl)
          (try simp only [Act.put, List.setIfInBounds_toArray, List.set_cons_zero, List.set_cons_succ])
          refine wpAnyH_take (i := 5) (oi := { dst := some 184, op := Go.Op.binOp Go.BinOp.neq 27 (Go.Operand.tmp 182) (Go.Operand.tmp 183) 27, type := 4, pos := _, after := #[{ on := 3, ground := Go.Ground.data }, { on := 4, ground := Go.Ground.data }, { on := 2, ground := Go.Ground.guard }], guard := some (2, false) }) (v := ?vx5) rfl (by kernel_rfl) (by kernel_rfl) (by kernel_rfl) (fun _ _ _ h => h) (Or.inl ⟨by rfl, ?hyx5⟩) (by assumption) ?_
          case hyx5 => (intro wz hSw; (try dsimp only at hSw); go_simp; try with_reducible rfl)
          (try simp only [Act.put, List.setIfInBounds_toArray, List.set_cons_zero, List.set_cons_succ])
          refine wpAnyH_take (i := 6) (oi := { dst := some 185, op := Go.Op.pick (Go.Operand.tmp 181) (Go.Operand.const (Go.Value.bool true)) (Go.Operand.tmp 184), type := 4, pos := _, after := #[{ on := 2, ground := Go.Ground.data }, { on := 5, ground := Go.Ground.data }], guard := none }) (v := ?vx6) rfl (by kernel_rfl) (by kernel_rfl) (by kernel_rfl) (fun _ _ _ h => h) (Or.inl ⟨by rfl, ?hyx6⟩) (by assumption) ?_
          case hyx6 => (intro wz hSw; (try dsimp only at hSw); go_simp; try with_reducible rfl)
          (try simp only [Act.put, List.setIfInBounds_toArray, List.set_cons_zero, List.set_cons_succ])
          refine wpAnyH_take (i := 7) (oi := { dst := some 186, op := Go.Op.move (Go.Operand.tmp 185), type := 4, pos := _, after := #[{ on := 6, ground := Go.Ground.data }, { on := 2, ground := Go.Ground.chain }], guard := none }) (v := ?vx7) rfl (by kernel_rfl) (by kernel_rfl) (by kernel_rfl) (fun _ _ _ h => h) (Or.inl ⟨by rfl, ?hyx7⟩) (by assumption) ?_
          case hyx7 => (intro wz hSw; (try dsimp only at hSw); go_simp; try with_reducible rfl)
          (try simp only [Act.put, List.setIfInBounds_toArray, List.set_cons_zero, List.set_cons_succ])
          refine wpAnyH_take (i := 8) (oi := { dst := some 187, op := Go.Op.move (Go.Operand.tmp 20), type := 24, pos := _, after := #[{ on := 7, ground := Go.Ground.guard }], guard := some (7, false) }) (v := ?vx8) rfl (by kernel_rfl) (by kernel_rfl) (by kernel_rfl) (fun _ _ _ h => h) (Or.inl ⟨by rfl, ?hyx8⟩) (by assumption) ?_
          case hyx8 => (intro wz hSw; (try dsimp only at hSw); go_simp; try with_reducible rfl)
          (try simp only [Act.put, List.setIfInBounds_toArray, List.set_cons_zero, List.set_cons_succ])
          refine wpAnyH_take (i := 9) (oi := { dst := some 188, op := Go.Op.move (Go.Operand.tmp 22), type := 24, pos := _, after := #[{ on := 7, ground := Go.Ground.guard }], guard := some (7, false) }) (v := ?vx9) rfl (by kernel_rfl) (by kernel_rfl) (by kernel_rfl) (fun _ _ _ h => h) (Or.inl ⟨by rfl, ?hyx9⟩) (by assumption) ?_
          case hyx9 => (intro wz hSw; (try dsimp only at hSw); go_simp; try with_reducible rfl)
          (try simp only [Act.put, List.setIfInBounds_toArray, List.set_cons_zero, List.set_cons_succ])
          refine wpAnyH_take (i := 10) (oi := { dst := some 189, op := Go.Op.binOp Go.BinOp.neq 24 (Go.Operand.tmp 187) (Go.Operand.tmp 188) 24, type := 4, pos := _, after := #[{ on := 8, ground := Go.Ground.data }, { on := 9, ground := Go.Ground.data }, { on := 7, ground := Go.Ground.guard }], guard := some (7, false) }) (v := ?vx10) rfl (by kernel_rfl) (by kernel_rfl) (by kernel_rfl) (fun _ _ _ h => h) (Or.inl ⟨by rfl, ?hyx10⟩) (by assumption) ?_
          case hyx10 => (intro wz hSw; (try dsimp only at hSw); go_simp; try with_reducible rfl)
          (try simp only [Act.put, List.setIfInBounds_toArray, List.set_cons_zero, List.set_cons_succ])
          refine wpAnyH_take (i := 11) (oi := { dst := some 190, op := Go.Op.pick (Go.Operand.tmp 186) (Go.Operand.const (Go.Value.bool true)) (Go.Operand.tmp 189), type := 4, pos := _, after := #[{ on := 7, ground := Go.Ground.data }, { on := 10, ground := Go.Ground.data }], guard := none }) (v := ?vx11) rfl (by kernel_rfl) (by kernel_rfl) (by kernel_rfl) (fun _ _ _ h => h) (Or.inl ⟨by rfl, ?hyx11⟩) (by assumption) ?_
          case hyx11 => (intro wz hSw; (try dsimp only at hSw); go_simp; try with_reducible rfl)
          (try simp only [Act.put, List.setIfInBounds_toArray, List.set_cons_zero, List.set_cons_succ])
          refine wpAnyH_take (i := 12) (oi := { dst := some 191, op := Go.Op.move (Go.Operand.tmp 190), type := 4, pos := _, after := #[{ on := 11, ground := Go.Ground.data }, { on := 7, ground := Go.Ground.chain }], guard := none }) (v := ?vx12) rfl (by kernel_rfl) (by kernel_rfl) (by kernel_rfl) (fun _ _ _ h => h) (Or.inl ⟨by rfl, ?hyx12⟩) (by assumption) ?_
          case hyx12 => (intro wz hSw; (try dsimp only at hSw); go_simp; try with_reducible rfl)
          (try simp only [Act.put, List.setIfInBounds_toArray, List.set_cons_zero, List.set_cons_succ])
          refine wpAnyH_take (i := 13) (oi := { dst := some 192, op := Go.Op.move (Go.Operand.tmp 23), type := 3, pos := _, after := #[{ on := 12, ground := Go.Ground.guard }], guard := some (12, false) }) (v := ?vx13) rfl (by kernel_rfl) (by kernel_rfl) (by kernel_rfl) (fun _ _ _ h => h) (Or.inl ⟨by rfl, ?hyx13⟩) (by assumption) ?_
          case hyx13 => (intro wz hSw; (try dsimp only at hSw); go_simp; try with_reducible rfl)
          (try simp only [Act.put, List.setIfInBounds_toArray, List.set_cons_zero, List.set_cons_succ])
          refine wpAnyH_take (i := 14) (oi := { dst := some 193, op := Go.Op.move (Go.Operand.tmp 27), type := 3, pos := _, after := #[{ on := 12, ground := Go.Ground.guard }], guard := some (12, false) }) (v := ?vx14) rfl (by kernel_rfl) (by kernel_rfl) (by kernel_rfl) (fun _ _ _ h => h) (Or.inl ⟨by rfl, ?hyx14⟩) (by assumption) ?_
          case hyx14 => (intro wz hSw; (try dsimp only at hSw); go_simp; try with_reducible rfl)
          (try simp only [Act.put, List.setIfInBounds_toArray, List.set_cons_zero, List.set_cons_succ])
          refine wpAnyH_take (i := 15) (oi := { dst := some 194, op := Go.Op.binOp Go.BinOp.neq 3 (Go.Operand.tmp 192) (Go.Operand.tmp 193) 3, type := 4, pos := _, after := #[{ on := 13, ground := Go.Ground.data }, { on := 14, ground := Go.Ground.data }, { on := 12, ground := Go.Ground.guard }], guard := some (12, false) }) (v := ?vx15) rfl (by kernel_rfl) (by kernel_rfl) (by kernel_rfl) (fun _ _ _ h => h) (Or.inl ⟨by rfl, ?hyx15⟩) (by assumption) ?_
          case hyx15 => (intro wz hSw; (try dsimp only at hSw); go_simp; try with_reducible rfl)
          (try simp only [Act.put, List.setIfInBounds_toArray, List.set_cons_zero, List.set_cons_succ])
          refine wpAnyH_take (i := 16) (oi := { dst := some 195, op := Go.Op.pick (Go.Operand.tmp 191) (Go.Operand.const (Go.Value.bool true)) (Go.Operand.tmp 194), type := 4, pos := _, after := #[{ on := 12, ground := Go.Ground.data }, { on := 15, ground := Go.Ground.data }], guard := none }) (v := ?vx16) rfl (by kernel_rfl) (by kernel_rfl) (by kernel_rfl) (fun _ _ _ h => h) (Or.inl ⟨by rfl, ?hyx16⟩) (by assumption) ?_
          case hyx16 => (intro wz hSw; (try dsimp only at hSw); go_simp; try with_reducible rfl)
          (try simp only [Act.put, List.setIfInBounds_toArray, List.set_cons_zero, List.set_cons_succ])
          refine wpAnyH_take (i := 17) (oi := { dst := some 196, op := Go.Op.move (Go.Operand.tmp 195), type := 4, pos := _, after := #[{ on := 16, ground := Go.Ground.data }, { on := 12, ground := Go.Ground.chain }], guard := none }) (v := ?vx17) rfl (by kernel_rfl) (by kernel_rfl) (by kernel_rfl) (fun _ _ _ h => h) (Or.inl ⟨by rfl, ?hyx17⟩) (by assumption) ?_
          case hyx17 => (intro wz hSw; (try dsimp only at hSw); go_simp; try with_reducible rfl)
          (try simp only [Act.put, List.setIfInBounds_toArray, List.set_cons_zero, List.set_cons_succ])
          refine wpAnyH_take (i := 18) (oi := { dst := some 197, op := Go.Op.move (Go.Operand.tmp 24), type := 3, pos := _, after := #[{ on := 17, ground := Go.Ground.guard }], guard := some (17, false) }) (v := ?vx18) rfl (by kernel_rfl) (by kernel_rfl) (by kernel_rfl) (fun _ _ _ h => h) (Or.inl ⟨by rfl, ?hyx18⟩) (by assumption) ?_
          case hyx18 => (intro wz hSw; (try dsimp only at hSw); go_simp; try with_reducible rfl)
          (try simp only [Act.put, List.setIfInBounds_toArray, List.set_cons_zero, List.set_cons_succ])
          refine wpAnyH_take (i := 19) (oi := { dst := some 198, op := Go.Op.move (Go.Operand.tmp 28), type := 3, pos := _, after := #[{ on := 17, ground := Go.Ground.guard }], guard := some (17, false) }) (v := ?vx19) rfl (by kernel_rfl) (by kernel_rfl) (by kernel_rfl) (fun _ _ _ h => h) (Or.inl ⟨by rfl, ?hyx19⟩) (by assumption) ?_
          case hyx19 => (intro wz hSw; (try dsimp only at hSw); go_simp; try with_reducible rfl)
          (try simp only [Act.put, List.setIfInBounds_toArray, List.set_cons_zero, List.set_cons_succ])
          refine wpAnyH_take (i := 20) (oi := { dst := some 199, op := Go.Op.binOp Go.BinOp.neq 3 (Go.Operand.tmp 197) (Go.Operand.tmp 198) 3, type := 4, pos := _, after := #[{ on := 18, ground := Go.Ground.data }, { on := 19, ground := Go.Ground.data }, { on := 17, ground := Go.Ground.guard }], guard := some (17, false) }) (v := ?vx20) rfl (by kernel_rfl) (by kernel_rfl) (by kernel_rfl) (fun _ _ _ h => h) (Or.inl ⟨by rfl, ?hyx20⟩) (by assumption) ?_
          case hyx20 => (intro wz hSw; (try dsimp only at hSw); go_simp; try with_reducible rfl)
          (try simp only [Act.put, List.setIfInBounds_toArray, List.set_cons_zero, List.set_cons_succ])
          refine wpAnyH_take (i := 21) (oi := { dst := some 200, op := Go.Op.pick (Go.Operand.tmp 196) (Go.Operand.const (Go.Value.bool true)) (Go.Operand.tmp 199), type := 4, pos := _, after := #[{ on := 17, ground := Go.Ground.data }, { on := 20, ground := Go.Ground.data }], guard := none }) (v := ?vx21) rfl (by kernel_rfl) (by kernel_rfl) (by kernel_rfl) (fun _ _ _ h => h) (Or.inl ⟨by rfl, ?hyx21⟩) (by assumption) ?_
          case hyx21 => (intro wz hSw; (try dsimp only at hSw); go_simp; try with_reducible rfl)
          (try simp only [Act.put, List.setIfInBounds_toArray, List.set_cons_zero, List.set_cons_succ])
          refine wpAnyH_take (i := 22) (oi := { dst := some 201, op := Go.Op.move (Go.Operand.tmp 200), type := 4, pos := _, after := #[{ on := 21, ground := Go.Ground.data }, { on := 17, ground := Go.Ground.chain }], guard := none }) (v := ?vx22) rfl (by kernel_rfl) (by kernel_rfl) (by kernel_rfl) (fun _ _ _ h => h) (Or.inl ⟨by rfl, ?hyx22⟩) (by assumption) ?_
          case hyx22 => (intro wz hSw; (try dsimp only at hSw); go_simp; try with_reducible rfl)
          (try simp only [Act.put, List.setIfInBounds_toArray, List.set_cons_zero, List.set_cons_succ])
          refine wpAnyH_take (i := 23) (oi := { dst := some 202, op := Go.Op.move (Go.Operand.tmp 25), type := 3, pos := _, after := #[{ on := 22, ground := Go.Ground.guard }], guard := some (22, false) }) (v := ?vx23) rfl (by kernel_rfl) (by kernel_rfl) (by kernel_rfl) (fun _ _ _ h => h) (Or.inl ⟨by rfl, ?hyx23⟩) (by assumption) ?_
          case hyx23 => (intro wz hSw; (try dsimp only at hSw); go_simp; try with_reducible rfl)
          (try simp only [Act.put, List.setIfInBounds_toArray, List.set_cons_zero, List.set_cons_succ])
          refine wpAnyH_take (i := 24) (oi := { dst := some 203, op := Go.Op.move (Go.Operand.tmp 29), type := 3, pos := _, after := #[{ on := 22, ground := Go.Ground.guard }], guard := some (22, false) }) (v := ?vx24) rfl (by kernel_rfl) (by kernel_rfl) (by kernel_rfl) (fun _ _ _ h => h) (Or.inl ⟨by rfl, ?hyx24⟩) (by assumption) ?_
          case hyx24 => (intro wz hSw; (try dsimp only at hSw); go_simp; try with_reducible rfl)
          (try simp only [Act.put, List.setIfInBounds_toArray, List.set_cons_zero, List.set_cons_succ])
          refine wpAnyH_take (i := 25) (oi := { dst := some 204, op := Go.Op.binOp Go.BinOp.neq 3 (Go.Operand.tmp 202) (Go.Operand.tmp 203) 3, type := 4, pos := _, after := #[{ on := 23, ground := Go.Ground.data }, { on := 24, ground := Go.Ground.data }, { on := 22, ground := Go.Ground.guard }], guard := some (22, false) }) (v := ?vx25) rfl (by kernel_rfl) (by kernel_rfl) (by kernel_rfl) (fun _ _ _ h => h) (Or.inl ⟨by rfl, ?hyx25⟩) (by assumption) ?_
          case hyx25 => (intro wz hSw; (try dsimp only at hSw); go_simp; try with_reducible rfl)
          (try simp only [Act.put, List.setIfInBounds_toArray, List.set_cons_zero, List.set_cons_succ])
          refine wpAnyH_take (i := 26) (oi := { dst := some 205, op := Go.Op.pick (Go.Operand.tmp 201) (Go.Operand.const (Go.Value.bool true)) (Go.Operand.tmp 204), type := 4, pos := _, after := #[{ on := 22, ground := Go.Ground.data }, { on := 25, ground := Go.Ground.data }], guard := none }) (v := ?vx26) rfl (by kernel_rfl) (by kernel_rfl) (by kernel_rfl) (fun _ _ _ h => h) (Or.inl ⟨by rfl, ?hyx26⟩) (by assumption) ?_
          case hyx26 => (intro wz hSw; (try dsimp only at hSw); go_simp; try with_reducible rfl)
          (try simp only [Act.put, List.setIfInBounds_toArray, List.set_cons_zero, List.set_cons_succ])
          refine wpAnyH_take (i := 27) (oi := { dst := some 206, op := Go.Op.move (Go.Operand.tmp 205), type := 4, pos := _, after := #[{ on := 26, ground := Go.Ground.data }, { on := 22, ground := Go.Ground.chain }], guard := none }) (v := ?vx27) rfl (by kernel_rfl) (by kernel_rfl) (by kernel_rfl) (fun _ _ _ h => h) (Or.inl ⟨by rfl, ?hyx27⟩) (by assumption) ?_
          case hyx27 => (intro wz hSw; (try dsimp only at hSw); go_simp; try with_reducible rfl)
          (try simp only [Act.put, List.setIfInBounds_toArray, List.set_cons_zero, List.set_cons_succ])
          refine wpAnyH_take (i := 28) (oi := { dst := some 207, op := Go.Op.move (Go.Operand.tmp 26), type := 24, pos := _, after := #[{ on := 27, ground := Go.Ground.guard }], guard := some (27, false) }) (v := ?vx28) rfl (by kernel_rfl) (by kernel_rfl) (by kernel_rfl) (fun _ _ _ h => h) (Or.inl ⟨by rfl, ?hyx28⟩) (by assumption) ?_
          case hyx28 => (intro wz hSw; (try dsimp only at hSw); go_simp; try with_reducible rfl)
          (try simp only [Act.put, List.setIfInBounds_toArray, List.set_cons_zero, List.set_cons_succ])
          refine wpAnyH_take (i := 29) (oi := { dst := some 208, op := Go.Op.move (Go.Operand.tmp 30), type := 24, pos := _, after := #[{ on := 27, ground := Go.Ground.guard }], guard := some (27, false) }) (v := ?vx29) rfl (by kernel_rfl) (by kernel_rfl) (by kernel_rfl) (fun _ _ _ h => h) (Or.inl ⟨by rfl, ?hyx29⟩) (by assumption) ?_
          case hyx29 => (intro wz hSw; (try dsimp only at hSw); go_simp; try with_reducible rfl)
          (try simp only [Act.put, List.setIfInBounds_toArray, List.set_cons_zero, List.set_cons_succ])
          refine wpAnyH_take (i := 30) (oi := { dst := some 209, op := Go.Op.binOp Go.BinOp.neq 24 (Go.Operand.tmp 207) (Go.Operand.tmp 208) 24, type := 4, pos := _, after := #[{ on := 28, ground := Go.Ground.data }, { on := 29, ground := Go.Ground.data }, { on := 27, ground := Go.Ground.guard }], guard := some (27, false) }) (v := ?vx30) rfl (by kernel_rfl) (by kernel_rfl) (by kernel_rfl) (fun _ _ _ h => h) (Or.inl ⟨by rfl, ?hyx30⟩) (by assumption) ?_
          case hyx30 => (intro wz hSw; (try dsimp only at hSw); go_simp; try with_reducible rfl)
          (try simp only [Act.put, List.setIfInBounds_toArray, List.set_cons_zero, List.set_cons_succ])
          refine wpAnyH_take (i := 31) (oi := { dst := some 210, op := Go.Op.pick (Go.Operand.tmp 206) (Go.Operand.const (Go.Value.bool true)) (Go.Operand.tmp 209), type := 4, pos := _, after := #[{ on := 27, ground := Go.Ground.data }, { on := 30, ground := Go.Ground.data }], guard := none }) (v := ?vx31) rfl (by kernel_rfl) (by kernel_rfl) (by kernel_rfl) (fun _ _ _ h => h) (Or.inl ⟨by rfl, ?hyx31⟩) (by assumption) ?_
          case hyx31 => (intro wz hSw; (try dsimp only at hSw); go_simp; try with_reducible rfl)
          (try simp only [Act.put, List.setIfInBounds_toArray, List.set_cons_zero, List.set_cons_succ])
          refine wpAnyH_take (i := 32) (oi := { dst := some 211, op := Go.Op.move (Go.Operand.tmp 210), type := 4, pos := _, after := #[{ on := 31, ground := Go.Ground.data }, { on := 27, ground := Go.Ground.chain }], guard := none }) (v := ?vx32) rfl (by kernel_rfl) (by kernel_rfl) (by kernel_rfl) (fun _ _ _ h => h) (Or.inl ⟨by rfl, ?hyx32⟩) (by assumption) ?_
          case hyx32 => (intro wz hSw; (try dsimp only at hSw); go_simp; try with_reducible rfl)
          (try simp only [Act.put, List.setIfInBounds_toArray, List.set_cons_zero, List.set_cons_succ])
          refine wpAnyH_take (i := 33) (oi := { dst := some 212, op := Go.Op.move (Go.Operand.tmp 9), type := 23, pos := _, after := #[{ on := 32, ground := Go.Ground.guard }], guard := some (32, false) }) (v := ?vx33) rfl (by kernel_rfl) (by kernel_rfl) (by kernel_rfl) (fun _ _ _ h => h) (Or.inl ⟨by rfl, ?hyx33⟩) (by assumption) ?_
          case hyx33 => (intro wz hSw; (try dsimp only at hSw); go_simp; try with_reducible rfl)
          (try simp only [Act.put, List.setIfInBounds_toArray, List.set_cons_zero, List.set_cons_succ])
          refine wpAnyH_take (i := 35) (oi := { dst := some 214, op := Go.Op.move (Go.Operand.tmp 11), type := 44, pos := _, after := #[{ on := 32, ground := Go.Ground.guard }], guard := some (32, false) }) (v := ?vx35) rfl (by kernel_rfl) (by kernel_rfl) (by kernel_rfl) (fun _ _ _ h => h) (Or.inl ⟨by rfl, ?hyx35⟩) (by assumption) ?_
          case hyx35 => (intro wz hSw; (try dsimp only at hSw); go_simp; try with_reducible rfl)
          (try simp only [Act.put, List.setIfInBounds_toArray, List.set_cons_zero, List.set_cons_succ])
          refine wpAnyH_take (i := 36) (oi := { dst := some 215, op := Go.Op.nilCheck (Go.Operand.tmp 214), type := 0, pos := _, after := #[{ on := 35, ground := Go.Ground.data }, { on := 32, ground := Go.Ground.guard }], guard := some (32, false) }) (v := ?vx36) rfl (by kernel_rfl) (by kernel_rfl) (by kernel_rfl) (fun _ _ _ h => h) (Or.inl ⟨by rfl, ?hyx36⟩) (by assumption) ?_
          case hyx36 => (intro wz hSw; (try dsimp only at hSw); go_simp; try with_reducible rfl)
          (try simp only [Act.put, List.setIfInBounds_toArray, List.set_cons_zero, List.set_cons_succ])
          refine wpAnyH_take (i := 37) (oi := { dst := some 216, op := Go.Op.fieldAddr 47 (Go.Operand.tmp 215) 1, type := 0, pos := _, after := #[{ on := 36, ground := Go.Ground.data }, { on := 32, ground := Go.Ground.guard }], guard := some (32, false) }) (v := ?vx37) rfl (by kernel_rfl) (by kernel_rfl) (by kernel_rfl) (fun _ _ _ h => h) (Or.inl ⟨by rfl, ?hyx37⟩) (by assumption) ?_
          case hyx37 => (intro wz hSw; (try dsimp only at hSw); go_simp; try with_reducible rfl)
          (try simp only [Act.put, List.setIfInBounds_toArray, List.set_cons_zero, List.set_cons_succ])
          refine wpAnyH_take (i := 38) (oi := { dst := some 217, op := Go.Op.load 45 (Go.Operand.tmp 216), type := 45, pos := _, after := #[{ on := 37, ground := Go.Ground.data }, { on := 32, ground := Go.Ground.guard }], guard := some (32, false) }) (v := ?vx38) rfl (by kernel_rfl) (by kernel_rfl) (by kernel_rfl) (fun _ _ _ h => h) (Or.inl ⟨by rfl, ?hyx38⟩) (by assumption) ?_
          case hyx38 => (intro wz hSw; (try dsimp only at hSw); go_simp; try with_reducible rfl)
          (try simp only [Act.put, List.setIfInBounds_toArray, List.set_cons_zero, List.set_cons_succ])
          refine wpAnyH_take (i := 39) (oi := { dst := some 218, op := Go.Op.call { callee := Go.Callee.builtin Go.Builtin.len, args := #[Go.Operand.tmp 217], argTypes := #[45] }, type := 3, pos := _, after := #[{ on := 38, ground := Go.Ground.data }, { on := 32, ground := Go.Ground.guard }], guard := some (32, false) }) (v := ?vx39) rfl (by kernel_rfl) (by kernel_rfl) (by kernel_rfl) (fun _ _ _ h => h) (Or.inl ⟨by rfl, ?hyx39⟩) (by assumption) ?_
          case hyx39 => (intro wz hSw; (try dsimp only at hSw); go_simp; try with_reducible rfl)
          (try simp only [Act.put, List.setIfInBounds_toArray, List.set_cons_zero, List.set_cons_succ])
          refine wpAnyH_ready (rs := [34]) (by kernel_rfl) (by simp) ?_
          refine AllReadyH.cons (o := { dst := some 213, op := Go.Op.call { callee := Go.Callee.value (Go.Operand.func 29), args := #[Go.Operand.tmp 212], argTypes := #[23] }, type := 3, pos := _, after := #[{ on := 33, ground := Go.Ground.data }, { on := 32, ground := Go.Ground.chain }, { on := 32, ground := Go.Ground.guard }], guard := some (32, false) }) rfl (fun K hK => ?_) AllReadyH.nil
          rw [if_pos (by rfl)]
          go_simp
          refine (US.out).mono ?_; rintro e w10 ⟨rfl, rfl⟩
          go_wp2_with fail
          refine hK.out _ _ ?_ (fun hHeld => ?_)
          · (try dsimp only); go_keep
          clear hK K
          (try simp only [Act.put, List.setIfInBounds_toArray, List.set_cons_zero, List.set_cons_succ])
          refine wpAnyH_take (i := 40) (oi := { dst := some 219, op := Go.Op.binOp Go.BinOp.neq 3 (Go.Operand.tmp 213) (Go.Operand.tmp 218) 3, type := 4, pos := _, after := #[{ on := 34, ground := Go.Ground.data }, { on := 39, ground := Go.Ground.data }, { on := 32, ground := Go.Ground.guard }], guard := some (32, false) }) (v := ?vx40) rfl (by kernel_rfl) (by kernel_rfl) (by kernel_rfl) (fun _ _ _ h => h) (Or.inl ⟨by rfl, ?hyx40⟩) (by assumption) ?_
          case hyx40 => (intro wz hSw; (try dsimp only at hSw); go_simp; try with_reducible rfl)
          (try simp only [Act.put, List.setIfInBounds_toArray, List.set_cons_zero, List.set_cons_succ])
          refine wpAnyH_take (i := 41) (oi := { dst := some 220, op := Go.Op.pick (Go.Operand.tmp 211) (Go.Operand.const (Go.Value.bool true)) (Go.Operand.tmp 219), type := 4, pos := _, after := #[{ on := 32, ground := Go.Ground.data }, { on := 40, ground := Go.Ground.data }], guard := none }) (v := ?vx41) rfl (by kernel_rfl) (by kernel_rfl) (by kernel_rfl) (fun _ _ _ h => h) (Or.inl ⟨by rfl, ?hyx41⟩) (by assumption) ?_
          case hyx41 => (intro wz hSw; (try dsimp only at hSw); go_simp; try with_reducible rfl)
          (try simp only [Act.put, List.setIfInBounds_toArray, List.set_cons_zero, List.set_cons_succ])
          refine wpAnyH_take (i := 42) (oi := { dst := some 221, op := Go.Op.move (Go.Operand.tmp 220), type := 4, pos := _, after := #[{ on := 41, ground := Go.Ground.data }, { on := 34, ground := Go.Ground.chain }], guard := none }) (v := ?vx42) rfl (by kernel_rfl) (by kernel_rfl) (by kernel_rfl) (fun _ _ _ h => h) (Or.inl ⟨by rfl, ?hyx42⟩) (by assumption) ?_
          case hyx42 => (intro wz hSw; (try dsimp only at hSw); go_simp; try with_reducible rfl)
          (try simp only [Act.put, List.setIfInBounds_toArray, List.set_cons_zero, List.set_cons_succ])
          refine wpAnyH_take (i := 43) (oi := { dst := some 222, op := Go.Op.move (Go.Operand.tmp 9), type := 23, pos := _, after := #[{ on := 42, ground := Go.Ground.guard }], guard := some (42, false) }) (v := ?vx43) rfl (by kernel_rfl) (by kernel_rfl) (by kernel_rfl) (fun _ _ _ h => h) (Or.inl ⟨by rfl, ?hyx43⟩) (by assumption) ?_
          case hyx43 => (intro wz hSw; (try dsimp only at hSw); go_simp; try with_reducible rfl)
          (try simp only [Act.put, List.setIfInBounds_toArray, List.set_cons_zero, List.set_cons_succ])
          refine wpAnyH_take (i := 45) (oi := { dst := some 224, op := Go.Op.move (Go.Operand.tmp 11), type := 44, pos := _, after := #[{ on := 42, ground := Go.Ground.guard }], guard := some (42, false) }) (v := ?vx45) rfl (by kernel_rfl) (by kernel_rfl) (by kernel_rfl) (fun _ _ _ h => h) (Or.inl ⟨by rfl, ?hyx45⟩) (by assumption) ?_
          case hyx45 => (intro wz hSw; (try dsimp only at hSw); go_simp; try with_reducible rfl)
          (try simp only [Act.put, List.setIfInBounds_toArray, List.set_cons_zero, List.set_cons_succ])
          refine wpAnyH_take (i := 46) (oi := { dst := some 225, op := Go.Op.nilCheck (Go.Operand.tmp 224), type := 0, pos := _, after := #[{ on := 45, ground := Go.Ground.data }, { on := 42, ground := Go.Ground.guard }], guard := some (42, false) }) (v := ?vx46) rfl (by kernel_rfl) (by kernel_rfl) (by kernel_rfl) (fun _ _ _ h => h) (Or.inl ⟨by rfl, ?hyx46⟩) (by assumption) ?_
          case hyx46 => (intro wz hSw; (try dsimp only at hSw); go_simp; try with_reducible rfl)
          (try simp only [Act.put, List.setIfInBounds_toArray, List.set_cons_zero, List.set_cons_succ])
          refine wpAnyH_take (i := 47) (oi := { dst := some 226, op := Go.Op.fieldAddr 47 (Go.Operand.tmp 225) 2, type := 0, pos := _, after := #[{ on := 46, ground := Go.Ground.data }, { on := 42, ground := Go.Ground.guard }], guard := some (42, false) }) (v := ?vx47) rfl (by kernel_rfl) (by kernel_rfl) (by kernel_rfl) (fun _ _ _ h => h) (Or.inl ⟨by rfl, ?hyx47⟩) (by assumption) ?_
          case hyx47 => (intro wz hSw; (try dsimp only at hSw); go_simp; try with_reducible rfl)
          (try simp only [Act.put, List.setIfInBounds_toArray, List.set_cons_zero, List.set_cons_succ])
          refine wpAnyH_take (i := 48) (oi := { dst := some 227, op := Go.Op.load 3 (Go.Operand.tmp 226), type := 3, pos := _, after := #[{ on := 47, ground := Go.Ground.data }, { on := 42, ground := Go.Ground.guard }], guard := some (42, false) }) (v := ?vx48) rfl (by kernel_rfl) (by kernel_rfl) (by kernel_rfl) (fun _ _ _ h => h) (Or.inl ⟨by rfl, ?hyx48⟩) (by assumption) ?_
          case hyx48 => (intro wz hSw; (try dsimp only at hSw); go_simp; try with_reducible rfl)
          (try simp only [Act.put, List.setIfInBounds_toArray, List.set_cons_zero, List.set_cons_succ])
          refine wpAnyH_ready (rs := [44]) (by kernel_rfl) (by simp) ?_
          refine AllReadyH.cons (o := { dst := some 223, op := Go.Op.call { callee := Go.Callee.value (Go.Operand.func 30), args := #[Go.Operand.tmp 222], argTypes := #[23] }, type := 3, pos := _, after := #[{ on := 43, ground := Go.Ground.data }, { on := 42, ground := Go.Ground.chain }, { on := 42, ground := Go.Ground.guard }], guard := some (42, false) }) rfl (fun K hK => ?_) AllReadyH.nil
          rw [if_pos (by rfl)]
          go_simp
          refine (TU.out).mono ?_; rintro e w10 ⟨rfl, rfl⟩
          go_wp2_with fail
          refine hK.out _ _ ?_ (fun hHeld => ?_)
          · (try dsimp only); go_keep
          clear hK K
          (try simp only [Act.put, List.setIfInBounds_toArray, List.set_cons_zero, List.set_cons_succ])
          refine wpAnyH_take (i := 49) (oi := { dst := some 228, op := Go.Op.binOp Go.BinOp.neq 3 (Go.Operand.tmp 223) (Go.Operand.tmp 227) 3, type := 4, pos := _, after := #[{ on := 44, ground := Go.Ground.data }, { on := 48, ground := Go.Ground.data }, { on := 42, ground := Go.Ground.guard }], guard := some (42, false) }) (v := ?vx49) rfl (by kernel_rfl) (by kernel_rfl) (by kernel_rfl) (fun _ _ _ h => h) (Or.inl ⟨by rfl, ?hyx49⟩) (by assumption) ?_
          case hyx49 => (intro wz hSw; (try dsimp only at hSw); go_simp; try with_reducible rfl)
          (try simp only [Act.put, List.setIfInBounds_toArray, List.set_cons_zero, List.set_cons_succ])
          refine wpAnyH_take (i := 50) (oi := { dst := some 229, op := Go.Op.pick (Go.Operand.tmp 221) (Go.Operand.const (Go.Value.bool true)) (Go.Operand.tmp 228), type := 4, pos := _, after := #[{ on := 42, ground := Go.Ground.data }, { on := 49, ground := Go.Ground.data }], guard := none }) (v := ?vx50) rfl (by kernel_rfl) (by kernel_rfl) (by kernel_rfl) (fun _ _ _ h => h) (Or.inl ⟨by rfl, ?hyx50⟩) (by assumption) ?_
          case hyx50 => (intro wz hSw; (try dsimp only at hSw); go_simp; try with_reducible rfl)
          (try simp only [Act.put, List.setIfInBounds_toArray, List.set_cons_zero, List.set_cons_succ])
          refine wpAnyH_take (i := 51) (oi := { dst := some 230, op := Go.Op.move (Go.Operand.tmp 229), type := 4, pos := _, after := #[{ on := 50, ground := Go.Ground.data }, { on := 44, ground := Go.Ground.chain }], guard := none }) (v := ?vx51) rfl (by kernel_rfl) (by kernel_rfl) (by kernel_rfl) (fun _ _ _ h => h) (Or.inl ⟨by rfl, ?hyx51⟩) (by assumption) ?_
          case hyx51 => (intro wz hSw; (try dsimp only at hSw); go_simp; try with_reducible rfl)
          (try simp only [Act.put, List.setIfInBounds_toArray, List.set_cons_zero, List.set_cons_succ])
          refine wpAnyH_take (i := 52) (oi := { dst := some 231, op := Go.Op.move (Go.Operand.tmp 9), type := 23, pos := _, after := #[{ on := 51, ground := Go.Ground.guard }], guard := some (51, false) }) (v := ?vx52) rfl (by kernel_rfl) (by kernel_rfl) (by kernel_rfl) (fun _ _ _ h => h) (Or.inl ⟨by rfl, ?hyx52⟩) (by assumption) ?_
          case hyx52 => (intro wz hSw; (try dsimp only at hSw); go_simp; try with_reducible rfl)
          (try simp only [Act.put, List.setIfInBounds_toArray, List.set_cons_zero, List.set_cons_succ])
          refine wpAnyH_take (i := 55) (oi := { dst := some 234, op := Go.Op.move (Go.Operand.tmp 11), type := 44, pos := _, after := #[{ on := 51, ground := Go.Ground.guard }], guard := some (51, false) }) (v := ?vx55) rfl (by kernel_rfl) (by kernel_rfl) (by kernel_rfl) (fun _ _ _ h => h) (Or.inl ⟨by rfl, ?hyx55⟩) (by assumption) ?_
          case hyx55 => (intro wz hSw; (try dsimp only at hSw); go_simp; try with_reducible rfl)
          (try simp only [Act.put, List.setIfInBounds_toArray, List.set_cons_zero, List.set_cons_succ])
          refine wpAnyH_ready (rs := [53]) (by kernel_rfl) (by simp) ?_
          refine AllReadyH.cons (o := { dst := some 232, op := Go.Op.call { callee := Go.Callee.value (Go.Operand.func 19), args := #[Go.Operand.tmp 231], argTypes := #[23] }, type := 40, pos := _, after := #[{ on := 52, ground := Go.Ground.data }, { on := 51, ground := Go.Ground.chain }, { on := 51, ground := Go.Ground.guard }], guard := some (51, false) }) rfl (fun K hK => ?_) AllReadyH.nil
          rw [if_pos (by rfl)]
          go_simp
          refine (PU.out).mono ?_; rintro e w10 ⟨v10, rfl, own10, b10⟩
          have cc10 := RCL.out w10 b10.out
          obtain ⟨cc10a, cc10b⟩ := cc10
          go_wp2_with fail
          refine hK.out _ _ ?_ (fun hHeld => ?_)
          · (try dsimp only); go_keep
          clear hK K
          (try simp only [Act.put, List.setIfInBounds_toArray, List.set_cons_zero, List.set_cons_succ])
          have PR := Lib.hid (rput_any (PD.out.rh.below b10.out))
          have cv10 : (convert 40 9 v10).run Try.prog w10 = .ok (.string SS) w10 := by rw [ESS.out]; exact str_own own10.out
          refine upon_mono (S' := fun w' => (w'.cell? ⟨Hr, 1, none⟩ = some (.slice AR LL cR) ∧ w'.cell? ⟨Hr, 2, none⟩ = some (.int .i64 tt)) ∧ (convert 40 9 v10).run Try.prog w' = .ok (.string SS) w') (fun _ h => h.1) _ _ _ _ ?_
          have hHeld2 := And.intro hHeld cv10
          refine wpAnyH_take (i := 54) (oi := { dst := some 233, op := Go.Op.convert 40 9 (Go.Operand.tmp 232), type := 9, pos := _, after := #[{ on := 53, ground := Go.Ground.data }, { on := 51, ground := Go.Ground.guard }], guard := some (51, false) }) (v := ?vx54) rfl (by kernel_rfl) (by kernel_rfl) (by kernel_rfl) (fun _ _ _ h => h) (Or.inl ⟨by rfl, ?hyx54⟩) hHeld2 ?_
          case hyx54 => (intro wz hSw; (try dsimp only at hSw); have hcv := hSw.2; go_simp; try with_reducible rfl)
          (try simp only [Act.put, List.setIfInBounds_toArray, List.set_cons_zero, List.set_cons_succ])
          refine wpAnyH_ready (rs := [56]) (by kernel_rfl) (by simp) ?_
          refine AllReadyH.cons (o := { dst := some 235, op := Go.Op.call { callee := Go.Callee.value (Go.Operand.func 31), args := #[Go.Operand.tmp 234], argTypes := #[44] }, type := 40, pos := _, after := #[{ on := 55, ground := Go.Ground.data }, { on := 53, ground := Go.Ground.chain }, { on := 51, ground := Go.Ground.guard }], guard := some (51, false) }) rfl (fun K hK => ?_) AllReadyH.nil
          rw [if_pos (by rfl)]
          go_simp
          refine (PR.out).mono ?_; rintro e w11 ⟨v11, rfl, own11, b11⟩
          have cv11 : (convert 40 9 v11).run Try.prog w11 = .ok (.string SS) w11 := by rw [ESS.out]; exact str_own own11.out
          have cv10b : (convert 40 9 v10).run Try.prog w11 = .ok (.string SS) w11 := by rw [ESS.out]; exact str_own (own_below own10.out b11.out)
          have bb11 := bt b10.out b11.out
          have cc11 := RCL.out w11 bb11
          go_wp2_with fail
          refine hK.out _ _ ⟨cc11, cv10b⟩ (fun hHeld3 => ?_)
          clear hK K
          (try simp only [Act.put, List.setIfInBounds_toArray, List.set_cons_zero, List.set_cons_succ])
          refine wpAnyH_ready (rs := [57]) (by kernel_rfl) (by simp) ?_
          refine AllReadyH.cons (o := { dst := some 236, op := Go.Op.convert 40 9 (Go.Operand.tmp 235), type := 9, pos := _, after := #[{ on := 56, ground := Go.Ground.data }, { on := 51, ground := Go.Ground.guard }], guard := some (51, false) }) rfl (fun K hK => ?_) AllReadyH.nil
          rw [if_pos (by rfl)]
          go_simp
          refine hK.out _ _ hHeld3 (fun hHeld4 => ?_)
          clear hK K
          (try simp only [Act.put, List.setIfInBounds_toArray, List.set_cons_zero, List.set_cons_succ])
          refine wpAnyH_take (i := 58) (oi := { dst := some 237, op := Go.Op.binOp Go.BinOp.neq 9 (Go.Operand.tmp 233) (Go.Operand.tmp 236) 9, type := 4, pos := _, after := #[{ on := 54, ground := Go.Ground.data }, { on := 57, ground := Go.Ground.data }, { on := 51, ground := Go.Ground.guard }], guard := some (51, false) }) (v := ?vx58) rfl (by kernel_rfl) (by kernel_rfl) (by kernel_rfl) (fun _ _ _ h => h) (Or.inl ⟨by rfl, ?hyx58⟩) (by assumption) ?_
          case hyx58 => (intro wz hSw; (try dsimp only at hSw); go_simp; try with_reducible rfl)
          (try simp only [Act.put, List.setIfInBounds_toArray, List.set_cons_zero, List.set_cons_succ])
          refine wpAnyH_take (i := 59) (oi := { dst := some 238, op := Go.Op.pick (Go.Operand.tmp 230) (Go.Operand.const (Go.Value.bool true)) (Go.Operand.tmp 237), type := 4, pos := _, after := #[{ on := 51, ground := Go.Ground.data }, { on := 58, ground := Go.Ground.data }], guard := none }) (v := ?vx59) rfl (by kernel_rfl) (by kernel_rfl) (by kernel_rfl) (fun _ _ _ h => h) (Or.inl ⟨by rfl, ?hyx59⟩) (by assumption) ?_
          case hyx59 => (intro wz hSw; (try dsimp only at hSw); go_simp; try with_reducible rfl)
          (try simp only [Act.put, List.setIfInBounds_toArray, List.set_cons_zero, List.set_cons_succ])
          refine wpAnyH_done (by kernel_rfl) ?_ _
          have PF := Lib.hid (PD.out.below bb11)
          clear hHeld hHeld2 hHeld3 hHeld4 PD US TU PU PR RCL
          go_wp2
          go_roundw
          case rel => exact ⟨k + 1, m2, by go_num, by omega, PF, HT2⟩
          case measure => simp [intOf]; omega
      have do0 : (r.op == 0) = false := beq_eq_false_iff_ne.2 ho
      by_cases ho1 : r.op = 1
      · have do1 : (r.op == 1) = true := by rw [ho1]; rfl
        clear ho ho1
        go_wp2_with fail
        obtain ⟨w2, hw2⟩ : ∃ z, z = wr.alloc (.cells #[.int .i64 r.op, .int .i64 r.kind, .int .i64 r.tag, .int .i64 r.i, .int .u64 r.p, .int .u64 r.x, .slice A' n' c'] 49) := ⟨_, rfl⟩
        obtain ⟨C, hC⟩ : ∃ z, z = wr.heap.size := ⟨_, rfl⟩
        rw [← hw2, ← hC] at X0
        rw [← hw2] at P0
        rw [← hC] at HCN0
        rw [← hw2, ← hC]
        have HCN := HCN0
        have P2 := Lib.hid (P0.out.below (bdr w2))
        have X2 := Lib.hid (X0.out.below (bdr w2))
        obtain ⟨x0, x1, x2, x3, x4, x5, x6⟩ := X0.out.cells
        obtain ⟨m2, hm2⟩ : ∃ z, z = setM m r.p r.i r.x := ⟨_, rfl⟩
        obtain ⟨se, hse⟩ : ∃ z, z = setE m r.p r.i r.x := ⟨_, rfl⟩
        have SE := Lib.hid (set_any P2.out.hp r.p r.i r.x HRG.out.2.2.2.2.1 HRG.out.2.2.2.2.2 HRG.out.2.2.2.1.1 HRG.out.2.2.2.1.2)
        rw [← hse, ← hm2] at SE
        have HSE := Lib.hid (And.intro hse hm2)
        have HT2 : Hid (0 ≤ m2.turns ∧ m2.turns ≤ (k + 1 : Nat)) := Lib.hid (by
          have e : m2.turns = m.turns := by rw [hm2]; unfold setM; split <;> rfl
          rw [e]; have := HTU.out; omega)
        clear hw2 hC e0 e1 e2 e3 e4 e5 e6 X0 P0 HCN0 HP HTU hse hm2
        refine wp_region_held_drew (S := fun w' => w'.cell? ⟨C, 3, none⟩ = some (.int .i64 r.i) ∧ w'.cell? ⟨C, 4, none⟩ = some (.int .u64 r.p) ∧ w'.cell? ⟨C, 5, none⟩ = some (.int .u64 r.x)) (by kernel_rfl) ?_ (fun hHeld => ?_)
        · (try dsimp only); go_keep
        refine wpAnyH_take (i := 0) (oi := { dst := some 132, op := Go.Op.move (Go.Operand.tmp 9), type := 23, pos := _, after := #[], guard := none }) (v := ?vs0) rfl (by kernel_rfl) (by kernel_rfl) (by kernel_rfl) (fun _ _ _ h => h) (Or.inl ⟨by rfl, ?hys0⟩) (by assumption) ?_
        case hys0 => (intro wz hSw; (try dsimp only at hSw); go_simp; try with_reducible rfl)
        (try simp only [Act.put, List.setIfInBounds_toArray, List.set_cons_zero, List.set_cons_succ])
        refine wpAnyH_take (i := 1) (oi := { dst := some 133, op := Go.Op.fieldAddr 49 (Go.Operand.tmp 13) 4, type := 0, pos := _, after := #[], guard := none }) (v := ?vs1) rfl (by kernel_rfl) (by kernel_rfl) (by kernel_rfl) (fun _ _ _ h => h) (Or.inl ⟨by rfl, ?hys1⟩) (by assumption) ?_
        case hys1 => (intro wz hSw; (try dsimp only at hSw); go_simp; try with_reducible rfl)
        (try simp only [Act.put, List.setIfInBounds_toArray, List.set_cons_zero, List.set_cons_succ])
        refine wpAnyH_take (i := 2) (oi := { dst := some 134, op := Go.Op.load 27 (Go.Operand.tmp 133), type := 27, pos := _, after := #[{ on := 1, ground := Go.Ground.data }], guard := none }) (v := ?vs2) rfl (by kernel_rfl) (by kernel_rfl) (by kernel_rfl) (fun _ _ _ h => h) (Or.inl ⟨by rfl, ?hys2⟩) (by assumption) ?_
        case hys2 => (intro wz hSw; (try dsimp only at hSw); go_simp; try with_reducible rfl)
        (try simp only [Act.put, List.setIfInBounds_toArray, List.set_cons_zero, List.set_cons_succ])
        refine wpAnyH_take (i := 3) (oi := { dst := some 135, op := Go.Op.fieldAddr 49 (Go.Operand.tmp 13) 3, type := 0, pos := _, after := #[], guard := none }) (v := ?vs3) rfl (by kernel_rfl) (by kernel_rfl) (by kernel_rfl) (fun _ _ _ h => h) (Or.inl ⟨by rfl, ?hys3⟩) (by assumption) ?_
        case hys3 => (intro wz hSw; (try dsimp only at hSw); go_simp; try with_reducible rfl)
        (try simp only [Act.put, List.setIfInBounds_toArray, List.set_cons_zero, List.set_cons_succ])
        refine wpAnyH_take (i := 4) (oi := { dst := some 136, op := Go.Op.load 3 (Go.Operand.tmp 135), type := 3, pos := _, after := #[{ on := 3, ground := Go.Ground.data }], guard := none }) (v := ?vs4) rfl (by kernel_rfl) (by kernel_rfl) (by kernel_rfl) (fun _ _ _ h => h) (Or.inl ⟨by rfl, ?hys4⟩) (by assumption) ?_
        case hys4 => (intro wz hSw; (try dsimp only at hSw); go_simp; try with_reducible rfl)
        (try simp only [Act.put, List.setIfInBounds_toArray, List.set_cons_zero, List.set_cons_succ])
        refine wpAnyH_take (i := 5) (oi := { dst := some 137, op := Go.Op.fieldAddr 49 (Go.Operand.tmp 13) 5, type := 0, pos := _, after := #[], guard := none }) (v := ?vs5) rfl (by kernel_rfl) (by kernel_rfl) (by kernel_rfl) (fun _ _ _ h => h) (Or.inl ⟨by rfl, ?hys5⟩) (by assumption) ?_
        case hys5 => (intro wz hSw; (try dsimp only at hSw); go_simp; try with_reducible rfl)
        (try simp only [Act.put, List.setIfInBounds_toArray, List.set_cons_zero, List.set_cons_succ])
        refine wpAnyH_take (i := 6) (oi := { dst := some 138, op := Go.Op.load 27 (Go.Operand.tmp 137), type := 27, pos := _, after := #[{ on := 5, ground := Go.Ground.data }], guard := none }) (v := ?vs6) rfl (by kernel_rfl) (by kernel_rfl) (by kernel_rfl) (fun _ _ _ h => h) (Or.inl ⟨by rfl, ?hys6⟩) (by assumption) ?_
        case hys6 => (intro wz hSw; (try dsimp only at hSw); go_simp; try with_reducible rfl)
        (try simp only [Act.put, List.setIfInBounds_toArray, List.set_cons_zero, List.set_cons_succ])
        refine wpAnyH_take (i := 8) (oi := { dst := some 140, op := Go.Op.move (Go.Operand.tmp 11), type := 44, pos := _, after := #[], guard := none }) (v := ?vs8) rfl (by kernel_rfl) (by kernel_rfl) (by kernel_rfl) (fun _ _ _ h => h) (Or.inl ⟨by rfl, ?hys8⟩) (by assumption) ?_
        case hys8 => (intro wz hSw; (try dsimp only at hSw); go_simp; try with_reducible rfl)
        (try simp only [Act.put, List.setIfInBounds_toArray, List.set_cons_zero, List.set_cons_succ])
        refine wpAnyH_take (i := 9) (oi := { dst := some 141, op := Go.Op.fieldAddr 49 (Go.Operand.tmp 13) 4, type := 0, pos := _, after := #[], guard := none }) (v := ?vs9) rfl (by kernel_rfl) (by kernel_rfl) (by kernel_rfl) (fun _ _ _ h => h) (Or.inl ⟨by rfl, ?hys9⟩) (by assumption) ?_
        case hys9 => (intro wz hSw; (try dsimp only at hSw); go_simp; try with_reducible rfl)
        (try simp only [Act.put, List.setIfInBounds_toArray, List.set_cons_zero, List.set_cons_succ])
        refine wpAnyH_take (i := 10) (oi := { dst := some 142, op := Go.Op.load 27 (Go.Operand.tmp 141), type := 27, pos := _, after := #[{ on := 9, ground := Go.Ground.data }], guard := none }) (v := ?vs10) rfl (by kernel_rfl) (by kernel_rfl) (by kernel_rfl) (fun _ _ _ h => h) (Or.inl ⟨by rfl, ?hys10⟩) (by assumption) ?_
        case hys10 => (intro wz hSw; (try dsimp only at hSw); go_simp; try with_reducible rfl)
        (try simp only [Act.put, List.setIfInBounds_toArray, List.set_cons_zero, List.set_cons_succ])
        refine wpAnyH_take (i := 11) (oi := { dst := some 143, op := Go.Op.fieldAddr 49 (Go.Operand.tmp 13) 3, type := 0, pos := _, after := #[], guard := none }) (v := ?vs11) rfl (by kernel_rfl) (by kernel_rfl) (by kernel_rfl) (fun _ _ _ h => h) (Or.inl ⟨by rfl, ?hys11⟩) (by assumption) ?_
        case hys11 => (intro wz hSw; (try dsimp only at hSw); go_simp; try with_reducible rfl)
        (try simp only [Act.put, List.setIfInBounds_toArray, List.set_cons_zero, List.set_cons_succ])
        refine wpAnyH_take (i := 12) (oi := { dst := some 144, op := Go.Op.load 3 (Go.Operand.tmp 143), type := 3, pos := _, after := #[{ on := 11, ground := Go.Ground.data }], guard := none }) (v := ?vs12) rfl (by kernel_rfl) (by kernel_rfl) (by kernel_rfl) (fun _ _ _ h => h) (Or.inl ⟨by rfl, ?hys12⟩) (by assumption) ?_
        case hys12 => (intro wz hSw; (try dsimp only at hSw); go_simp; try with_reducible rfl)
        (try simp only [Act.put, List.setIfInBounds_toArray, List.set_cons_zero, List.set_cons_succ])
        refine wpAnyH_take (i := 13) (oi := { dst := some 145, op := Go.Op.fieldAddr 49 (Go.Operand.tmp 13) 5, type := 0, pos := _, after := #[], guard := none }) (v := ?vs13) rfl (by kernel_rfl) (by kernel_rfl) (by kernel_rfl) (fun _ _ _ h => h) (Or.inl ⟨by rfl, ?hys13⟩) (by assumption) ?_
        case hys13 => (intro wz hSw; (try dsimp only at hSw); go_simp; try with_reducible rfl)
        (try simp only [Act.put, List.setIfInBounds_toArray, List.set_cons_zero, List.set_cons_succ])
        refine wpAnyH_take (i := 14) (oi := { dst := some 146, op := Go.Op.load 27 (Go.Operand.tmp 145), type := 27, pos := _, after := #[{ on := 13, ground := Go.Ground.data }], guard := none }) (v := ?vs14) rfl (by kernel_rfl) (by kernel_rfl) (by kernel_rfl) (fun _ _ _ h => h) (Or.inl ⟨by rfl, ?hys14⟩) (by assumption) ?_
        case hys14 => (intro wz hSw; (try dsimp only at hSw); go_simp; try with_reducible rfl)
        (try simp only [Act.put, List.setIfInBounds_toArray, List.set_cons_zero, List.set_cons_succ])
        refine wpAnyH_ready (rs := [7]) (by kernel_rfl) (by simp) ?_
        refine AllReadyH.cons (o := { dst := some 139, op := Go.Op.call { callee := Go.Callee.value (Go.Operand.func 14), args := #[Go.Operand.tmp 132, Go.Operand.tmp 134, Go.Operand.tmp 136, Go.Operand.tmp 138], argTypes := #[23, 28, 3, 28] }, type := 24, pos := _, after := #[{ on := 0, ground := Go.Ground.data }, { on := 2, ground := Go.Ground.data }, { on := 4, ground := Go.Ground.data }, { on := 6, ground := Go.Ground.data }], guard := none }) rfl (fun K hK => ?_) AllReadyH.nil
        go_simp
        refine SE.out.mono ?_; rintro e w3 ⟨rfl, hp3, hf3⟩
        have P3 := Lib.hid (P2.out.half hp3.out hf3.out)
        have X3 := Lib.hid (X2.out.frm hf3.out (X2.out.hr P2.out.hp HCN.out.1))
        obtain ⟨_, _, _, y3, y4, y5, _⟩ := X3.out.cells
        have RS := Lib.hid (rset_any P3.out.rh r.p r.i r.x HRG.out.2.2.2.2.1 HRG.out.2.2.2.1 HRG.out.2.2.2.2.2)
        go_wp2_with fail
        refine hK.out _ _ ?_ (fun hHeld => ?_)
        · (try dsimp only); go_keep
        clear hK K
        (try simp only [Act.put, List.setIfInBounds_toArray, List.set_cons_zero, List.set_cons_succ])
        refine wpAnyH_ready (rs := [15]) (by kernel_rfl) (by simp) ?_
        refine AllReadyH.cons (o := { dst := some 147, op := Go.Op.call { callee := Go.Callee.value (Go.Operand.func 23), args := #[Go.Operand.tmp 140, Go.Operand.tmp 142, Go.Operand.tmp 144, Go.Operand.tmp 146], argTypes := #[44, 27, 3, 27] }, type := 24, pos := _, after := #[{ on := 8, ground := Go.Ground.data }, { on := 10, ground := Go.Ground.data }, { on := 12, ground := Go.Ground.data }, { on := 14, ground := Go.Ground.data }, { on := 7, ground := Go.Ground.chain }], guard := none }) rfl (fun K hK => ?_) AllReadyH.nil
        go_simp
        rw [← HSE.out.1, ← HSE.out.2] at RS
        refine RS.out.mono ?_; rintro e w4 ⟨rfl, hr4, hf4⟩
        have P4 := Lib.hid (P3.out.whole hr4.out hf4.out)
        have X4 := Lib.hid (X3.out.frm hf4.out (X3.out.rr P3.out.rh HCN.out.2))
        obtain ⟨_, _, _, q3, q4, q5, _⟩ := X4.out.cells
        go_wp2_with fail
        refine hK.out _ _ ?_ (fun hHeld => ?_)
        · (try dsimp only); go_keep
        clear hK K
        (try simp only [Act.put, List.setIfInBounds_toArray, List.set_cons_zero, List.set_cons_succ])
        refine wpAnyH_take (i := 16) (oi := { dst := some 148, op := Go.Op.binOp Go.BinOp.eql 24 (Go.Operand.tmp 139) (Go.Operand.tmp 147) 24, type := 4, pos := _, after := #[{ on := 7, ground := Go.Ground.data }, { on := 15, ground := Go.Ground.data }], guard := none }) (v := ?vs16) rfl (by kernel_rfl) (by kernel_rfl) (by kernel_rfl) (fun _ _ _ h => h) (Or.inl ⟨by rfl, ?hys16⟩) (by assumption) ?_
        case hys16 => (intro wz hSw; (try dsimp only at hSw); go_simp; try with_reducible rfl)
        (try simp only [Act.put, List.setIfInBounds_toArray, List.set_cons_zero, List.set_cons_succ])
        refine wpAnyH_take (i := 17) (oi := { dst := some 14, op := Go.Op.assign (Go.Operand.tmp 148), type := 4, pos := _, after := #[{ on := 16, ground := Go.Ground.data }, { on := 15, ground := Go.Ground.chain }, { on := 0, ground := Go.Ground.phase }, { on := 1, ground := Go.Ground.phase }, { on := 2, ground := Go.Ground.phase }, { on := 3, ground := Go.Ground.phase }, { on := 4, ground := Go.Ground.phase }, { on := 5, ground := Go.Ground.phase }, { on := 6, ground := Go.Ground.phase }, { on := 7, ground := Go.Ground.phase }, { on := 8, ground := Go.Ground.phase }, { on := 9, ground := Go.Ground.phase }, { on := 10, ground := Go.Ground.phase }, { on := 11, ground := Go.Ground.phase }, { on := 12, ground := Go.Ground.phase }, { on := 13, ground := Go.Ground.phase }, { on := 14, ground := Go.Ground.phase }, { on := 15, ground := Go.Ground.phase }, { on := 16, ground := Go.Ground.phase }], guard := none }) (v := ?vs17) rfl (by kernel_rfl) (by kernel_rfl) (by kernel_rfl) (fun _ _ _ h => h) (Or.inl ⟨by rfl, ?hys17⟩) (by assumption) ?_
        case hys17 => (intro wz hSw; (try dsimp only at hSw); go_simp; try with_reducible rfl)
        (try simp only [Act.put, List.setIfInBounds_toArray, List.set_cons_zero, List.set_cons_succ])
        refine wpAnyH_done (by kernel_rfl) ?_ _
        clear hHeld SE X2 P2 P3 X3 RS y3 y4 y5 q3 q4 q5 X4 HSE x0 x1 x2 x3 x4 x5 x6
        as_aux_lemma =>
          have GE := Lib.hid (get_any P4.out.hp p ai HPU.out HAI.out.1 HAI.out.2)
          have RG := Lib.hid (rget_any P4.out.rh p ai HPU.out HAI.out)
          have HE := Lib.hid (hhead_any P4.out.hp p HPU.out)
          have RE := Lib.hid (rhead_of P4.out.rh p HPU.out)
          obtain ⟨g1, hg1⟩ : ∃ z, z = (getR m2 p ai).1 := ⟨_, rfl⟩
          obtain ⟨g2, hg2⟩ : ∃ z, z = (getR m2 p ai).2 := ⟨_, rfl⟩
          obtain ⟨g3, hg3⟩ : ∃ z, z = (headR m2 p).1 := ⟨_, rfl⟩
          obtain ⟨g4, hg4⟩ : ∃ z, z = (headR m2 p).2.1 := ⟨_, rfl⟩
          obtain ⟨g5, hg5⟩ : ∃ z, z = (headR m2 p).2.2.1 := ⟨_, rfl⟩
          obtain ⟨g6, hg6⟩ : ∃ z, z = (headR m2 p).2.2.2 := ⟨_, rfl⟩
          rw [← hg1, ← hg2] at GE RG
          rw [← hg3, ← hg4, ← hg5, ← hg6] at HE RE
          clear hg1 hg2 hg3 hg4 hg5 hg6
          go_wp2_with fail
          refine GE.out.mono ?_; rintro e w9 ⟨rfl, rfl⟩
          go_wp2_with fail
          refine RG.out.mono ?_; rintro e w9 ⟨rfl, rfl⟩
          go_wp2_with fail
          refine HE.out.mono ?_; rintro e w9 ⟨rfl, rfl⟩
          go_wp2_with fail
          refine RE.out.mono ?_; rintro e w9 ⟨rfl, rfl⟩
          clear GE RG HE RE
          have PD := Lib.hid (P4.out.below (bdr w4))
          obtain ⟨AR, cR, r0, r1x, r2, _, _, _⟩ := P4.out.rh.cells
          have US := Lib.hid (used_any PD.out.hp)
          have TU := Lib.hid (turns_any PD.out.hp)
          have PU := Lib.hid (putH_any PD.out.hp)
          obtain ⟨LL, hLL⟩ : ∃ z, z = m2.ws.length := ⟨_, rfl⟩
          obtain ⟨tt, htt⟩ : ∃ z, z = m2.turns := ⟨_, rfl⟩
          obtain ⟨SS, hSS⟩ : ∃ z, z = strOfNums (encM m2) := ⟨_, rfl⟩
          rw [← hLL] at US r1x
          rw [← htt] at TU r2
          have ESS := Lib.hid hSS
          have RCL : Hid (∀ W, Below w4.drew.heap.size w4.drew W → W.cell? ⟨Hr, 1, none⟩ = some (.slice AR LL cR) ∧ W.cell? ⟨Hr, 2, none⟩ = some (.int .i64 tt)) := Lib.hid (fun W hb => ⟨(hb.cell (p := ⟨Hr, 1, none⟩) PD.out.rh.lt).trans r1x, (hb.cell (p := ⟨Hr, 2, none⟩) PD.out.rh.lt).trans r2⟩)
          have r1 := r1x
          clear hLL htt hSS r0 r1x
          go_wp2_with fail
          refine wp_region_held_drew (S := fun w' => w'.cell? ⟨Hr, 1, none⟩ = some (.slice AR LL cR) ∧ w'.cell? ⟨Hr, 2, none⟩ = some (.int .i64 tt)) (by kernel_rfl) ?_ (fun hHeld => ?_)
          · (try dsimp only); go_keep
          refine wpAnyH_take (i := 0) (oi := { dst := some 179, op := Go.Op.move (Go.Operand.tmp 14), type := 4, pos := _, after := #[], guard := none }) (v := ?vy0) rfl (by kernel_rfl) (by kernel_rfl) (by kernel_rfl) (fun _ _ _ h => h) (Or.inl ⟨by rfl, ?hyy0⟩) (by assumption) ?_
          case hyy0 => (intro wz hSw; (try dsimp only at hSw); go_simp; try with_reducible rfl)
          (try simp only [Act.put, List.setIfInBounds_toArray, List.set_cons_zero, List.set_cons_succ])
          refine wpAnyH_take (i := 1) (oi := { dst := some 180, op := Go.Op.unOp Go.UnOp.not 4 (Go.Operand.tmp 179), type := 4, pos := _, after := #[{ on := 0, ground := Go.Ground.data }], guard := none }) (v := ?vy1) rfl (by kernel_rfl) (by kernel_rfl) (by kernel_rfl) (fun _ _ _ h => h) (Or.inl ⟨by rfl, ?hyy1⟩) (by assumption) ?_
          case hyy1 => (intro wz hSw; (try dsimp only at hSw); go_simp; try with_reducible rfl)
          (try simp only [Act.put, List.setIfInBounds_toArray, List.set_cons_zero, List.set_cons_succ])
          refine wpAnyH_take (i := 2) (oi := { dst := some 181, op := Go.Op.move (Go.Operand.tmp 180), type := 4, pos := _, after := #[{ on := 1, ground := Go.Ground.data }], guard := none }) (v := ?vy2) rfl (by kernel_rfl) (by kernel_rfl) (by kernel_rfl) (fun _ _ _ h => h) (Or.inl ⟨by rfl, ?hyy2⟩) (by assumption) ?_
          case hyy2 => (intro wz hSw; (try dsimp only at hSw); go_simp; try with_reducible rfl)
          (try simp only [Act.put, List.setIfInBounds_toArray, List.set_cons_zero, List.set_cons_succ])
          refine wpAnyH_take (i := 3) (oi := { dst := some 182, op := Go.Op.move (Go.Operand.tmp 19), type := 28, pos := _, after := #[{ on := 2, ground := Go.Ground.guard }], guard := some (2, false) }) (v := ?vy3) rfl (by kernel_rfl) (by kernel_rfl) (by kernel_rfl) (fun _ _ _ h => h) (Or.inl ⟨by rfl, ?hyy3⟩) (by assumption) ?_
          case hyy3 => (intro wz hSw; (try dsimp only at hSw); go_simp; try with_reducible rfl)
          (try simp only [Act.put, List.setIfInBounds_toArray, List.set_cons_zero, List.set_cons_succ])
          refine wpAnyH_take (i := 4) (oi := { dst := some 183, op := Go.Op.move (Go.Operand.tmp 21), type := 27, pos := _, after := #[{ on := 2, ground := Go.Ground.guard }], guard := some (2, false) }) (v := ?vy4) rfl (by kernel_rfl) (by kernel_rfl) (by kernel_rfl) (fun _ _ _ h => h) (Or.inl ⟨by rfl, ?hyy4⟩) (by assumption) ?_
          case hyy4 => (intro wz hSw; (try dsimp only at hSw); go_simp; try with_reducible rfl)
          (try simp only [Act.put, List.setIfInBounds_toArray, List.set_cons_zero, List.set_cons_succ])
          refine wpAnyH_take (i := 5) (oi := { dst := some 184, op := Go.Op.binOp Go.BinOp.neq 27 (Go.Operand.tmp 182) (Go.Operand.tmp 183) 27, type := 4, pos := _, after := #[{ on := 3, ground := Go.Ground.data }, { on := 4, ground := Go.Ground.data }, { on := 2, ground := Go.Ground.guard }], guard := some (2, false) }) (v := ?vy5) rfl (by kernel_rfl) (by kernel_rfl) (by kernel_rfl) (fun _ _ _ h => h) (Or.inl ⟨by rfl, ?hyy5⟩) (by assumption) ?_
          case hyy5 => (intro wz hSw; (try dsimp only at hSw); go_simp; try with_reducible rfl)
          (try simp only [Act.put, List.setIfInBounds_toArray, List.set_cons_zero, List.set_cons_succ])
          refine wpAnyH_take (i := 6) (oi := { dst := some 185, op := Go.Op.pick (Go.Operand.tmp 181) (Go.Operand.const (Go.Value.bool true)) (Go.Operand.tmp 184), type := 4, pos := _, after := #[{ on := 2, ground := Go.Ground.data }, { on := 5, ground := Go.Ground.data }], guard := none }) (v := ?vy6) rfl (by kernel_rfl) (by kernel_rfl) (by kernel_rfl) (fun _ _ _ h => h) (Or.inl ⟨by rfl, ?hyy6⟩) (by assumption) ?_
          case hyy6 => (intro wz hSw; (try dsimp only at hSw); go_simp; try with_reducible rfl)
          (try simp only [Act.put, List.setIfInBounds_toArray, List.set_cons_zero, List.set_cons_succ])
          refine wpAnyH_take (i := 7) (oi := { dst := some 186, op := Go.Op.move (Go.Operand.tmp 185), type := 4, pos := _, after := #[{ on := 6, ground := Go.Ground.data }, { on := 2, ground := Go.Ground.chain }], guard := none }) (v := ?vy7) rfl (by kernel_rfl) (by kernel_rfl) (by kernel_rfl) (fun _ _ _ h => h) (Or.inl ⟨by rfl, ?hyy7⟩) (by assumption) ?_
          case hyy7 => (intro wz hSw; (try dsimp only at hSw); go_simp; try with_reducible rfl)
          (try simp only [Act.put, List.setIfInBounds_toArray, List.set_cons_zero, List.set_cons_succ])
          refine wpAnyH_take (i := 8) (oi := { dst := some 187, op := Go.Op.move (Go.Operand.tmp 20), type := 24, pos := _, after := #[{ on := 7, ground := Go.Ground.guard }], guard := some (7, false) }) (v := ?vy8) rfl (by kernel_rfl) (by kernel_rfl) (by kernel_rfl) (fun _ _ _ h => h) (Or.inl ⟨by rfl, ?hyy8⟩) (by assumption) ?_
          case hyy8 => (intro wz hSw; (try dsimp only at hSw); go_simp; try with_reducible rfl)
          (try simp only [Act.put, List.setIfInBounds_toArray, List.set_cons_zero, List.set_cons_succ])
          refine wpAnyH_take (i := 9) (oi := { dst := some 188, op := Go.Op.move (Go.Operand.tmp 22), type := 24, pos := _, after := #[{ on := 7, ground := Go.Ground.guard }], guard := some (7, false) }) (v := ?vy9) rfl (by kernel_rfl) (by kernel_rfl) (by kernel_rfl) (fun _ _ _ h => h) (Or.inl ⟨by rfl, ?hyy9⟩) (by assumption) ?_
          case hyy9 => (intro wz hSw; (try dsimp only at hSw); go_simp; try with_reducible rfl)
          (try simp only [Act.put, List.setIfInBounds_toArray, List.set_cons_zero, List.set_cons_succ])
          refine wpAnyH_take (i := 10) (oi := { dst := some 189, op := Go.Op.binOp Go.BinOp.neq 24 (Go.Operand.tmp 187) (Go.Operand.tmp 188) 24, type := 4, pos := _, after := #[{ on := 8, ground := Go.Ground.data }, { on := 9, ground := Go.Ground.data }, { on := 7, ground := Go.Ground.guard }], guard := some (7, false) }) (v := ?vy10) rfl (by kernel_rfl) (by kernel_rfl) (by kernel_rfl) (fun _ _ _ h => h) (Or.inl ⟨by rfl, ?hyy10⟩) (by assumption) ?_
          case hyy10 => (intro wz hSw; (try dsimp only at hSw); go_simp; try with_reducible rfl)
          (try simp only [Act.put, List.setIfInBounds_toArray, List.set_cons_zero, List.set_cons_succ])
          refine wpAnyH_take (i := 11) (oi := { dst := some 190, op := Go.Op.pick (Go.Operand.tmp 186) (Go.Operand.const (Go.Value.bool true)) (Go.Operand.tmp 189), type := 4, pos := _, after := #[{ on := 7, ground := Go.Ground.data }, { on := 10, ground := Go.Ground.data }], guard := none }) (v := ?vy11) rfl (by kernel_rfl) (by kernel_rfl) (by kernel_rfl) (fun _ _ _ h => h) (Or.inl ⟨by rfl, ?hyy11⟩) (by assumption) ?_
          case hyy11 => (intro wz hSw; (try dsimp only at hSw); go_simp; try with_reducible rfl)
          (try simp only [Act.put, List.setIfInBounds_toArray, List.set_cons_zero, List.set_cons_succ])
          refine wpAnyH_take (i := 12) (oi := { dst := some 191, op := Go.Op.move (Go.Operand.tmp 190), type := 4, pos := _, after := #[{ on := 11, ground := Go.Ground.data }, { on := 7, ground := Go.Ground.chain }], guard := none }) (v := ?vy12) rfl (by kernel_rfl) (by kernel_rfl) (by kernel_rfl) (fun _ _ _ h => h) (Or.inl ⟨by rfl, ?hyy12⟩) (by assumption) ?_
          case hyy12 => (intro wz hSw; (try dsimp only at hSw); go_simp; try with_reducible rfl)
          (try simp only [Act.put, List.setIfInBounds_toArray, List.set_cons_zero, List.set_cons_succ])
          refine wpAnyH_take (i := 13) (oi := { dst := some 192, op := Go.Op.move (Go.Operand.tmp 23), type := 3, pos := _, after := #[{ on := 12, ground := Go.Ground.guard }], guard := some (12, false) }) (v := ?vy13) rfl (by kernel_rfl) (by kernel_rfl) (by kernel_rfl) (fun _ _ _ h => h) (Or.inl ⟨by rfl, ?hyy13⟩) (by assumption) ?_
          case hyy13 => (intro wz hSw; (try dsimp only at hSw); go_simp; try with_reducible rfl)
          (try simp only [Act.put, List.setIfInBounds_toArray, List.set_cons_zero, List.set_cons_succ])
          refine wpAnyH_take (i := 14) (oi := { dst := some 193, op := Go.Op.move (Go.Operand.tmp 27), type := 3, pos := _, after := #[{ on := 12, ground := Go.Ground.guard }], guard := some (12, false) }) (v := ?vy14) rfl (by kernel_rfl) (by kernel_rfl) (by kernel_rfl) (fun _ _ _ h => h) (Or.inl ⟨by rfl, ?hyy14⟩) (by assumption) ?_
          case hyy14 => (intro wz hSw; (try dsimp only at hSw); go_simp; try with_reducible rfl)
          (try simp only [Act.put, List.setIfInBounds_toArray, List.set_cons_zero, List.set_cons_succ])
          refine wpAnyH_take (i := 15) (oi := { dst := some 194, op := Go.Op.binOp Go.BinOp.neq 3 (Go.Operand.tmp 192) (Go.Operand.tmp 193) 3, type := 4, pos := _, after := #[{ on := 13, ground := Go.Ground.data }, { on := 14, ground := Go.Ground.data }, { on := 12, ground := Go.Ground.guard }], guard := some (12, false) }) (v := ?vy15) rfl (by kernel_rfl) (by kernel_rfl) (by kernel_rfl) (fun _ _ _ h => h) (Or.inl ⟨by rfl, ?hyy15⟩) (by assumption) ?_
          case hyy15 => (intro wz hSw; (try dsimp only at hSw); go_simp; try with_reducible rfl)
          (try simp only [Act.put, List.setIfInBounds_toArray, List.set_cons_zero, List.set_cons_succ])
          refine wpAnyH_take (i := 16) (oi := { dst := some 195, op := Go.Op.pick (Go.Operand.tmp 191) (Go.Operand.const (Go.Value.bool true)) (Go.Operand.tmp 194), type := 4, pos := _, after := #[{ on := 12, ground := Go.Ground.data }, { on := 15, ground := Go.Ground.data }], guard := none }) (v := ?vy16) rfl (by kernel_rfl) (by kernel_rfl) (by kernel_rfl) (fun _ _ _ h => h) (Or.inl ⟨by rfl, ?hyy16⟩) (by assumption) ?_
          case hyy16 => (intro wz hSw; (try dsimp only at hSw); go_simp; try with_reducible rfl)
          (try simp only [Act.put, List.setIfInBounds_toArray, List.set_cons_zero, List.set_cons_succ])
          refine wpAnyH_take (i := 17) (oi := { dst := some 196, op := Go.Op.move (Go.Operand.tmp 195), type := 4, pos := _, after := #[{ on := 16, ground := Go.Ground.data }, { on := 12, ground := Go.Ground.chain }], guard := none }) (v := ?vy17) rfl (by kernel_rfl) (by kernel_rfl) (by kernel_rfl) (fun _ _ _ h => h) (Or.inl ⟨by rfl, ?hyy17⟩) (by assumption) ?_
          case hyy17 => (intro wz hSw; (try dsimp only at hSw); go_simp; try with_reducible rfl)
          (try simp only [Act.put, List.setIfInBounds_toArray, List.set_cons_zero, List.set_cons_succ])
          refine wpAnyH_take (i := 18) (oi := { dst := some 197, op := Go.Op.move (Go.Operand.tmp 24), type := 3, pos := _, after := #[{ on := 17, ground := Go.Ground.guard }], guard := some (17, false) }) (v := ?vy18) rfl (by kernel_rfl) (by kernel_rfl) (by kernel_rfl) (fun _ _ _ h => h) (Or.inl ⟨by rfl, ?hyy18⟩) (by assumption) ?_
          case hyy18 => (intro wz hSw; (try dsimp only at hSw); go_simp; try with_reducible rfl)
          (try simp only [Act.put, List.setIfInBounds_toArray, List.set_cons_zero, List.set_cons_succ])
          refine wpAnyH_take (i := 19) (oi := { dst := some 198, op := Go.Op.move (Go.Operand.tmp 28), type := 3, pos := _, after := #[{ on := 17, ground := Go.Ground.guard }], guard := some (17, false) }) (v := ?vy19) rfl (by kernel_rfl) (by kernel_rfl) (by kernel_rfl) (fun _ _ _ h => h) (Or.inl ⟨by rfl, ?hyy19⟩) (by assumption) ?_
          case hyy19 => (intro wz hSw; (try dsimp only at hSw); go_simp; try with_reducible rfl)
          (try simp only [Act.put, List.setIfInBounds_toArray, List.set_cons_zero, List.set_cons_succ])
          refine wpAnyH_take (i := 20) (oi := { dst := some 199, op := Go.Op.binOp Go.BinOp.neq 3 (Go.Operand.tmp 197) (Go.Operand.tmp 198) 3, type := 4, pos := _, after := #[{ on := 18, ground := Go.Ground.data }, { on := 19, ground := Go.Ground.data }, { on := 17, ground := Go.Ground.guard }], guard := some (17, false) }) (v := ?vy20) rfl (by kernel_rfl) (by kernel_rfl) (by kernel_rfl) (fun _ _ _ h => h) (Or.inl ⟨by rfl, ?hyy20⟩) (by assumption) ?_
          case hyy20 => (intro wz hSw; (try dsimp only at hSw); go_simp; try with_reducible rfl)
          (try simp only [Act.put, List.setIfInBounds_toArray, List.set_cons_zero, List.set_cons_succ])
          refine wpAnyH_take (i := 21) (oi := { dst := some 200, op := Go.Op.pick (Go.Operand.tmp 196) (Go.Operand.const (Go.Value.bool true)) (Go.Operand.tmp 199), type := 4, pos := _, after := #[{ on := 17, ground := Go.Ground.data }, { on := 20, ground := Go.Ground.data }], guard := none }) (v := ?vy21) rfl (by kernel_rfl) (by kernel_rfl) (by kernel_rfl) (fun _ _ _ h => h) (Or.inl ⟨by rfl, ?hyy21⟩) (by assumption) ?_
          case hyy21 => (intro wz hSw; (try dsimp only at hSw); go_simp; try with_reducible rfl)
          (try simp only [Act.put, List.setIfInBounds_toArray, List.set_cons_zero, List.set_cons_succ])
          refine wpAnyH_take (i := 22) (oi := { dst := some 201, op := Go.Op.move (Go.Operand.tmp 200), type := 4, pos := _, after := #[{ on := 21, ground := Go.Ground.data }, { on := 17, ground := Go.Ground.chain }], guard := none }) (v := ?vy22) rfl (by kernel_rfl) (by kernel_rfl) (by kernel_rfl) (fun _ _ _ h => h) (Or.inl ⟨by rfl, ?hyy22⟩) (by assumption) ?_
          case hyy22 => (intro wz hSw; (try dsimp only at hSw); go_simp; try with_reducible rfl)
          (try simp only [Act.put, List.setIfInBounds_toArray, List.set_cons_zero, List.set_cons_succ])
          refine wpAnyH_take (i := 23) (oi := { dst := some 202, op := Go.Op.move (Go.Operand.tmp 25), type := 3, pos := _, after := #[{ on := 22, ground := Go.Ground.guard }], guard := some (22, false) }) (v := ?vy23) rfl (by kernel_rfl) (by kernel_rfl) (by kernel_rfl) (fun _ _ _ h => h) (Or.inl ⟨by rfl, ?hyy23⟩) (by assumption) ?_
          case hyy23 => (intro wz hSw; (try dsimp only at hSw); go_simp; try with_reducible rfl)
          (try simp only [Act.put, List.setIfInBounds_toArray, List.set_cons_zero, List.set_cons_succ])
          refine wpAnyH_take (i := 24) (oi := { dst := some 203, op := Go.Op.move (Go.Operand.tmp 29), type := 3, pos := _, after := #[{ on := 22, ground := Go.Ground.guard }], guard := some (22, false) }) (v := ?vy24) rfl (by kernel_rfl) (by kernel_rfl) (by kernel_rfl) (fun _ _ _ h => h) (Or.inl ⟨by rfl, ?hyy24⟩) (by assumption) ?_
          case hyy24 => (intro wz hSw; (try dsimp only at hSw); go_simp; try with_reducible rfl)
          (try simp only [Act.put, List.setIfInBounds_toArray, List.set_cons_zero, List.set_cons_succ])
          refine wpAnyH_take (i := 25) (oi := { dst := some 204, op := Go.Op.binOp Go.BinOp.neq 3 (Go.Operand.tmp 202) (Go.Operand.tmp 203) 3, type := 4, pos := _, after := #[{ on := 23, ground := Go.Ground.data }, { on := 24, ground := Go.Ground.data }, { on := 22, ground := Go.Ground.guard }], guard := some (22, false) }) (v := ?vy25) rfl (by kernel_rfl) (by kernel_rfl) (by kernel_rfl) (fun _ _ _ h => h) (Or.inl ⟨by rfl, ?hyy25⟩) (by assumption) ?_
          case hyy25 => (intro wz hSw; (try dsimp only at hSw); go_simp; try with_reducible rfl)
          (try simp only [Act.put, List.setIfInBounds_toArray, List.set_cons_zero, List.set_cons_succ])
          refine wpAnyH_take (i := 26) (oi := { dst := some 205, op := Go.Op.pick (Go.Operand.tmp 201) (Go.Operand.const (Go.Value.bool true)) (Go.Operand.tmp 204), type := 4, pos := _, after := #[{ on := 22, ground := Go.Ground.data }, { on := 25, ground := Go.Ground.data }], guard := none }) (v := ?vy26) rfl (by kernel_rfl) (by kernel_rfl) (by kernel_rfl) (fun _ _ _ h => h) (Or.inl ⟨by rfl, ?hyy26⟩) (by assumption) ?_
          case hyy26 => (intro wz hSw; (try dsimp only at hSw); go_simp; try with_reducible rfl)
          (try simp only [Act.put, List.setIfInBounds_toArray, List.set_cons_zero, List.set_cons_succ])
          refine wpAnyH_take (i := 27) (oi := { dst := some 206, op := Go.Op.move (Go.Operand.tmp 205), type := 4, pos := _, after := #[{ on := 26, ground := Go.Ground.data }, { on := 22, ground := Go.Ground.chain }], guard := none }) (v := ?vy27) rfl (by kernel_rfl) (by kernel_rfl) (by kernel_rfl) (fun _ _ _ h => h) (Or.inl ⟨by rfl, ?hyy27⟩) (by assumption) ?_
          case hyy27 => (intro wz hSw; (try dsimp only at hSw); go_simp; try with_reducible rfl)
          (try simp only [Act.put, List.setIfInBounds_toArray, List.set_cons_zero, List.set_cons_succ])
          refine wpAnyH_take (i := 28) (oi := { dst := some 207, op := Go.Op.move (Go.Operand.tmp 26), type := 24, pos := _, after := #[{ on := 27, ground := Go.Ground.guard }], guard := some (27, false) }) (v := ?vy28) rfl (by kernel_rfl) (by kernel_rfl) (by kernel_rfl) (fun _ _ _ h => h) (Or.inl ⟨by rfl, ?hyy28⟩) (by assumption) ?_
          case hyy28 => (intro wz hSw; (try dsimp only at hSw); go_simp; try with_reducible rfl)
          (try simp only [Act.put, List.setIfInBounds_toArray, List.set_cons_zero, List.set_cons_succ])
          refine wpAnyH_take (i := 29) (oi := { dst := some 208, op := Go.Op.move (Go.Operand.tmp 30), type := 24, pos := _, after := #[{ on := 27, ground := Go.Ground.guard }], guard := some (27, false) }) (v := ?vy29) rfl (by kernel_rfl) (by kernel_rfl) (by kernel_rfl) (fun _ _ _ h => h) (Or.inl ⟨by rfl, ?hyy29⟩) (by assumption) ?_
          case hyy29 => (intro wz hSw; (try dsimp only at hSw); go_simp; try with_reducible rfl)
          (try simp only [Act.put, List.setIfInBounds_toArray, List.set_cons_zero, List.set_cons_succ])
          refine wpAnyH_take (i := 30) (oi := { dst := some 209, op := Go.Op.binOp Go.BinOp.neq 24 (Go.Operand.tmp 207) (Go.Operand.tmp 208) 24, type := 4, pos := _, after := #[{ on := 28, ground := Go.Ground.data }, { on := 29, ground := Go.Ground.data }, { on := 27, ground := Go.Ground.guard }], guard := some (27, false) }) (v := ?vy30) rfl (by kernel_rfl) (by kernel_rfl) (by kernel_rfl) (fun _ _ _ h => h) (Or.inl ⟨by rfl, ?hyy30⟩) (by assumption) ?_
          case hyy30 => (intro wz hSw; (try dsimp only at hSw); go_simp; try with_reducible rfl)
          (try simp only [Act.put, List.setIfInBounds_toArray, List.set_cons_zero, List.set_cons_succ])
          refine wpAnyH_take (i := 31) (oi := { dst := some 210, op := Go.Op.pick (Go.Operand.tmp 206) (Go.Operand.const (Go.Value.bool true)) (Go.Operand.tmp 209), type := 4, pos := _, after := #[{ on := 27, ground := Go.Ground.data }, { on := 30, ground := Go.Ground.data }], guard := none }) (v := ?vy31) rfl (by kernel_rfl) (by kernel_rfl) (by kernel_rfl) (fun _ _ _ h => h) (Or.inl ⟨by rfl, ?hyy31⟩) (by assumption) ?_
          case hyy31 => (intro wz hSw; (try dsimp only at hSw); go_simp; try with_reducible rfl)
          (try simp only [Act.put, List.setIfInBounds_toArray, List.set_cons_zero, List.set_cons_succ])
          refine wpAnyH_take (i := 32) (oi := { dst := some 211, op := Go.Op.move (Go.Operand.tmp 210), type := 4, pos := _, after := #[{ on := 31, ground := Go.Ground.data }, { on := 27, ground := Go.Ground.chain }], guard := none }) (v := ?vy32) rfl (by kernel_rfl) (by kernel_rfl) (by kernel_rfl) (fun _ _ _ h => h) (Or.inl ⟨by rfl, ?hyy32⟩) (by assumption) ?_
          case hyy32 => (intro wz hSw; (try dsimp only at hSw); go_simp; try with_reducible rfl)
          (try simp only [Act.put, List.setIfInBounds_toArray, List.set_cons_zero, List.set_cons_succ])
          refine wpAnyH_take (i := 33) (oi := { dst := some 212, op := Go.Op.move (Go.Operand.tmp 9), type := 23, pos := _, after := #[{ on := 32, ground := Go.Ground.guard }], guard := some (32, false) }) (v := ?vy33) rfl (by kernel_rfl) (by kernel_rfl) (by kernel_rfl) (fun _ _ _ h => h) (Or.inl ⟨by rfl, ?hyy33⟩) (by assumption) ?_
          case hyy33 => (intro wz hSw; (try dsimp only at hSw); go_simp; try with_reducible rfl)
          (try simp only [Act.put, List.setIfInBounds_toArray, List.set_cons_zero, List.set_cons_succ])
          refine wpAnyH_take (i := 35) (oi := { dst := some 214, op := Go.Op.move (Go.Operand.tmp 11), type := 44, pos := _, after := #[{ on := 32, ground := Go.Ground.guard }], guard := some (32, false) }) (v := ?vy35) rfl (by kernel_rfl) (by kernel_rfl) (by kernel_rfl) (fun _ _ _ h => h) (Or.inl ⟨by rfl, ?hyy35⟩) (by assumption) ?_
          case hyy35 => (intro wz hSw; (try dsimp only at hSw); go_simp; try with_reducible rfl)
          (try simp only [Act.put, List.setIfInBounds_toArray, List.set_cons_zero, List.set_cons_succ])
          refine wpAnyH_take (i := 36) (oi := { dst := some 215, op := Go.Op.nilCheck (Go.Operand.tmp 214), type := 0, pos := _, after := #[{ on := 35, ground := Go.Ground.data }, { on := 32, ground := Go.Ground.guard }], guard := some (32, false) }) (v := ?vy36) rfl (by kernel_rfl) (by kernel_rfl) (by kernel_rfl) (fun _ _ _ h => h) (Or.inl ⟨by rfl, ?hyy36⟩) (by assumption) ?_
          case hyy36 => (intro wz hSw; (try dsimp only at hSw); go_simp; try with_reducible rfl)
          (try simp only [Act.put, List.setIfInBounds_toArray, List.set_cons_zero, List.set_cons_succ])
          refine wpAnyH_take (i := 37) (oi := { dst := some 216, op := Go.Op.fieldAddr 47 (Go.Operand.tmp 215) 1, type := 0, pos := _, after := #[{ on := 36, ground := Go.Ground.data }, { on := 32, ground := Go.Ground.guard }], guard := some (32, false) }) (v := ?vy37) rfl (by kernel_rfl) (by kernel_rfl) (by kernel_rfl) (fun _ _ _ h => h) (Or.inl ⟨by rfl, ?hyy37⟩) (by assumption) ?_
          case hyy37 => (intro wz hSw; (try dsimp only at hSw); go_simp; try with_reducible rfl)
          (try simp only [Act.put, List.setIfInBounds_toArray, List.set_cons_zero, List.set_cons_succ])
          refine wpAnyH_take (i := 38) (oi := { dst := some 217, op := Go.Op.load 45 (Go.Operand.tmp 216), type := 45, pos := _, after := #[{ on := 37, ground := Go.Ground.data }, { on := 32, ground := Go.Ground.guard }], guard := some (32, false) }) (v := ?vy38) rfl (by kernel_rfl) (by kernel_rfl) (by kernel_rfl) (fun _ _ _ h => h) (Or.inl ⟨by rfl, ?hyy38⟩) (by assumption) ?_
          case hyy38 => (intro wz hSw; (try dsimp only at hSw); go_simp; try with_reducible rfl)
          (try simp only [Act.put, List.setIfInBounds_toArray, List.set_cons_zero, List.set_cons_succ])
          refine wpAnyH_take (i := 39) (oi := { dst := some 218, op := Go.Op.call { callee := Go.Callee.builtin Go.Builtin.len, args := #[Go.Operand.tmp 217], argTypes := #[45] }, type := 3, pos := _, after := #[{ on := 38, ground := Go.Ground.data }, { on := 32, ground := Go.Ground.guard }], guard := some (32, false) }) (v := ?vy39) rfl (by kernel_rfl) (by kernel_rfl) (by kernel_rfl) (fun _ _ _ h => h) (Or.inl ⟨by rfl, ?hyy39⟩) (by assumption) ?_
          case hyy39 => (intro wz hSw; (try dsimp only at hSw); go_simp; try with_reducible rfl)
          (try simp only [Act.put, List.setIfInBounds_toArray, List.set_cons_zero, List.set_cons_succ])
          refine wpAnyH_ready (rs := [34]) (by kernel_rfl) (by simp) ?_
          refine AllReadyH.cons (o := { dst := some 213, op := Go.Op.call { callee := Go.Callee.value (Go.Operand.func 29), args := #[Go.Operand.tmp 212], argTypes := #[23] }, type := 3, pos := _, after := #[{ on := 33, ground := Go.Ground.data }, { on := 32, ground := Go.Ground.chain }, { on := 32, ground := Go.Ground.guard }], guard := some (32, false) }) rfl (fun K hK => ?_) AllReadyH.nil
          rw [if_pos (by rfl)]
          go_simp
          refine (US.out).mono ?_; rintro e w10 ⟨rfl, rfl⟩
          go_wp2_with fail
          refine hK.out _ _ ?_ (fun hHeld => ?_)
          · (try dsimp only); go_keep
          clear hK K
          (try simp only [Act.put, List.setIfInBounds_toArray, List.set_cons_zero, List.set_cons_succ])
          refine wpAnyH_take (i := 40) (oi := { dst := some 219, op := Go.Op.binOp Go.BinOp.neq 3 (Go.Operand.tmp 213) (Go.Operand.tmp 218) 3, type := 4, pos := _, after := #[{ on := 34, ground := Go.Ground.data }, { on := 39, ground := Go.Ground.data }, { on := 32, ground := Go.Ground.guard }], guard := some (32, false) }) (v := ?vy40) rfl (by kernel_rfl) (by kernel_rfl) (by kernel_rfl) (fun _ _ _ h => h) (Or.inl ⟨by rfl, ?hyy40⟩) (by assumption) ?_
          case hyy40 => (intro wz hSw; (try dsimp only at hSw); go_simp; try with_reducible rfl)
          (try simp only [Act.put, List.setIfInBounds_toArray, List.set_cons_zero, List.set_cons_succ])
          refine wpAnyH_take (i := 41) (oi := { dst := some 220, op := Go.Op.pick (Go.Operand.tmp 211) (Go.Operand.const (Go.Value.bool true)) (Go.Operand.tmp 219), type := 4, pos := _, after := #[{ on := 32, ground := Go.Ground.data }, { on := 40, ground := Go.Ground.data }], guard := none }) (v := ?vy41) rfl (by kernel_rfl) (by kernel_rfl) (by kernel_rfl) (fun _ _ _ h => h) (Or.inl ⟨by rfl, ?hyy41⟩) (by assumption) ?_
          case hyy41 => (intro wz hSw; (try dsimp only at hSw); go_simp; try with_reducible rfl)
          (try simp only [Act.put, List.setIfInBounds_toArray, List.set_cons_zero, List.set_cons_succ])
          refine wpAnyH_take (i := 42) (oi := { dst := some 221, op := Go.Op.move (Go.Operand.tmp 220), type := 4, pos := _, after := #[{ on := 41, ground := Go.Ground.data }, { on := 34, ground := Go.Ground.chain }], guard := none }) (v := ?vy42) rfl (by kernel_rfl) (by kernel_rfl) (by kernel_rfl) (fun _ _ _ h => h) (Or.inl ⟨by rfl, ?hyy42⟩) (by assumption) ?_
          case hyy42 => (intro wz hSw; (try dsimp only at hSw); go_simp; try with_reducible rfl)
          (try simp only [Act.put, List.setIfInBounds_toArray, List.set_cons_zero, List.set_cons_succ])
          refine wpAnyH_take (i := 43) (oi := { dst := some 222, op := Go.Op.move (Go.Operand.tmp 9), type := 23, pos := _, after := #[{ on := 42, ground := Go.Ground.guard }], guard := some (42, false) }) (v := ?vy43) rfl (by kernel_rfl) (by kernel_rfl) (by kernel_rfl) (fun _ _ _ h => h) (Or.inl ⟨by rfl, ?hyy43⟩) (by assumption) ?_
          case hyy43 => (intro wz hSw; (try dsimp only at hSw); go_simp; try with_reducible rfl)
          (try simp only [Act.put, List.setIfInBounds_toArray, List.set_cons_zero, List.set_cons_succ])
          refine wpAnyH_take (i := 45) (oi := { dst := some 224, op := Go.Op.move (Go.Operand.tmp 11), type := 44, pos := _, after := #[{ on := 42, ground := Go.Ground.guard }], guard := some (42, false) }) (v := ?vy45) rfl (by kernel_rfl) (by kernel_rfl) (by kernel_rfl) (fun _ _ _ h => h) (Or.inl ⟨by rfl, ?hyy45⟩) (by assumption) ?_
          case hyy45 => (intro wz hSw; (try dsimp only at hSw); go_simp; try with_reducible rfl)
          (try simp only [Act.put, List.setIfInBounds_toArray, List.set_cons_zero, List.set_cons_succ])
          refine wpAnyH_take (i := 46) (oi := { dst := some 225, op := Go.Op.nilCheck (Go.Operand.tmp 224), type := 0, pos := _, after := #[{ on := 45, ground := Go.Ground.data }, { on := 42, ground := Go.Ground.guard }], guard := some (42, false) }) (v := ?vy46) rfl (by kernel_rfl) (by kernel_rfl) (by kernel_rfl) (fun _ _ _ h => h) (Or.inl ⟨by rfl, ?hyy46⟩) (by assumption) ?_
          case hyy46 => (intro wz hSw; (try dsimp only at hSw); go_simp; try with_reducible rfl)
          (try simp only [Act.put, List.setIfInBounds_toArray, List.set_cons_zero, List.set_cons_succ])
          refine wpAnyH_take (i := 47) (oi := { dst := some 226, op := Go.Op.fieldAddr 47 (Go.Operand.tmp 225) 2, type := 0, pos := _, after := #[{ on := 46, ground := Go.Ground.data }, { on := 42, ground := Go.Ground.guard }], guard := some (42, false) }) (v := ?vy47) rfl (by kernel_rfl) (by kernel_rfl) (by kernel_rfl) (fun _ _ _ h => h) (Or.inl ⟨by rfl, ?hyy47⟩) (by assumption) ?_
          case hyy47 => (intro wz hSw; (try dsimp only at hSw); go_simp; try with_reducible rfl)
          (try simp only [Act.put, List.setIfInBounds_toArray, List.set_cons_zero, List.set_cons_succ])
          refine wpAnyH_take (i := 48) (oi := { dst := some 227, op := Go.Op.load 3 (Go.Operand.tmp 226), type := 3, pos := _, after := #[{ on := 47, ground := Go.Ground.data }, { on := 42, ground := Go.Ground.guard }], guard := some (42, false) }) (v := ?vy48) rfl (by kernel_rfl) (by kernel_rfl) (by kernel_rfl) (fun _ _ _ h => h) (Or.inl ⟨by rfl, ?hyy48⟩) (by assumption) ?_
          case hyy48 => (intro wz hSw; (try dsimp only at hSw); go_simp; try with_reducible rfl)
          (try simp only [Act.put, List.setIfInBounds_toArray, List.set_cons_zero, List.set_cons_succ])
          refine wpAnyH_ready (rs := [44]) (by kernel_rfl) (by simp) ?_
          refine AllReadyH.cons (o := { dst := some 223, op := Go.Op.call { callee := Go.Callee.value (Go.Operand.func 30), args := #[Go.Operand.tmp 222], argTypes := #[23] }, type := 3, pos := _, after := #[{ on := 43, ground := Go.Ground.data }, { on := 42, ground := Go.Ground.chain }, { on := 42, ground := Go.Ground.guard }], guard := some (42, false) }) rfl (fun K hK => ?_) AllReadyH.nil
          rw [if_pos (by rfl)]
          go_simp
          refine (TU.out).mono ?_; rintro e w10 ⟨rfl, rfl⟩
          go_wp2_with fail
          refine hK.out _ _ ?_ (fun hHeld => ?_)
          · (try dsimp only); go_keep
          clear hK K
          (try simp only [Act.put, List.setIfInBounds_toArray, List.set_cons_zero, List.set_cons_succ])
          refine wpAnyH_take (i := 49) (oi := { dst := some 228, op := Go.Op.binOp Go.BinOp.neq 3 (Go.Operand.tmp 223) (Go.Operand.tmp 227) 3, type := 4, pos := _, after := #[{ on := 44, ground := Go.Ground.data }, { on := 48, ground := Go.Ground.data }, { on := 42, ground := Go.Ground.guard }], guard := some (42, false) }) (v := ?vy49) rfl (by kernel_rfl) (by kernel_rfl) (by kernel_rfl) (fun _ _ _ h => h) (Or.inl ⟨by rfl, ?hyy49⟩) (by assumption) ?_
          case hyy49 => (intro wz hSw; (try dsimp only at hSw); go_simp; try with_reducible rfl)
          (try simp only [Act.put, List.setIfInBounds_toArray, List.set_cons_zero, List.set_cons_succ])
          refine wpAnyH_take (i := 50) (oi := { dst := some 229, op := Go.Op.pick (Go.Operand.tmp 221) (Go.Operand.const (Go.Value.bool true)) (Go.Operand.tmp 228), type := 4, pos := _, after := #[{ on := 42, ground := Go.Ground.data }, { on := 49, ground := Go.Ground.data }], guard := none }) (v := ?vy50) rfl (by kernel_rfl) (by kernel_rfl) (by kernel_rfl) (fun _ _ _ h => h) (Or.inl ⟨by rfl, ?hyy50⟩) (by assumption) ?_
          case hyy50 => (intro wz hSw; (try dsimp only at hSw); go_simp; try with_reducible rfl)
          (try simp only [Act.put, List.setIfInBounds_toArray, List.set_cons_zero, List.set_cons_succ])
          refine wpAnyH_take (i := 51) (oi := { dst := some 230, op := Go.Op.move (Go.Operand.tmp 229), type := 4, pos := _, after := #[{ on := 50, ground := Go.Ground.data }, { on := 44, ground := Go.Ground.chain }], guard := none }) (v := ?vy51) rfl (by kernel_rfl) (by kernel_rfl) (by kernel_rfl) (fun _ _ _ h => h) (Or.inl ⟨by rfl, ?hyy51⟩) (by assumption) ?_
          case hyy51 => (intro wz hSw; (try dsimp only at hSw); go_simp; try with_reducible rfl)
          (try simp only [Act.put, List.setIfInBounds_toArray, List.set_cons_zero, List.set_cons_succ])
          refine wpAnyH_take (i := 52) (oi := { dst := some 231, op := Go.Op.move (Go.Operand.tmp 9), type := 23, pos := _, after := #[{ on := 51, ground := Go.Ground.guard }], guard := some (51, false) }) (v := ?vy52) rfl (by kernel_rfl) (by kernel_rfl) (by kernel_rfl) (fun _ _ _ h => h) (Or.inl ⟨by rfl, ?hyy52⟩) (by assumption) ?_
          case hyy52 => (intro wz hSw; (try dsimp only at hSw); go_simp; try with_reducible rfl)
          (try simp only [Act.put, List.setIfInBounds_toArray, List.set_cons_zero, List.set_cons_succ])
          refine wpAnyH_take (i := 55) (oi := { dst := some 234, op := Go.Op.move (Go.Operand.tmp 11), type := 44, pos := _, after := #[{ on := 51, ground := Go.Ground.guard }], guard := some (51, false) }) (v := ?vy55) rfl (by kernel_rfl) (by kernel_rfl) (by kernel_rfl) (fun _ _ _ h => h) (Or.inl ⟨by rfl, ?hyy55⟩) (by assumption) ?_
          case hyy55 => (intro wz hSw; (try dsimp only at hSw); go_simp; try with_reducible rfl)
          (try simp only [Act.put, List.setIfInBounds_toArray, List.set_cons_zero, List.set_cons_succ])
          refine wpAnyH_ready (rs := [53]) (by kernel_rfl) (by simp) ?_
          refine AllReadyH.cons (o := { dst := some 232, op := Go.Op.call { callee := Go.Callee.value (Go.Operand.func 19), args := #[Go.Operand.tmp 231], argTypes := #[23] }, type := 40, pos := _, after := #[{ on := 52, ground := Go.Ground.data }, { on := 51, ground := Go.Ground.chain }, { on := 51, ground := Go.Ground.guard }], guard := some (51, false) }) rfl (fun K hK => ?_) AllReadyH.nil
          rw [if_pos (by rfl)]
          go_simp
          refine (PU.out).mono ?_; rintro e w10 ⟨v10, rfl, own10, b10⟩
          have cc10 := RCL.out w10 b10.out
          obtain ⟨cc10a, cc10b⟩ := cc10
          go_wp2_with fail
          refine hK.out _ _ ?_ (fun hHeld => ?_)
          · (try dsimp only); go_keep
          clear hK K
          (try simp only [Act.put, List.setIfInBounds_toArray, List.set_cons_zero, List.set_cons_succ])
          have PR := Lib.hid (rput_any (PD.out.rh.below b10.out))
          have cv10 : (convert 40 9 v10).run Try.prog w10 = .ok (.string SS) w10 := by rw [ESS.out]; exact str_own own10.out
          refine upon_mono (S' := fun w' => (w'.cell? ⟨Hr, 1, none⟩ = some (.slice AR LL cR) ∧ w'.cell? ⟨Hr, 2, none⟩ = some (.int .i64 tt)) ∧ (convert 40 9 v10).run Try.prog w' = .ok (.string SS) w') (fun _ h => h.1) _ _ _ _ ?_
          have hHeld2 := And.intro hHeld cv10
          refine wpAnyH_take (i := 54) (oi := { dst := some 233, op := Go.Op.convert 40 9 (Go.Operand.tmp 232), type := 9, pos := _, after := #[{ on := 53, ground := Go.Ground.data }, { on := 51, ground := Go.Ground.guard }], guard := some (51, false) }) (v := ?vy54) rfl (by kernel_rfl) (by kernel_rfl) (by kernel_rfl) (fun _ _ _ h => h) (Or.inl ⟨by rfl, ?hyy54⟩) hHeld2 ?_
          case hyy54 => (intro wz hSw; (try dsimp only at hSw); have hcv := hSw.2; go_simp; try with_reducible rfl)
          (try simp only [Act.put, List.setIfInBounds_toArray, List.set_cons_zero, List.set_cons_succ])
          refine wpAnyH_ready (rs := [56]) (by kernel_rfl) (by simp) ?_
          refine AllReadyH.cons (o := { dst := some 235, op := Go.Op.call { callee := Go.Callee.value (Go.Operand.func 31), args := #[Go.Operand.tmp 234], argTypes := #[44] }, type := 40, pos := _, after := #[{ on := 55, ground := Go.Ground.data }, { on := 53, ground := Go.Ground.chain }, { on := 51, ground := Go.Ground.guard }], guard := some (51, false) }) rfl (fun K hK => ?_) AllReadyH.nil
          rw [if_pos (by rfl)]
          go_simp
          refine (PR.out).mono ?_; rintro e w11 ⟨v11, rfl, own11, b11⟩
          have cv11 : (convert 40 9 v11).run Try.prog w11 = .ok (.string SS) w11 := by rw [ESS.out]; exact str_own own11.out
          have cv10b : (convert 40 9 v10).run Try.prog w11 = .ok (.string SS) w11 := by rw [ESS.out]; exact str_own (own_below own10.out b11.out)
          have bb11 := bt b10.out b11.out
          have cc11 := RCL.out w11 bb11
          go_wp2_with fail
          refine hK.out _ _ ⟨cc11, cv10b⟩ (fun hHeld3 => ?_)
          clear hK K
          (try simp only [Act.put, List.setIfInBounds_toArray, List.set_cons_zero, List.set_cons_succ])
          refine wpAnyH_ready (rs := [57]) (by kernel_rfl) (by simp) ?_
          refine AllReadyH.cons (o := { dst := some 236, op := Go.Op.convert 40 9 (Go.Operand.tmp 235), type := 9, pos := _, after := #[{ on := 56, ground := Go.Ground.data }, { on := 51, ground := Go.Ground.guard }], guard := some (51, false) }) rfl (fun K hK => ?_) AllReadyH.nil
          rw [if_pos (by rfl)]
          go_simp
          refine hK.out _ _ hHeld3 (fun hHeld4 => ?_)
          clear hK K
          (try simp only [Act.put, List.setIfInBounds_toArray, List.set_cons_zero, List.set_cons_succ])
          refine wpAnyH_take (i := 58) (oi := { dst := some 237, op := Go.Op.binOp Go.BinOp.neq 9 (Go.Operand.tmp 233) (Go.Operand.tmp 236) 9, type := 4, pos := _, after := #[{ on := 54, ground := Go.Ground.data }, { on := 57, ground := Go.Ground.data }, { on := 51, ground := Go.Ground.guard }], guard := some (51, false) }) (v := ?vy58) rfl (by kernel_rfl) (by kernel_rfl) (by kernel_rfl) (fun _ _ _ h => h) (Or.inl ⟨by rfl, ?hyy58⟩) (by assumption) ?_
          case hyy58 => (intro wz hSw; (try dsimp only at hSw); go_simp; try with_reducible rfl)
          (try simp only [Act.put, List.setIfInBounds_toArray, List.set_cons_zero, List.set_cons_succ])
          refine wpAnyH_take (i := 59) (oi := { dst := some 238, op := Go.Op.pick (Go.Operand.tmp 230) (Go.Operand.const (Go.Value.bool true)) (Go.Operand.tmp 237), type := 4, pos := _, after := #[{ on := 51, ground := Go.Ground.data }, { on := 58, ground := Go.Ground.data }], guard := none }) (v := ?vy59) rfl (by kernel_rfl) (by kernel_rfl) (by kernel_rfl) (fun _ _ _ h => h) (Or.inl ⟨by rfl, ?hyy59⟩) (by assumption) ?_
          case hyy59 => (intro wz hSw; (try dsimp only at hSw); go_simp; try with_reducible rfl)
          (try simp only [Act.put, List.setIfInBounds_toArray, List.set_cons_zero, List.set_cons_succ])
          refine wpAnyH_done (by kernel_rfl) ?_ _
          have PF := Lib.hid (PD.out.below bb11)
          clear hHeld hHeld2 hHeld3 hHeld4 PD US TU PU PR RCL
          go_wp2
          go_roundw
          case rel => exact ⟨k + 1, m2, by go_num, by omega, PF, HT2⟩
          case measure => simp [intOf]; omega
      have do1 : (r.op == 1) = false := beq_eq_false_iff_ne.2 ho1
      clear ho ho1
      go_wp2_with fail
      obtain ⟨w2, hw2⟩ : ∃ z, z = wr.alloc (.cells #[.int .i64 r.op, .int .i64 r.kind, .int .i64 r.tag, .int .i64 r.i, .int .u64 r.p, .int .u64 r.x, .slice A' n' c'] 49) := ⟨_, rfl⟩
      obtain ⟨C, hC⟩ : ∃ z, z = wr.heap.size := ⟨_, rfl⟩
      rw [← hw2, ← hC] at X0
      rw [← hw2] at P0
      rw [← hC] at HCN0
      rw [← hw2, ← hC]
      have HCN := HCN0
      have P2 := Lib.hid (P0.out.below (bdr w2))
      have X2 := Lib.hid (X0.out.below (bdr w2))
      obtain ⟨x0, x1, x2, x3, x4, x5, x6⟩ := X0.out.cells
      have BK := Lib.hid (back_any (HU2.out.below P2.out.bel) (by omega))
      have HTM : Hid (m.turns < 9223372036854775807) := Lib.hid (by have := HTU.out; omega)
      obtain ⟨m2, hm2⟩ : ∃ z, z = colM m r.l := ⟨_, rfl⟩
      have HM2 := Lib.hid hm2
      have HT2 : Hid (0 ≤ m2.turns ∧ m2.turns ≤ (k + 1 : Nat)) := Lib.hid (by rw [hm2]; exact colT_le HTU.out)
      clear hw2 hC e0 e1 e2 e3 e4 e5 e6 X0 P0 HCN0 HP HTU hm2
      refine wp_region_held_drew (S := fun w' => w'.cell? ⟨C, 6, none⟩ = some (.slice A' n' c')) (by kernel_rfl) ?_ (fun hHeld => ?_)
      · (try dsimp only); go_keep
      refine wpAnyH_take (i := 0) (oi := { dst := some 86, op := Go.Op.move (Go.Operand.tmp 9), type := 23, pos := _, after := #[], guard := none }) (v := ?vc0) rfl (by kernel_rfl) (by kernel_rfl) (by kernel_rfl) (fun _ _ _ h => h) (Or.inl ⟨by rfl, ?hyc0⟩) (by assumption) ?_
      case hyc0 => (intro wz hSw; (try dsimp only at hSw); go_simp; try with_reducible rfl)
      (try simp only [Act.put, List.setIfInBounds_toArray, List.set_cons_zero, List.set_cons_succ])
      refine wpAnyH_take (i := 1) (oi := { dst := some 87, op := Go.Op.fieldAddr 49 (Go.Operand.tmp 13) 6, type := 0, pos := _, after := #[], guard := none }) (v := ?vc1) rfl (by kernel_rfl) (by kernel_rfl) (by kernel_rfl) (fun _ _ _ h => h) (Or.inl ⟨by rfl, ?hyc1⟩) (by assumption) ?_
      case hyc1 => (intro wz hSw; (try dsimp only at hSw); go_simp; try with_reducible rfl)
      (try simp only [Act.put, List.setIfInBounds_toArray, List.set_cons_zero, List.set_cons_succ])
      refine wpAnyH_take (i := 2) (oi := { dst := some 88, op := Go.Op.load 45 (Go.Operand.tmp 87), type := 45, pos := _, after := #[{ on := 1, ground := Go.Ground.data }], guard := none }) (v := ?vc2) rfl (by kernel_rfl) (by kernel_rfl) (by kernel_rfl) (fun _ _ _ h => h) (Or.inl ⟨by rfl, ?hyc2⟩) (by assumption) ?_
      case hyc2 => (intro wz hSw; (try dsimp only at hSw); go_simp; try with_reducible rfl)
      (try simp only [Act.put, List.setIfInBounds_toArray, List.set_cons_zero, List.set_cons_succ])
      refine wpAnyH_take (i := 6) (oi := { dst := some 92, op := Go.Op.move (Go.Operand.tmp 11), type := 44, pos := _, after := #[], guard := none }) (v := ?vc6) rfl (by kernel_rfl) (by kernel_rfl) (by kernel_rfl) (fun _ _ _ h => h) (Or.inl ⟨by rfl, ?hyc6⟩) (by assumption) ?_
      case hyc6 => (intro wz hSw; (try dsimp only at hSw); go_simp; try with_reducible rfl)
      (try simp only [Act.put, List.setIfInBounds_toArray, List.set_cons_zero, List.set_cons_succ])
      refine wpAnyH_take (i := 7) (oi := { dst := some 93, op := Go.Op.fieldAddr 49 (Go.Operand.tmp 13) 6, type := 0, pos := _, after := #[], guard := none }) (v := ?vc7) rfl (by kernel_rfl) (by kernel_rfl) (by kernel_rfl) (fun _ _ _ h => h) (Or.inl ⟨by rfl, ?hyc7⟩) (by assumption) ?_
      case hyc7 => (intro wz hSw; (try dsimp only at hSw); go_simp; try with_reducible rfl)
      (try simp only [Act.put, List.setIfInBounds_toArray, List.set_cons_zero, List.set_cons_succ])
      refine wpAnyH_take (i := 8) (oi := { dst := some 94, op := Go.Op.load 45 (Go.Operand.tmp 93), type := 45, pos := _, after := #[{ on := 7, ground := Go.Ground.data }], guard := none }) (v := ?vc8) rfl (by kernel_rfl) (by kernel_rfl) (by kernel_rfl) (fun _ _ _ h => h) (Or.inl ⟨by rfl, ?hyc8⟩) (by assumption) ?_
      case hyc8 => (intro wz hSw; (try dsimp only at hSw); go_simp; try with_reducible rfl)
      (try simp only [Act.put, List.setIfInBounds_toArray, List.set_cons_zero, List.set_cons_succ])
      refine wpAnyH_ready (rs := [3]) (by kernel_rfl) (by simp) ?_
      refine AllReadyH.cons (o := { dst := some 89, op := Go.Op.call { callee := Go.Callee.value (Go.Operand.func 21), args := #[Go.Operand.tmp 88], argTypes := #[45] }, type := 34, pos := _, after := #[{ on := 2, ground := Go.Ground.data }], guard := none }) rfl (fun K hK => ?_) AllReadyH.nil
      go_simp
      refine BK.out.mono ?_; rintro e w3 ⟨v3, rfl, hv, hbv⟩
      obtain ⟨A3, c3, rfl, hin3, hlx3⟩ := own_inW hv.out
      have CL := Lib.hid (collect_any (P2.out.hp.below hbv.out) hin3 HXS.out (by omega))
      rw [hlx3] at CL
      have X3 := Lib.hid (X2.out.below hbv.out)
      have P3 := Lib.hid (P2.out.below hbv.out)
      obtain ⟨_, _, _, _, _, _, y6⟩ := X3.out.cells
      go_wp2_with fail
      refine hK.out _ _ ?_ (fun hHeld => ?_)
      · (try dsimp only); go_keep
      clear hK K
      (try simp only [Act.put, List.setIfInBounds_toArray, List.set_cons_zero, List.set_cons_succ])
      refine wpAnyH_ready (rs := [4]) (by kernel_rfl) (by simp) ?_
      refine AllReadyH.cons (o := { dst := some 90, op := Go.Op.call { callee := Go.Callee.value (Go.Operand.func 16), args := #[Go.Operand.tmp 86, Go.Operand.tmp 89], argTypes := #[23, 34] }, type := 34, pos := _, after := #[{ on := 0, ground := Go.Ground.data }, { on := 3, ground := Go.Ground.data }, { on := 3, ground := Go.Ground.chain }], guard := none }) rfl (fun K hK => ?_) AllReadyH.nil
      go_simp
      refine CL.out.mono ?_; rintro e w4 ⟨O, rfl, h4⟩
      have P4 := Lib.hid (P3.out.half h4.out.1 (h4.out.2.1.mono fun j _ e => .inl e))
      have X4 := Lib.hid (X3.out.frm h4.out.2.1 HCN.out.1)
      obtain ⟨_, _, _, _, _, _, z6⟩ := X4.out.cells
      obtain ⟨A4, c4, e4, hin4, hlx4⟩ := own_inW h4.out.2.2.1
      injection e4 with e41 _ e43
      subst e41 e43
      have WD := Lib.hid (words_any hin4 hlx4 (by omega))
      go_wp2_with fail
      refine hK.out _ _ ?_ (fun hHeld => ?_)
      · (try dsimp only); go_keep
      clear hK K
      (try simp only [Act.put, List.setIfInBounds_toArray, List.set_cons_zero, List.set_cons_succ])
      refine wpAnyH_ready (rs := [5]) (by kernel_rfl) (by simp) ?_
      refine AllReadyH.cons (o := { dst := some 91, op := Go.Op.call { callee := Go.Callee.value (Go.Operand.func 25), args := #[Go.Operand.tmp 90], argTypes := #[34] }, type := 45, pos := _, after := #[{ on := 4, ground := Go.Ground.data }, { on := 4, ground := Go.Ground.chain }], guard := none }) rfl (fun K hK => ?_) AllReadyH.nil
      go_simp
      refine WD.out.mono ?_; rintro e w5 ⟨v5, rfl, own5, b5⟩
      have P5 := Lib.hid (P4.out.below b5.out)
      have X5 := Lib.hid (X4.out.below b5.out)
      obtain ⟨_, _, _, _, _, _, t6⟩ := X5.out.cells
      have RL := Lib.hid (rcollect_any P5.out.rh P5.out.rh.hB (HU2.out.below P5.out.bel) (by omega) HTM.out)
      go_wp2_with fail
      refine hK.out _ _ ?_ (fun hHeld => ?_)
      · (try dsimp only); go_keep
      clear hK K
      (try simp only [Act.put, List.setIfInBounds_toArray, List.set_cons_zero, List.set_cons_succ])
      refine wpAnyH_ready (rs := [9]) (by kernel_rfl) (by simp) ?_
      refine AllReadyH.cons (o := { dst := some 95, op := Go.Op.call { callee := Go.Callee.value (Go.Operand.func 26), args := #[Go.Operand.tmp 92, Go.Operand.tmp 94], argTypes := #[44, 45] }, type := 45, pos := _, after := #[{ on := 6, ground := Go.Ground.data }, { on := 8, ground := Go.Ground.data }, { on := 5, ground := Go.Ground.chain }], guard := none }) rfl (fun K hK => ?_) AllReadyH.nil
      go_simp
      refine RL.out.mono ?_; rintro e w6 ⟨v6, rfl, h6⟩
      have P6 := Lib.hid (P5.out.whole h6.out.1 (h6.out.2.2.mono fun j _ e => .inl e))
      have X6 := Lib.hid (X5.out.frm h6.out.2.2 HCN.out.2)
      obtain ⟨_, _, _, _, _, _, s6⟩ := X6.out.cells
      obtain ⟨A5, c5, rfl, hin5, hlx5⟩ := own_inW (own_frm own5.out h6.out.2.2 (fun j hj e => by have := (own5.out.lt j hj).1; have := P4.out.rh.lt; omega))
      obtain ⟨A6, c6, rfl, hin6, hlx6⟩ := own_inW h6.out.2.1
      have SM := Lib.hid (same_yes hin5 hin6 hlx5 (by omega))
      go_wp2_with fail
      refine hK.out _ _ ?_ (fun hHeld => ?_)
      · (try dsimp only); go_keep
      clear hK K
      (try simp only [Act.put, List.setIfInBounds_toArray, List.set_cons_zero, List.set_cons_succ])
      refine wpAnyH_ready (rs := [10]) (by kernel_rfl) (by simp) ?_
      refine AllReadyH.cons (o := { dst := some 96, op := Go.Op.call { callee := Go.Callee.value (Go.Operand.func 24), args := #[Go.Operand.tmp 91, Go.Operand.tmp 95], argTypes := #[45, 45] }, type := 4, pos := _, after := #[{ on := 5, ground := Go.Ground.data }, { on := 9, ground := Go.Ground.data }, { on := 9, ground := Go.Ground.chain }], guard := none }) rfl (fun K hK => ?_) AllReadyH.nil
      go_simp
      refine SM.out.mono ?_; rintro e w7 ⟨rfl, b7⟩
      have P7 := Lib.hid (P6.out.below b7)
      have X7 := Lib.hid (X6.out.below b7)
      obtain ⟨_, _, _, _, _, _, u6⟩ := X7.out.cells
      go_wp2_with fail
      refine hK.out _ _ ?_ (fun hHeld => ?_)
      · (try dsimp only); go_keep
      clear hK K
      (try simp only [Act.put, List.setIfInBounds_toArray, List.set_cons_zero, List.set_cons_succ])
      refine wpAnyH_take (i := 11) (oi := { dst := some 14, op := Go.Op.assign (Go.Operand.tmp 96), type := 4, pos := _, after := #[{ on := 10, ground := Go.Ground.data }, { on := 10, ground := Go.Ground.chain }, { on := 0, ground := Go.Ground.phase }, { on := 1, ground := Go.Ground.phase }, { on := 2, ground := Go.Ground.phase }, { on := 3, ground := Go.Ground.phase }, { on := 4, ground := Go.Ground.phase }, { on := 5, ground := Go.Ground.phase }, { on := 6, ground := Go.Ground.phase }, { on := 7, ground := Go.Ground.phase }, { on := 8, ground := Go.Ground.phase }, { on := 9, ground := Go.Ground.phase }, { on := 10, ground := Go.Ground.phase }], guard := none }) (v := ?vc11) rfl (by kernel_rfl) (by kernel_rfl) (by kernel_rfl) (fun _ _ _ h => h) (Or.inl ⟨by rfl, ?hyc11⟩) (by assumption) ?_
      case hyc11 => (intro wz hSw; (try dsimp only at hSw); go_simp; try with_reducible rfl)
      (try simp only [Act.put, List.setIfInBounds_toArray, List.set_cons_zero, List.set_cons_succ])
      refine wpAnyH_done (by kernel_rfl) ?_ _
      rw [← HM2.out] at P7
      clear hHeld BK CL WD RL SM X2 P2 P3 P4 P5 P6 X3 X4 X5 X6 X7 y6 z6 t6 s6 u6 hin3 hin4 hin5 hin6 h4 h6 own5 b5 b7 x0 x1 x2 x3 x4 x5 x6 HM2
      as_aux_lemma =>
        have GE := Lib.hid (get_any P7.out.hp p ai HPU.out HAI.out.1 HAI.out.2)
        have RG := Lib.hid (rget_any P7.out.rh p ai HPU.out HAI.out)
        have HE := Lib.hid (hhead_any P7.out.hp p HPU.out)
        have RE := Lib.hid (rhead_of P7.out.rh p HPU.out)
        obtain ⟨g1, hg1⟩ : ∃ z, z = (getR m2 p ai).1 := ⟨_, rfl⟩
        obtain ⟨g2, hg2⟩ : ∃ z, z = (getR m2 p ai).2 := ⟨_, rfl⟩
        obtain ⟨g3, hg3⟩ : ∃ z, z = (headR m2 p).1 := ⟨_, rfl⟩
        obtain ⟨g4, hg4⟩ : ∃ z, z = (headR m2 p).2.1 := ⟨_, rfl⟩
        obtain ⟨g5, hg5⟩ : ∃ z, z = (headR m2 p).2.2.1 := ⟨_, rfl⟩
        obtain ⟨g6, hg6⟩ : ∃ z, z = (headR m2 p).2.2.2 := ⟨_, rfl⟩
        rw [← hg1, ← hg2] at GE RG
        rw [← hg3, ← hg4, ← hg5, ← hg6] at HE RE
        clear hg1 hg2 hg3 hg4 hg5 hg6
        go_wp2_with fail
        refine GE.out.mono ?_; rintro e w9 ⟨rfl, rfl⟩
        go_wp2_with fail
        refine RG.out.mono ?_; rintro e w9 ⟨rfl, rfl⟩
        go_wp2_with fail
        refine HE.out.mono ?_; rintro e w9 ⟨rfl, rfl⟩
        go_wp2_with fail
        refine RE.out.mono ?_; rintro e w9 ⟨rfl, rfl⟩
        clear GE RG HE RE
        have PD := Lib.hid (P7.out.below (bdr w7))
        obtain ⟨AR, cR, r0, r1x, r2, _, _, _⟩ := P7.out.rh.cells
        have US := Lib.hid (used_any PD.out.hp)
        have TU := Lib.hid (turns_any PD.out.hp)
        have PU := Lib.hid (putH_any PD.out.hp)
        obtain ⟨LL, hLL⟩ : ∃ z, z = m2.ws.length := ⟨_, rfl⟩
        obtain ⟨tt, htt⟩ : ∃ z, z = m2.turns := ⟨_, rfl⟩
        obtain ⟨SS, hSS⟩ : ∃ z, z = strOfNums (encM m2) := ⟨_, rfl⟩
        rw [← hLL] at US r1x
        rw [← htt] at TU r2
        have ESS := Lib.hid hSS
        have RCL : Hid (∀ W, Below w7.drew.heap.size w7.drew W → W.cell? ⟨Hr, 1, none⟩ = some (.slice AR LL cR) ∧ W.cell? ⟨Hr, 2, none⟩ = some (.int .i64 tt)) := Lib.hid (fun W hb => ⟨(hb.cell (p := ⟨Hr, 1, none⟩) PD.out.rh.lt).trans r1x, (hb.cell (p := ⟨Hr, 2, none⟩) PD.out.rh.lt).trans r2⟩)
        have r1 := r1x
        clear hLL htt hSS r0 r1x
        go_wp2_with fail
        refine wp_region_held_drew (S := fun w' => w'.cell? ⟨Hr, 1, none⟩ = some (.slice AR LL cR) ∧ w'.cell? ⟨Hr, 2, none⟩ = some (.int .i64 tt)) (by kernel_rfl) ?_ (fun hHeld => ?_)
        · (try dsimp only); go_keep
        refine wpAnyH_take (i := 0) (oi := { dst := some 179, op := Go.Op.move (Go.Operand.tmp 14), type := 4, pos := _, after := #[], guard := none }) (v := ?vz0) rfl (by kernel_rfl) (by kernel_rfl) (by kernel_rfl) (fun _ _ _ h => h) (Or.inl ⟨by rfl, ?hyz0⟩) (by assumption) ?_
        case hyz0 => (intro wz hSw; (try dsimp only at hSw); go_simp; try with_reducible rfl)
        (try simp only [Act.put, List.setIfInBounds_toArray, List.set_cons_zero, List.set_cons_succ])
        refine wpAnyH_take (i := 1) (oi := { dst := some 180, op := Go.Op.unOp Go.UnOp.not 4 (Go.Operand.tmp 179), type := 4, pos := _, after := #[{ on := 0, ground := Go.Ground.data }], guard := none }) (v := ?vz1) rfl (by kernel_rfl) (by kernel_rfl) (by kernel_rfl) (fun _ _ _ h => h) (Or.inl ⟨by rfl, ?hyz1⟩) (by assumption) ?_
        case hyz1 => (intro wz hSw; (try dsimp only at hSw); go_simp; try with_reducible rfl)
        (try simp only [Act.put, List.setIfInBounds_toArray, List.set_cons_zero, List.set_cons_succ])
        refine wpAnyH_take (i := 2) (oi := { dst := some 181, op := Go.Op.move (Go.Operand.tmp 180), type := 4, pos := _, after := #[{ on := 1, ground := Go.Ground.data }], guard := none }) (v := ?vz2) rfl (by kernel_rfl) (by kernel_rfl) (by kernel_rfl) (fun _ _ _ h => h) (Or.inl ⟨by rfl, ?hyz2⟩) (by assumption) ?_
        case hyz2 => (intro wz hSw; (try dsimp only at hSw); go_simp; try with_reducible rfl)
        (try simp only [Act.put, List.setIfInBounds_toArray, List.set_cons_zero, List.set_cons_succ])
        refine wpAnyH_take (i := 3) (oi := { dst := some 182, op := Go.Op.move (Go.Operand.tmp 19), type := 28, pos := _, after := #[{ on := 2, ground := Go.Ground.guard }], guard := some (2, false) }) (v := ?vz3) rfl (by kernel_rfl) (by kernel_rfl) (by kernel_rfl) (fun _ _ _ h => h) (Or.inl ⟨by rfl, ?hyz3⟩) (by assumption) ?_
        case hyz3 => (intro wz hSw; (try dsimp only at hSw); go_simp; try with_reducible rfl)
        (try simp only [Act.put, List.setIfInBounds_toArray, List.set_cons_zero, List.set_cons_succ])
        refine wpAnyH_take (i := 4) (oi := { dst := some 183, op := Go.Op.move (Go.Operand.tmp 21), type := 27, pos := _, after := #[{ on := 2, ground := Go.Ground.guard }], guard := some (2, false) }) (v := ?vz4) rfl (by kernel_rfl) (by kernel_rfl) (by kernel_rfl) (fun _ _ _ h => h) (Or.inl ⟨by rfl, ?hyz4⟩) (by assumption) ?_
        case hyz4 => (intro wz hSw; (try dsimp only at hSw); go_simp; try with_reducible rfl)
        (try simp only [Act.put, List.setIfInBounds_toArray, List.set_cons_zero, List.set_cons_succ])
        refine wpAnyH_take (i := 5) (oi := { dst := some 184, op := Go.Op.binOp Go.BinOp.neq 27 (Go.Operand.tmp 182) (Go.Operand.tmp 183) 27, type := 4, pos := _, after := #[{ on := 3, ground := Go.Ground.data }, { on := 4, ground := Go.Ground.data }, { on := 2, ground := Go.Ground.guard }], guard := some (2, false) }) (v := ?vz5) rfl (by kernel_rfl) (by kernel_rfl) (by kernel_rfl) (fun _ _ _ h => h) (Or.inl ⟨by rfl, ?hyz5⟩) (by assumption) ?_
        case hyz5 => (intro wz hSw; (try dsimp only at hSw); go_simp; try with_reducible rfl)
        (try simp only [Act.put, List.setIfInBounds_toArray, List.set_cons_zero, List.set_cons_succ])
        refine wpAnyH_take (i := 6) (oi := { dst := some 185, op := Go.Op.pick (Go.Operand.tmp 181) (Go.Operand.const (Go.Value.bool true)) (Go.Operand.tmp 184), type := 4, pos := _, after := #[{ on := 2, ground := Go.Ground.data }, { on := 5, ground := Go.Ground.data }], guard := none }) (v := ?vz6) rfl (by kernel_rfl) (by kernel_rfl) (by kernel_rfl) (fun _ _ _ h => h) (Or.inl ⟨by rfl, ?hyz6⟩) (by assumption) ?_
        case hyz6 => (intro wz hSw; (try dsimp only at hSw); go_simp; try with_reducible rfl)
        (try simp only [Act.put, List.setIfInBounds_toArray, List.set_cons_zero, List.set_cons_succ])
        refine wpAnyH_take (i := 7) (oi := { dst := some 186, op := Go.Op.move (Go.Operand.tmp 185), type := 4, pos := _, after := #[{ on := 6, ground := Go.Ground.data }, { on := 2, ground := Go.Ground.chain }], guard := none }) (v := ?vz7) rfl (by kernel_rfl) (by kernel_rfl) (by kernel_rfl) (fun _ _ _ h => h) (Or.inl ⟨by rfl, ?hyz7⟩) (by assumption) ?_
        case hyz7 => (intro wz hSw; (try dsimp only at hSw); go_simp; try with_reducible rfl)
        (try simp only [Act.put, List.setIfInBounds_toArray, List.set_cons_zero, List.set_cons_succ])
        refine wpAnyH_take (i := 8) (oi := { dst := some 187, op := Go.Op.move (Go.Operand.tmp 20), type := 24, pos := _, after := #[{ on := 7, ground := Go.Ground.guard }], guard := some (7, false) }) (v := ?vz8) rfl (by kernel_rfl) (by kernel_rfl) (by kernel_rfl) (fun _ _ _ h => h) (Or.inl ⟨by rfl, ?hyz8⟩) (by assumption) ?_
        case hyz8 => (intro wz hSw; (try dsimp only at hSw); go_simp; try with_reducible rfl)
        (try simp only [Act.put, List.setIfInBounds_toArray, List.set_cons_zero, List.set_cons_succ])
        refine wpAnyH_take (i := 9) (oi := { dst := some 188, op := Go.Op.move (Go.Operand.tmp 22), type := 24, pos := _, after := #[{ on := 7, ground := Go.Ground.guard }], guard := some (7, false) }) (v := ?vz9) rfl (by kernel_rfl) (by kernel_rfl) (by kernel_rfl) (fun _ _ _ h => h) (Or.inl ⟨by rfl, ?hyz9⟩) (by assumption) ?_
        case hyz9 => (intro wz hSw; (try dsimp only at hSw); go_simp; try with_reducible rfl)
        (try simp only [Act.put, List.setIfInBounds_toArray, List.set_cons_zero, List.set_cons_succ])
        refine wpAnyH_take (i := 10) (oi := { dst := some 189, op := Go.Op.binOp Go.BinOp.neq 24 (Go.Operand.tmp 187) (Go.Operand.tmp 188) 24, type := 4, pos := _, after := #[{ on := 8, ground := Go.Ground.data }, { on := 9, ground := Go.Ground.data }, { on := 7, ground := Go.Ground.guard }], guard := some (7, false) }) (v := ?vz10) rfl (by kernel_rfl) (by kernel_rfl) (by kernel_rfl) (fun _ _ _ h => h) (Or.inl ⟨by rfl, ?hyz10⟩) (by assumption) ?_
        case hyz10 => (intro wz hSw; (try dsimp only at hSw); go_simp; try with_reducible rfl)
        (try simp only [Act.put, List.setIfInBounds_toArray, List.set_cons_zero, List.set_cons_succ])
        refine wpAnyH_take (i := 11) (oi := { dst := some 190, op := Go.Op.pick (Go.Operand.tmp 186) (Go.Operand.const (Go.Value.bool true)) (Go.Operand.tmp 189), type := 4, pos := _, after := #[{ on := 7, ground := Go.Ground.data }, { on := 10, ground := Go.Ground.data }], guard := none }) (v := ?vz11) rfl (by kernel_rfl) (by kernel_rfl) (by kernel_rfl) (fun _ _ _ h => h) (Or.inl ⟨by rfl, ?hyz11⟩) (by assumption) ?_
        case hyz11 => (intro wz hSw; (try dsimp only at hSw); go_simp; try with_reducible rfl)
        (try simp only [Act.put, List.setIfInBounds_toArray, List.set_cons_zero, List.set_cons_succ])
        refine wpAnyH_take (i := 12) (oi := { dst := some 191, op := Go.Op.move (Go.Operand.tmp 190), type := 4, pos := _, after := #[{ on := 11, ground := Go.Ground.data }, { on := 7, ground := Go.Ground.chain }], guard := none }) (v := ?vz12) rfl (by kernel_rfl) (by kernel_rfl) (by kernel_rfl) (fun _ _ _ h => h) (Or.inl ⟨by rfl, ?hyz12⟩) (by assumption) ?_
        case hyz12 => (intro wz hSw; (try dsimp only at hSw); go_simp; try with_reducible rfl)
        (try simp only [Act.put, List.setIfInBounds_toArray, List.set_cons_zero, List.set_cons_succ])
        refine wpAnyH_take (i := 13) (oi := { dst := some 192, op := Go.Op.move (Go.Operand.tmp 23), type := 3, pos := _, after := #[{ on := 12, ground := Go.Ground.guard }], guard := some (12, false) }) (v := ?vz13) rfl (by kernel_rfl) (by kernel_rfl) (by kernel_rfl) (fun _ _ _ h => h) (Or.inl ⟨by rfl, ?hyz13⟩) (by assumption) ?_
        case hyz13 => (intro wz hSw; (try dsimp only at hSw); go_simp; try with_reducible rfl)
        (try simp only [Act.put, List.setIfInBounds_toArray, List.set_cons_zero, List.set_cons_succ])
        refine wpAnyH_take (i := 14) (oi := { dst := some 193, op := Go.Op.move (Go.Operand.tmp 27), type := 3, pos := _, after := #[{ on := 12, ground := Go.Ground.guard }], guard := some (12, false) }) (v := ?vz14) rfl (by kernel_rfl) (by kernel_rfl) (by kernel_rfl) (fun _ _ _ h => h) (Or.inl ⟨by rfl, ?hyz14⟩) (by assumption) ?_
        case hyz14 => (intro wz hSw; (try dsimp only at hSw); go_simp; try with_reducible rfl)
        (try simp only [Act.put, List.setIfInBounds_toArray, List.set_cons_zero, List.set_cons_succ])
        refine wpAnyH_take (i := 15) (oi := { dst := some 194, op := Go.Op.binOp Go.BinOp.neq 3 (Go.Operand.tmp 192) (Go.Operand.tmp 193) 3, type := 4, pos := _, after := #[{ on := 13, ground := Go.Ground.data }, { on := 14, ground := Go.Ground.data }, { on := 12, ground := Go.Ground.guard }], guard := some (12, false) }) (v := ?vz15) rfl (by kernel_rfl) (by kernel_rfl) (by kernel_rfl) (fun _ _ _ h => h) (Or.inl ⟨by rfl, ?hyz15⟩) (by assumption) ?_
        case hyz15 => (intro wz hSw; (try dsimp only at hSw); go_simp; try with_reducible rfl)
        (try simp only [Act.put, List.setIfInBounds_toArray, List.set_cons_zero, List.set_cons_succ])
        refine wpAnyH_take (i := 16) (oi := { dst := some 195, op := Go.Op.pick (Go.Operand.tmp 191) (Go.Operand.const (Go.Value.bool true)) (Go.Operand.tmp 194), type := 4, pos := _, after := #[{ on := 12, ground := Go.Ground.data }, { on := 15, ground := Go.Ground.data }], guard := none }) (v := ?vz16) rfl (by kernel_rfl) (by kernel_rfl) (by kernel_rfl) (fun _ _ _ h => h) (Or.inl ⟨by rfl, ?hyz16⟩) (by assumption) ?_
        case hyz16 => (intro wz hSw; (try dsimp only at hSw); go_simp; try with_reducible rfl)
        (try simp only [Act.put, List.setIfInBounds_toArray, List.set_cons_zero, List.set_cons_succ])
        refine wpAnyH_take (i := 17) (oi := { dst := some 196, op := Go.Op.move (Go.Operand.tmp 195), type := 4, pos := _, after := #[{ on := 16, ground := Go.Ground.data }, { on := 12, ground := Go.Ground.chain }], guard := none }) (v := ?vz17) rfl (by kernel_rfl) (by kernel_rfl) (by kernel_rfl) (fun _ _ _ h => h) (Or.inl ⟨by rfl, ?hyz17⟩) (by assumption) ?_
        case hyz17 => (intro wz hSw; (try dsimp only at hSw); go_simp; try with_reducible rfl)
        (try simp only [Act.put, List.setIfInBounds_toArray, List.set_cons_zero, List.set_cons_succ])
        refine wpAnyH_take (i := 18) (oi := { dst := some 197, op := Go.Op.move (Go.Operand.tmp 24), type := 3, pos := _, after := #[{ on := 17, ground := Go.Ground.guard }], guard := some (17, false) }) (v := ?vz18) rfl (by kernel_rfl) (by kernel_rfl) (by kernel_rfl) (fun _ _ _ h => h) (Or.inl ⟨by rfl, ?hyz18⟩) (by assumption) ?_
        case hyz18 => (intro wz hSw; (try dsimp only at hSw); go_simp; try with_reducible rfl)
        (try simp only [Act.put, List.setIfInBounds_toArray, List.set_cons_zero, List.set_cons_succ])
        refine wpAnyH_take (i := 19) (oi := { dst := some 198, op := Go.Op.move (Go.Operand.tmp 28), type := 3, pos := _, after := #[{ on := 17, ground := Go.Ground.guard }], guard := some (17, false) }) (v := ?vz19) rfl (by kernel_rfl) (by kernel_rfl) (by kernel_rfl) (fun _ _ _ h => h) (Or.inl ⟨by rfl, ?hyz19⟩) (by assumption) ?_
        case hyz19 => (intro wz hSw; (try dsimp only at hSw); go_simp; try with_reducible rfl)
        (try simp only [Act.put, List.setIfInBounds_toArray, List.set_cons_zero, List.set_cons_succ])
        refine wpAnyH_take (i := 20) (oi := { dst := some 199, op := Go.Op.binOp Go.BinOp.neq 3 (Go.Operand.tmp 197) (Go.Operand.tmp 198) 3, type := 4, pos := _, after := #[{ on := 18, ground := Go.Ground.data }, { on := 19, ground := Go.Ground.data }, { on := 17, ground := Go.Ground.guard }], guard := some (17, false) }) (v := ?vz20) rfl (by kernel_rfl) (by kernel_rfl) (by kernel_rfl) (fun _ _ _ h => h) (Or.inl ⟨by rfl, ?hyz20⟩) (by assumption) ?_
        case hyz20 => (intro wz hSw; (try dsimp only at hSw); go_simp; try with_reducible rfl)
        (try simp only [Act.put, List.setIfInBounds_toArray, List.set_cons_zero, List.set_cons_succ])
        refine wpAnyH_take (i := 21) (oi := { dst := some 200, op := Go.Op.pick (Go.Operand.tmp 196) (Go.Operand.const (Go.Value.bool true)) (Go.Operand.tmp 199), type := 4, pos := _, after := #[{ on := 17, ground := Go.Ground.data }, { on := 20, ground := Go.Ground.data }], guard := none }) (v := ?vz21) rfl (by kernel_rfl) (by kernel_rfl) (by kernel_rfl) (fun _ _ _ h => h) (Or.inl ⟨by rfl, ?hyz21⟩) (by assumption) ?_
        case hyz21 => (intro wz hSw; (try dsimp only at hSw); go_simp; try with_reducible rfl)
        (try simp only [Act.put, List.setIfInBounds_toArray, List.set_cons_zero, List.set_cons_succ])
        refine wpAnyH_take (i := 22) (oi := { dst := some 201, op := Go.Op.move (Go.Operand.tmp 200), type := 4, pos := _, after := #[{ on := 21, ground := Go.Ground.data }, { on := 17, ground := Go.Ground.chain }], guard := none }) (v := ?vz22) rfl (by kernel_rfl) (by kernel_rfl) (by kernel_rfl) (fun _ _ _ h => h) (Or.inl ⟨by rfl, ?hyz22⟩) (by assumption) ?_
        case hyz22 => (intro wz hSw; (try dsimp only at hSw); go_simp; try with_reducible rfl)
        (try simp only [Act.put, List.setIfInBounds_toArray, List.set_cons_zero, List.set_cons_succ])
        refine wpAnyH_take (i := 23) (oi := { dst := some 202, op := Go.Op.move (Go.Operand.tmp 25), type := 3, pos := _, after := #[{ on := 22, ground := Go.Ground.guard }], guard := some (22, false) }) (v := ?vz23) rfl (by kernel_rfl) (by kernel_rfl) (by kernel_rfl) (fun _ _ _ h => h) (Or.inl ⟨by rfl, ?hyz23⟩) (by assumption) ?_
        case hyz23 => (intro wz hSw; (try dsimp only at hSw); go_simp; try with_reducible rfl)
        (try simp only [Act.put, List.setIfInBounds_toArray, List.set_cons_zero, List.set_cons_succ])
        refine wpAnyH_take (i := 24) (oi := { dst := some 203, op := Go.Op.move (Go.Operand.tmp 29), type := 3, pos := _, after := #[{ on := 22, ground := Go.Ground.guard }], guard := some (22, false) }) (v := ?vz24) rfl (by kernel_rfl) (by kernel_rfl) (by kernel_rfl) (fun _ _ _ h => h) (Or.inl ⟨by rfl, ?hyz24⟩) (by assumption) ?_
        case hyz24 => (intro wz hSw; (try dsimp only at hSw); go_simp; try with_reducible rfl)
        (try simp only [Act.put, List.setIfInBounds_toArray, List.set_cons_zero, List.set_cons_succ])
        refine wpAnyH_take (i := 25) (oi := { dst := some 204, op := Go.Op.binOp Go.BinOp.neq 3 (Go.Operand.tmp 202) (Go.Operand.tmp 203) 3, type := 4, pos := _, after := #[{ on := 23, ground := Go.Ground.data }, { on := 24, ground := Go.Ground.data }, { on := 22, ground := Go.Ground.guard }], guard := some (22, false) }) (v := ?vz25) rfl (by kernel_rfl) (by kernel_rfl) (by kernel_rfl) (fun _ _ _ h => h) (Or.inl ⟨by rfl, ?hyz25⟩) (by assumption) ?_
        case hyz25 => (intro wz hSw; (try dsimp only at hSw); go_simp; try with_reducible rfl)
        (try simp only [Act.put, List.setIfInBounds_toArray, List.set_cons_zero, List.set_cons_succ])
        refine wpAnyH_take (i := 26) (oi := { dst := some 205, op := Go.Op.pick (Go.Operand.tmp 201) (Go.Operand.const (Go.Value.bool true)) (Go.Operand.tmp 204), type := 4, pos := _, after := #[{ on := 22, ground := Go.Ground.data }, { on := 25, ground := Go.Ground.data }], guard := none }) (v := ?vz26) rfl (by kernel_rfl) (by kernel_rfl) (by kernel_rfl) (fun _ _ _ h => h) (Or.inl ⟨by rfl, ?hyz26⟩) (by assumption) ?_
        case hyz26 => (intro wz hSw; (try dsimp only at hSw); go_simp; try with_reducible rfl)
        (try simp only [Act.put, List.setIfInBounds_toArray, List.set_cons_zero, List.set_cons_succ])
        refine wpAnyH_take (i := 27) (oi := { dst := some 206, op := Go.Op.move (Go.Operand.tmp 205), type := 4, pos := _, after := #[{ on := 26, ground := Go.Ground.data }, { on := 22, ground := Go.Ground.chain }], guard := none }) (v := ?vz27) rfl (by kernel_rfl) (by kernel_rfl) (by kernel_rfl) (fun _ _ _ h => h) (Or.inl ⟨by rfl, ?hyz27⟩) (by assumption) ?_
        case hyz27 => (intro wz hSw; (try dsimp only at hSw); go_simp; try with_reducible rfl)
        (try simp only [Act.put, List.setIfInBounds_toArray, List.set_cons_zero, List.set_cons_succ])
        refine wpAnyH_take (i := 28) (oi := { dst := some 207, op := Go.Op.move (Go.Operand.tmp 26), type := 24, pos := _, after := #[{ on := 27, ground := Go.Ground.guard }], guard := some (27, false) }) (v := ?vz28) rfl (by kernel_rfl) (by kernel_rfl) (by kernel_rfl) (fun _ _ _ h => h) (Or.inl ⟨by rfl, ?hyz28⟩) (by assumption) ?_
        case hyz28 => (intro wz hSw; (try dsimp only at hSw); go_simp; try with_reducible rfl)
        (try simp only [Act.put, List.setIfInBounds_toArray, List.set_cons_zero, List.set_cons_succ])
        refine wpAnyH_take (i := 29) (oi := { dst := some 208, op := Go.Op.move (Go.Operand.tmp 30), type := 24, pos := _, after := #[{ on := 27, ground := Go.Ground.guard }], guard := some (27, false) }) (v := ?vz29) rfl (by kernel_rfl) (by kernel_rfl) (by kernel_rfl) (fun _ _ _ h => h) (Or.inl ⟨by rfl, ?hyz29⟩) (by assumption) ?_
        case hyz29 => (intro wz hSw; (try dsimp only at hSw); go_simp; try with_reducible rfl)
        (try simp only [Act.put, List.setIfInBounds_toArray, List.set_cons_zero, List.set_cons_succ])
        refine wpAnyH_take (i := 30) (oi := { dst := some 209, op := Go.Op.binOp Go.BinOp.neq 24 (Go.Operand.tmp 207) (Go.Operand.tmp 208) 24, type := 4, pos := _, after := #[{ on := 28, ground := Go.Ground.data }, { on := 29, ground := Go.Ground.data }, { on := 27, ground := Go.Ground.guard }], guard := some (27, false) }) (v := ?vz30) rfl (by kernel_rfl) (by kernel_rfl) (by kernel_rfl) (fun _ _ _ h => h) (Or.inl ⟨by rfl, ?hyz30⟩) (by assumption) ?_
        case hyz30 => (intro wz hSw; (try dsimp only at hSw); go_simp; try with_reducible rfl)
        (try simp only [Act.put, List.setIfInBounds_toArray, List.set_cons_zero, List.set_cons_succ])
        refine wpAnyH_take (i := 31) (oi := { dst := some 210, op := Go.Op.pick (Go.Operand.tmp 206) (Go.Operand.const (Go.Value.bool true)) (Go.Operand.tmp 209), type := 4, pos := _, after := #[{ on := 27, ground := Go.Ground.data }, { on := 30, ground := Go.Ground.data }], guard := none }) (v := ?vz31) rfl (by kernel_rfl) (by kernel_rfl) (by kernel_rfl) (fun _ _ _ h => h) (Or.inl ⟨by rfl, ?hyz31⟩) (by assumption) ?_
        case hyz31 => (intro wz hSw; (try dsimp only at hSw); go_simp; try with_reducible rfl)
        (try simp only [Act.put, List.setIfInBounds_toArray, List.set_cons_zero, List.set_cons_succ])
        refine wpAnyH_take (i := 32) (oi := { dst := some 211, op := Go.Op.move (Go.Operand.tmp 210), type := 4, pos := _, after := #[{ on := 31, ground := Go.Ground.data }, { on := 27, ground := Go.Ground.chain }], guard := none }) (v := ?vz32) rfl (by kernel_rfl) (by kernel_rfl) (by kernel_rfl) (fun _ _ _ h => h) (Or.inl ⟨by rfl, ?hyz32⟩) (by assumption) ?_
        case hyz32 => (intro wz hSw; (try dsimp only at hSw); go_simp; try with_reducible rfl)
        (try simp only [Act.put, List.setIfInBounds_toArray, List.set_cons_zero, List.set_cons_succ])
        refine wpAnyH_take (i := 33) (oi := { dst := some 212, op := Go.Op.move (Go.Operand.tmp 9), type := 23, pos := _, after := #[{ on := 32, ground := Go.Ground.guard }], guard := some (32, false) }) (v := ?vz33) rfl (by kernel_rfl) (by kernel_rfl) (by kernel_rfl) (fun _ _ _ h => h) (Or.inl ⟨by rfl, ?hyz33⟩) (by assumption) ?_
        case hyz33 => (intro wz hSw; (try dsimp only at hSw); go_simp; try with_reducible rfl)
        (try simp only [Act.put, List.setIfInBounds_toArray, List.set_cons_zero, List.set_cons_succ])
        refine wpAnyH_take (i := 35) (oi := { dst := some 214, op := Go.Op.move (Go.Operand.tmp 11), type := 44, pos := _, after := #[{ on := 32, ground := Go.Ground.guard }], guard := some (32, false) }) (v := ?vz35) rfl (by kernel_rfl) (by kernel_rfl) (by kernel_rfl) (fun _ _ _ h => h) (Or.inl ⟨by rfl, ?hyz35⟩) (by assumption) ?_
        case hyz35 => (intro wz hSw; (try dsimp only at hSw); go_simp; try with_reducible rfl)
        (try simp only [Act.put, List.setIfInBounds_toArray, List.set_cons_zero, List.set_cons_succ])
        refine wpAnyH_take (i := 36) (oi := { dst := some 215, op := Go.Op.nilCheck (Go.Operand.tmp 214), type := 0, pos := _, after := #[{ on := 35, ground := Go.Ground.data }, { on := 32, ground := Go.Ground.guard }], guard := some (32, false) }) (v := ?vz36) rfl (by kernel_rfl) (by kernel_rfl) (by kernel_rfl) (fun _ _ _ h => h) (Or.inl ⟨by rfl, ?hyz36⟩) (by assumption) ?_
        case hyz36 => (intro wz hSw; (try dsimp only at hSw); go_simp; try with_reducible rfl)
        (try simp only [Act.put, List.setIfInBounds_toArray, List.set_cons_zero, List.set_cons_succ])
        refine wpAnyH_take (i := 37) (oi := { dst := some 216, op := Go.Op.fieldAddr 47 (Go.Operand.tmp 215) 1, type := 0, pos := _, after := #[{ on := 36, ground := Go.Ground.data }, { on := 32, ground := Go.Ground.guard }], guard := some (32, false) }) (v := ?vz37) rfl (by kernel_rfl) (by kernel_rfl) (by kernel_rfl) (fun _ _ _ h => h) (Or.inl ⟨by rfl, ?hyz37⟩) (by assumption) ?_
        case hyz37 => (intro wz hSw; (try dsimp only at hSw); go_simp; try with_reducible rfl)
        (try simp only [Act.put, List.setIfInBounds_toArray, List.set_cons_zero, List.set_cons_succ])
        refine wpAnyH_take (i := 38) (oi := { dst := some 217, op := Go.Op.load 45 (Go.Operand.tmp 216), type := 45, pos := _, after := #[{ on := 37, ground := Go.Ground.data }, { on := 32, ground := Go.Ground.guard }], guard := some (32, false) }) (v := ?vz38) rfl (by kernel_rfl) (by kernel_rfl) (by kernel_rfl) (fun _ _ _ h => h) (Or.inl ⟨by rfl, ?hyz38⟩) (by assumption) ?_
        case hyz38 => (intro wz hSw; (try dsimp only at hSw); go_simp; try with_reducible rfl)
        (try simp only [Act.put, List.setIfInBounds_toArray, List.set_cons_zero, List.set_cons_succ])
        refine wpAnyH_take (i := 39) (oi := { dst := some 218, op := Go.Op.call { callee := Go.Callee.builtin Go.Builtin.len, args := #[Go.Operand.tmp 217], argTypes := #[45] }, type := 3, pos := _, after := #[{ on := 38, ground := Go.Ground.data }, { on := 32, ground := Go.Ground.guard }], guard := some (32, false) }) (v := ?vz39) rfl (by kernel_rfl) (by kernel_rfl) (by kernel_rfl) (fun _ _ _ h => h) (Or.inl ⟨by rfl, ?hyz39⟩) (by assumption) ?_
        case hyz39 => (intro wz hSw; (try dsimp only at hSw); go_simp; try with_reducible rfl)
        (try simp only [Act.put, List.setIfInBounds_toArray, List.set_cons_zero, List.set_cons_succ])
        refine wpAnyH_ready (rs := [34]) (by kernel_rfl) (by simp) ?_
        refine AllReadyH.cons (o := { dst := some 213, op := Go.Op.call { callee := Go.Callee.value (Go.Operand.func 29), args := #[Go.Operand.tmp 212], argTypes := #[23] }, type := 3, pos := _, after := #[{ on := 33, ground := Go.Ground.data }, { on := 32, ground := Go.Ground.chain }, { on := 32, ground := Go.Ground.guard }], guard := some (32, false) }) rfl (fun K hK => ?_) AllReadyH.nil
        rw [if_pos (by rfl)]
        go_simp
        refine (US.out).mono ?_; rintro e w10 ⟨rfl, rfl⟩
        go_wp2_with fail
        refine hK.out _ _ ?_ (fun hHeld => ?_)
        · (try dsimp only); go_keep
        clear hK K
        (try simp only [Act.put, List.setIfInBounds_toArray, List.set_cons_zero, List.set_cons_succ])
        refine wpAnyH_take (i := 40) (oi := { dst := some 219, op := Go.Op.binOp Go.BinOp.neq 3 (Go.Operand.tmp 213) (Go.Operand.tmp 218) 3, type := 4, pos := _, after := #[{ on := 34, ground := Go.Ground.data }, { on := 39, ground := Go.Ground.data }, { on := 32, ground := Go.Ground.guard }], guard := some (32, false) }) (v := ?vz40) rfl (by kernel_rfl) (by kernel_rfl) (by kernel_rfl) (fun _ _ _ h => h) (Or.inl ⟨by rfl, ?hyz40⟩) (by assumption) ?_
        case hyz40 => (intro wz hSw; (try dsimp only at hSw); go_simp; try with_reducible rfl)
        (try simp only [Act.put, List.setIfInBounds_toArray, List.set_cons_zero, List.set_cons_succ])
        refine wpAnyH_take (i := 41) (oi := { dst := some 220, op := Go.Op.pick (Go.Operand.tmp 211) (Go.Operand.const (Go.Value.bool true)) (Go.Operand.tmp 219), type := 4, pos := _, after := #[{ on := 32, ground := Go.Ground.data }, { on := 40, ground := Go.Ground.data }], guard := none }) (v := ?vz41) rfl (by kernel_rfl) (by kernel_rfl) (by kernel_rfl) (fun _ _ _ h => h) (Or.inl ⟨by rfl, ?hyz41⟩) (by assumption) ?_
        case hyz41 => (intro wz hSw; (try dsimp only at hSw); go_simp; try with_reducible rfl)
        (try simp only [Act.put, List.setIfInBounds_toArray, List.set_cons_zero, List.set_cons_succ])
        refine wpAnyH_take (i := 42) (oi := { dst := some 221, op := Go.Op.move (Go.Operand.tmp 220), type := 4, pos := _, after := #[{ on := 41, ground := Go.Ground.data }, { on := 34, ground := Go.Ground.chain }], guard := none }) (v := ?vz42) rfl (by kernel_rfl) (by kernel_rfl) (by kernel_rfl) (fun _ _ _ h => h) (Or.inl ⟨by rfl, ?hyz42⟩) (by assumption) ?_
        case hyz42 => (intro wz hSw; (try dsimp only at hSw); go_simp; try with_reducible rfl)
        (try simp only [Act.put, List.setIfInBounds_toArray, List.set_cons_zero, List.set_cons_succ])
        refine wpAnyH_take (i := 43) (oi := { dst := some 222, op := Go.Op.move (Go.Operand.tmp 9), type := 23, pos := _, after := #[{ on := 42, ground := Go.Ground.guard }], guard := some (42, false) }) (v := ?vz43) rfl (by kernel_rfl) (by kernel_rfl) (by kernel_rfl) (fun _ _ _ h => h) (Or.inl ⟨by rfl, ?hyz43⟩) (by assumption) ?_
        case hyz43 => (intro wz hSw; (try dsimp only at hSw); go_simp; try with_reducible rfl)
        (try simp only [Act.put, List.setIfInBounds_toArray, List.set_cons_zero, List.set_cons_succ])
        refine wpAnyH_take (i := 45) (oi := { dst := some 224, op := Go.Op.move (Go.Operand.tmp 11), type := 44, pos := _, after := #[{ on := 42, ground := Go.Ground.guard }], guard := some (42, false) }) (v := ?vz45) rfl (by kernel_rfl) (by kernel_rfl) (by kernel_rfl) (fun _ _ _ h => h) (Or.inl ⟨by rfl, ?hyz45⟩) (by assumption) ?_
        case hyz45 => (intro wz hSw; (try dsimp only at hSw); go_simp; try with_reducible rfl)
        (try simp only [Act.put, List.setIfInBounds_toArray, List.set_cons_zero, List.set_cons_succ])
        refine wpAnyH_take (i := 46) (oi := { dst := some 225, op := Go.Op.nilCheck (Go.Operand.tmp 224), type := 0, pos := _, after := #[{ on := 45, ground := Go.Ground.data }, { on := 42, ground := Go.Ground.guard }], guard := some (42, false) }) (v := ?vz46) rfl (by kernel_rfl) (by kernel_rfl) (by kernel_rfl) (fun _ _ _ h => h) (Or.inl ⟨by rfl, ?hyz46⟩) (by assumption) ?_
        case hyz46 => (intro wz hSw; (try dsimp only at hSw); go_simp; try with_reducible rfl)
        (try simp only [Act.put, List.setIfInBounds_toArray, List.set_cons_zero, List.set_cons_succ])
        refine wpAnyH_take (i := 47) (oi := { dst := some 226, op := Go.Op.fieldAddr 47 (Go.Operand.tmp 225) 2, type := 0, pos := _, after := #[{ on := 46, ground := Go.Ground.data }, { on := 42, ground := Go.Ground.guard }], guard := some (42, false) }) (v := ?vz47) rfl (by kernel_rfl) (by kernel_rfl) (by kernel_rfl) (fun _ _ _ h => h) (Or.inl ⟨by rfl, ?hyz47⟩) (by assumption) ?_
        case hyz47 => (intro wz hSw; (try dsimp only at hSw); go_simp; try with_reducible rfl)
        (try simp only [Act.put, List.setIfInBounds_toArray, List.set_cons_zero, List.set_cons_succ])
        refine wpAnyH_take (i := 48) (oi := { dst := some 227, op := Go.Op.load 3 (Go.Operand.tmp 226), type := 3, pos := _, after := #[{ on := 47, ground := Go.Ground.data }, { on := 42, ground := Go.Ground.guard }], guard := some (42, false) }) (v := ?vz48) rfl (by kernel_rfl) (by kernel_rfl) (by kernel_rfl) (fun _ _ _ h => h) (Or.inl ⟨by rfl, ?hyz48⟩) (by assumption) ?_
        case hyz48 => (intro wz hSw; (try dsimp only at hSw); go_simp; try with_reducible rfl)
        (try simp only [Act.put, List.setIfInBounds_toArray, List.set_cons_zero, List.set_cons_succ])
        refine wpAnyH_ready (rs := [44]) (by kernel_rfl) (by simp) ?_
        refine AllReadyH.cons (o := { dst := some 223, op := Go.Op.call { callee := Go.Callee.value (Go.Operand.func 30), args := #[Go.Operand.tmp 222], argTypes := #[23] }, type := 3, pos := _, after := #[{ on := 43, ground := Go.Ground.data }, { on := 42, ground := Go.Ground.chain }, { on := 42, ground := Go.Ground.guard }], guard := some (42, false) }) rfl (fun K hK => ?_) AllReadyH.nil
        rw [if_pos (by rfl)]
        go_simp
        refine (TU.out).mono ?_; rintro e w10 ⟨rfl, rfl⟩
        go_wp2_with fail
        refine hK.out _ _ ?_ (fun hHeld => ?_)
        · (try dsimp only); go_keep
        clear hK K
        (try simp only [Act.put, List.setIfInBounds_toArray, List.set_cons_zero, List.set_cons_succ])
        refine wpAnyH_take (i := 49) (oi := { dst := some 228, op := Go.Op.binOp Go.BinOp.neq 3 (Go.Operand.tmp 223) (Go.Operand.tmp 227) 3, type := 4, pos := _, after := #[{ on := 44, ground := Go.Ground.data }, { on := 48, ground := Go.Ground.data }, { on := 42, ground := Go.Ground.guard }], guard := some (42, false) }) (v := ?vz49) rfl (by kernel_rfl) (by kernel_rfl) (by kernel_rfl) (fun _ _ _ h => h) (Or.inl ⟨by rfl, ?hyz49⟩) (by assumption) ?_
        case hyz49 => (intro wz hSw; (try dsimp only at hSw); go_simp; try with_reducible rfl)
        (try simp only [Act.put, List.setIfInBounds_toArray, List.set_cons_zero, List.set_cons_succ])
        refine wpAnyH_take (i := 50) (oi := { dst := some 229, op := Go.Op.pick (Go.Operand.tmp 221) (Go.Operand.const (Go.Value.bool true)) (Go.Operand.tmp 228), type := 4, pos := _, after := #[{ on := 42, ground := Go.Ground.data }, { on := 49, ground := Go.Ground.data }], guard := none }) (v := ?vz50) rfl (by kernel_rfl) (by kernel_rfl) (by kernel_rfl) (fun _ _ _ h => h) (Or.inl ⟨by rfl, ?hyz50⟩) (by assumption) ?_
        case hyz50 => (intro wz hSw; (try dsimp only at hSw); go_simp; try with_reducible rfl)
        (try simp only [Act.put, List.setIfInBounds_toArray, List.set_cons_zero, List.set_cons_succ])
        refine wpAnyH_take (i := 51) (oi := { dst := some 230, op := Go.Op.move (Go.Operand.tmp 229), type := 4, pos := _, after := #[{ on := 50, ground := Go.Ground.data }, { on := 44, ground := Go.Ground.chain }], guard := none }) (v := ?vz51) rfl (by kernel_rfl) (by kernel_rfl) (by kernel_rfl) (fun _ _ _ h => h) (Or.inl ⟨by rfl, ?hyz51⟩) (by assumption) ?_
        case hyz51 => (intro wz hSw; (try dsimp only at hSw); go_simp; try with_reducible rfl)
        (try simp only [Act.put, List.setIfInBounds_toArray, List.set_cons_zero, List.set_cons_succ])
        refine wpAnyH_take (i := 52) (oi := { dst := some 231, op := Go.Op.move (Go.Operand.tmp 9), type := 23, pos := _, after := #[{ on := 51, ground := Go.Ground.guard }], guard := some (51, false) }) (v := ?vz52) rfl (by kernel_rfl) (by kernel_rfl) (by kernel_rfl) (fun _ _ _ h => h) (Or.inl ⟨by rfl, ?hyz52⟩) (by assumption) ?_
        case hyz52 => (intro wz hSw; (try dsimp only at hSw); go_simp; try with_reducible rfl)
        (try simp only [Act.put, List.setIfInBounds_toArray, List.set_cons_zero, List.set_cons_succ])
        refine wpAnyH_take (i := 55) (oi := { dst := some 234, op := Go.Op.move (Go.Operand.tmp 11), type := 44, pos := _, after := #[{ on := 51, ground := Go.Ground.guard }], guard := some (51, false) }) (v := ?vz55) rfl (by kernel_rfl) (by kernel_rfl) (by kernel_rfl) (fun _ _ _ h => h) (Or.inl ⟨by rfl, ?hyz55⟩) (by assumption) ?_
        case hyz55 => (intro wz hSw; (try dsimp only at hSw); go_simp; try with_reducible rfl)
        (try simp only [Act.put, List.setIfInBounds_toArray, List.set_cons_zero, List.set_cons_succ])
        refine wpAnyH_ready (rs := [53]) (by kernel_rfl) (by simp) ?_
        refine AllReadyH.cons (o := { dst := some 232, op := Go.Op.call { callee := Go.Callee.value (Go.Operand.func 19), args := #[Go.Operand.tmp 231], argTypes := #[23] }, type := 40, pos := _, after := #[{ on := 52, ground := Go.Ground.data }, { on := 51, ground := Go.Ground.chain }, { on := 51, ground := Go.Ground.guard }], guard := some (51, false) }) rfl (fun K hK => ?_) AllReadyH.nil
        rw [if_pos (by rfl)]
        go_simp
        refine (PU.out).mono ?_; rintro e w10 ⟨v10, rfl, own10, b10⟩
        have cc10 := RCL.out w10 b10.out
        obtain ⟨cc10a, cc10b⟩ := cc10
        go_wp2_with fail
        refine hK.out _ _ ?_ (fun hHeld => ?_)
        · (try dsimp only); go_keep
        clear hK K
        (try simp only [Act.put, List.setIfInBounds_toArray, List.set_cons_zero, List.set_cons_succ])
        have PR := Lib.hid (rput_any (PD.out.rh.below b10.out))
        have cv10 : (convert 40 9 v10).run Try.prog w10 = .ok (.string SS) w10 := by rw [ESS.out]; exact str_own own10.out
        refine upon_mono (S' := fun w' => (w'.cell? ⟨Hr, 1, none⟩ = some (.slice AR LL cR) ∧ w'.cell? ⟨Hr, 2, none⟩ = some (.int .i64 tt)) ∧ (convert 40 9 v10).run Try.prog w' = .ok (.string SS) w') (fun _ h => h.1) _ _ _ _ ?_
        have hHeld2 := And.intro hHeld cv10
        refine wpAnyH_take (i := 54) (oi := { dst := some 233, op := Go.Op.convert 40 9 (Go.Operand.tmp 232), type := 9, pos := _, after := #[{ on := 53, ground := Go.Ground.data }, { on := 51, ground := Go.Ground.guard }], guard := some (51, false) }) (v := ?vz54) rfl (by kernel_rfl) (by kernel_rfl) (by kernel_rfl) (fun _ _ _ h => h) (Or.inl ⟨by rfl, ?hyz54⟩) hHeld2 ?_
        case hyz54 => (intro wz hSw; (try dsimp only at hSw); have hcv := hSw.2; go_simp; try with_reducible rfl)
        (try simp only [Act.put, List.setIfInBounds_toArray, List.set_cons_zero, List.set_cons_succ])
        refine wpAnyH_ready (rs := [56]) (by kernel_rfl) (by simp) ?_
        refine AllReadyH.cons (o := { dst := some 235, op := Go.Op.call { callee := Go.Callee.value (Go.Operand.func 31), args := #[Go.Operand.tmp 234], argTypes := #[44] }, type := 40, pos := _, after := #[{ on := 55, ground := Go.Ground.data }, { on := 53, ground := Go.Ground.chain }, { on := 51, ground := Go.Ground.guard }], guard := some (51, false) }) rfl (fun K hK => ?_) AllReadyH.nil
        rw [if_pos (by rfl)]
        go_simp
        refine (PR.out).mono ?_; rintro e w11 ⟨v11, rfl, own11, b11⟩
        have cv11 : (convert 40 9 v11).run Try.prog w11 = .ok (.string SS) w11 := by rw [ESS.out]; exact str_own own11.out
        have cv10b : (convert 40 9 v10).run Try.prog w11 = .ok (.string SS) w11 := by rw [ESS.out]; exact str_own (own_below own10.out b11.out)
        have bb11 := bt b10.out b11.out
        have cc11 := RCL.out w11 bb11
        go_wp2_with fail
        refine hK.out _ _ ⟨cc11, cv10b⟩ (fun hHeld3 => ?_)
        clear hK K
        (try simp only [Act.put, List.setIfInBounds_toArray, List.set_cons_zero, List.set_cons_succ])
        refine wpAnyH_ready (rs := [57]) (by kernel_rfl) (by simp) ?_
        refine AllReadyH.cons (o := { dst := some 236, op := Go.Op.convert 40 9 (Go.Operand.tmp 235), type := 9, pos := _, after := #[{ on := 56, ground := Go.Ground.data }, { on := 51, ground := Go.Ground.guard }], guard := some (51, false) }) rfl (fun K hK => ?_) AllReadyH.nil
        rw [if_pos (by rfl)]
        go_simp
        refine hK.out _ _ hHeld3 (fun hHeld4 => ?_)
        clear hK K
        (try simp only [Act.put, List.setIfInBounds_toArray, List.set_cons_zero, List.set_cons_succ])
        refine wpAnyH_take (i := 58) (oi := { dst := some 237, op := Go.Op.binOp Go.BinOp.neq 9 (Go.Operand.tmp 233) (Go.Operand.tmp 236) 9, type := 4, pos := _, after := #[{ on := 54, ground := Go.Ground.data }, { on := 57, ground := Go.Ground.data }, { on := 51, ground := Go.Ground.guard }], guard := some (51, false) }) (v := ?vz58) rfl (by kernel_rfl) (by kernel_rfl) (by kernel_rfl) (fun _ _ _ h => h) (Or.inl ⟨by rfl, ?hyz58⟩) (by assumption) ?_
        case hyz58 => (intro wz hSw; (try dsimp only at hSw); go_simp; try with_reducible rfl)
        (try simp only [Act.put, List.setIfInBounds_toArray, List.set_cons_zero, List.set_cons_succ])
        refine wpAnyH_take (i := 59) (oi := { dst := some 238, op := Go.Op.pick (Go.Operand.tmp 230) (Go.Operand.const (Go.Value.bool true)) (Go.Operand.tmp 237), type := 4, pos := _, after := #[{ on := 51, ground := Go.Ground.data }, { on := 58, ground := Go.Ground.data }], guard := none }) (v := ?vz59) rfl (by kernel_rfl) (by kernel_rfl) (by kernel_rfl) (fun _ _ _ h => h) (Or.inl ⟨by rfl, ?hyz59⟩) (by assumption) ?_
        case hyz59 => (intro wz hSw; (try dsimp only at hSw); go_simp; try with_reducible rfl)
        (try simp only [Act.put, List.setIfInBounds_toArray, List.set_cons_zero, List.set_cons_succ])
        refine wpAnyH_done (by kernel_rfl) ?_ _
        have PF := Lib.hid (PD.out.below bb11)
        clear hHeld hHeld2 hHeld3 hHeld4 PD US TU PU PR RCL
        go_wp2
        go_roundw
        case rel => exact ⟨k + 1, m2, by go_num, by omega, PF, HT2⟩
        case measure => simp [intOf]; omega
    · obtain rfl : k = n := by omega
      have hkni : ¬ (k : Int) < (k : Int) := by omega
      go_wp2
      go_ret
      exact ⟨by rfl, HP.out.bel⟩
end Go.Proofs.Ytknpgmbniohcnaa
