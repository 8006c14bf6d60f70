import Derived.Test.YtkecnhogooaccaaSp
import Derived.Test.YtkecnhogooaccaaKnown
namespace Go.Proofs.Ytkecnhogooaccaa
open Go.ChangeShapes Go.WideShapes Go.ChangeAt Go.RowKit
set_option linter.unusedVariables false
set_option linter.unusedSimpArgs false
theorem sameB_self (xs : List Int) : sameB xs xs = true := decide_eq_true rfl
/-- the copied act. -/
def XC (w : World) (C : Nat) (r : ActR) (A : Option Addr) (n c : Nat) : Prop := w.heap[C]? = some (.cells #[.int .i64 r.op, .int .i64 r.a, .int .i64 r.b, .int .i64 r.n, .int .u64 r.w, .slice A n c] 50 (0, 0))
theorem xc_cells {w : World} {C : Nat} {r : ActR} {A : Option Addr} {n c : Nat} (h : XC w C r A n c) : w.cell? ⟨C, 0, none⟩ = some (.int .i64 r.op) ∧ w.cell? ⟨C, 1, none⟩ = some (.int .i64 r.a) ∧ w.cell? ⟨C, 2, none⟩ = some (.int .i64 r.b) ∧ w.cell? ⟨C, 3, none⟩ = some (.int .i64 r.n) ∧ w.cell? ⟨C, 4, none⟩ = some (.int .u64 r.w) ∧ w.cell? ⟨C, 5, none⟩ = some (.slice A n c) := by
  unfold XC at h; simp [World.cell?, h]
theorem xc_frm {w w' : World} {C B : Nat} {ts : List TypeId} {r : ActR} {A : Option Addr} {n c : Nat} (h : XC w C r A n c) (f : Frm w w' (OfT ts B w)) (ht : ts.contains 50 = false) : XC w' C r A n c := by
  unfold XC at h ⊢
  have hlt := (Array.getElem?_eq_some_iff.1 h).1
  rw [f.block C hlt (fun hr => ?_)]
  · exact h
  · obtain ⟨_, cur, ty, hc, hm⟩ := hr
    rw [h] at hc
    injection hc with hc
    injection hc with _ hc
    subst hc
    simp at ht; exact ht hm
theorem XC.below {w w' : World} {C : Nat} {r : ActR} {A : Option Addr} {n c : Nat} (h : XC w C r A n c) (hb : Below w.heap.size w w') : XC w' C r A n c := by
  unfold XC at h ⊢
  rw [hb.block C (Array.getElem?_eq_some_iff.1 h).1]; exact h
/-- both sides hold the same frames. -/
def PI (w0 wr : World) (g g2 room : Nat) (l : List RF) : Prop := StN w0 wr g room l ∧ RZ wr w0.heap.size g2 room l
theorem PI.below {w0 wr w' : World} {g g2 room : Nat} {l : List RF} (s : PI w0 wr g g2 room l) (h : Below wr.heap.size wr w') : PI w0 w' g g2 room l := ⟨s.1.below h, s.2.below h⟩
theorem rz_new {w w2 : World} {room : Nat} (hs : w.heap.size ≤ w2.heap.size) (h : room ≤ 4096) : RZ (w2.alloc (.cells #[.int .i64 room, .slice none 0 0] 47)) w.heap.size w2.heap.size room [] :=
  ⟨.slice none 0 0, [], ⟨heap_alloc_new w2 _, hs, Rw.nil _ _ _ _ _ _ (fun _ => rfl), fun x hx => (by cases hx), fun x hx => (by cases hx), List.Pairwise.nil, by simp [used, wdOf], h⟩, rfl⟩
/-- where the slices of the acts lie. -/
def Caps (w : World) (b off n : Nat) : Prop := ∀ i, i < n → ∀ A' m c, w.cell? ⟨b, off + i * 6 + 5, none⟩ = some (.slice A' m c) → m ≤ c ∧ (A' = none → c = 0)
set_option maxRecDepth 100000 in
set_option maxHeartbeats 32000000 in
theorem plays_walk {w : World} {A : Option Addr} {n c : Nat} {acts : List ActR} (room ai : Int) (ha : ActsIn w A n acts) (hcap : ∀ b off, A = some ⟨b, off, none⟩ → Caps w b off n) :
    Calls Try.prog 4 #[.int .i64 room, .slice A n c, .int .i64 ai] w fun e w' => e = .returned (.bool true) ∧ Below w.heap.size w w' := by
  have AW := Lib.hid (awake_any w)
  have HA := Lib.hid ha
  have HCP := Lib.hid hcap
  clear hcap
  by_cases hr : room < 16 ∨ 4096 < room
  · have NB := Lib.hid (fun W => new_bad (w := W) room hr)
    clear ha
    rcases hr with hr | hr
    · have d0 := decide_eq_true hr
      go_enter Try.func4, Try.ntmps4
      go_wp2_with fail
      refine AW.out.mono ?_; rintro e w1 ⟨rfl, hb1⟩
      go_wp2_with fail
      refine (NB.out _).mono ?_; rintro e w2 ⟨rfl, rfl⟩
      go_wp2
      go_ret
      exact ⟨rfl, hb1⟩
    · have d0 := decide_eq_false (show ¬ room < 16 by omega)
      have d1 := decide_eq_true hr
      go_enter Try.func4, Try.ntmps4
      go_wp2_with fail
      refine AW.out.mono ?_; rintro e w1 ⟨rfl, hb1⟩
      go_wp2_with fail
      refine (NB.out _).mono ?_; rintro e w2 ⟨rfl, rfl⟩
      go_wp2
      go_ret
      exact ⟨rfl, hb1⟩
  obtain ⟨rm, rfl⟩ : ∃ k : Nat, room = k := ⟨room.toNat, by omega⟩
  have d0 := decide_eq_false (show ¬ rm < 16 by omega)
  have d1 := decide_eq_false (show ¬ 4096 < rm by omega)
  have d0i := decide_eq_false (show ¬ (rm : Int) < 16 by omega)
  have d1i := decide_eq_false (show ¬ (4096 : Int) < rm by omega)
  have NW := Lib.hid (fun W => new_st (w := W) rm (by omega) (by omega))
  by_cases hn : 60 < n
  · have dn : decide (60 < n) = true := decide_eq_true hn
    clear ha
    go_enter Try.func4, Try.ntmps4
    go_wp2_with fail
    refine AW.out.mono ?_; rintro e w1 ⟨rfl, hb1⟩
    go_wp2_with fail
    refine (NW.out _).mono ?_; rintro e w2 ⟨g, rfl, s2⟩
    go_wp2
    go_ret
    exact ⟨rfl, hb1.trans (s2.out.small.mono hb1.size)⟩
  have dn : decide (60 < n) = false := decide_eq_false hn
  have dni : decide ((60 : Int) < (n : Int)) = false := decide_eq_false (by omega)
  have hrm : rm ≤ 4096 := by omega
  clear ha hr
  go_enter Try.func4, Try.ntmps4
  go_wp2_with fail
  refine AW.out.mono ?_; rintro e w1 ⟨rfl, hb1⟩
  have B1 := Lib.hid hb1
  clear AW hb1
  go_wp2_with fail
  refine (NW.out _).mono ?_; rintro e w2 ⟨g, rfl, s2⟩
  clear NW
  have ST : Hid (PI w1 (w2.alloc (.cells #[.int .i64 rm, .slice none 0 0] 47)) g w2.heap.size rm []) := Lib.hid ⟨s2.out.below (below_alloc w2 _), rz_new s2.out.small.size hrm⟩
  obtain ⟨g2, hg2⟩ : ∃ z, z = w2.heap.size := ⟨_, rfl⟩
  rw [← hg2] at ST
  have HG2 := Lib.hid hg2
  clear s2 hg2
  go_wp2
  rw [← HG2.out]
  go_loopw [10] (fun i wr => ∃ (k : Nat) (l : List RF), i = .int .i64 k ∧ k ≤ n ∧ Hid (PI w1 wr g g2 rm l)) (fun i _ => n - (intOf i).toNat)
  case atStart => exact ⟨0, [], rfl, by omega, ST⟩
  case round =>
    obtain ⟨k, l, rfl, hk, HP⟩ := hrel
    clear ST
    by_cases hkn : k < n
    · have hkni : (k : Int) < (n : Int) := by omega
      have BW := Lib.hid (B1.out.trans (HP.out.1.small.mono B1.out.size))
      obtain ⟨b, off, rfl, hb, hcw⟩ := HA.out.2 (by omega)
      have hac := hcw k hkn
      have hcp := HCP.out b off rfl k hkn
      obtain ⟨r, hr⟩ : ∃ r, r = acts.getD k default := ⟨_, rfl⟩
      rw [← hr] at hac
      obtain ⟨f0, f1, f2, f3, f4, A', n', c', f5, hu⟩ := hac
      have hcp2 := hcp A' n' c' f5
      have e0 := (BW.out.cell (p := ⟨b, _, none⟩) hb).trans f0
      have e1 := (BW.out.cell (p := ⟨b, _, none⟩) hb).trans f1
      have e2 := (BW.out.cell (p := ⟨b, _, none⟩) hb).trans f2
      have e3 := (BW.out.cell (p := ⟨b, _, none⟩) hb).trans f3
      have e4 := (BW.out.cell (p := ⟨b, _, none⟩) hb).trans f4
      have e5 := (BW.out.cell (p := ⟨b, _, none⟩) hb).trans f5
      have HSL : Hid (SL w1 A' n' c' r.l) := Lib.hid (by
        refine ⟨⟨hu.1, fun hp => ?_⟩, hcp2.1, hcp2.2⟩
        obtain ⟨b', o', ea, hb', hx⟩ := hu.2 hp
        exact ⟨b', o', ea, Nat.lt_of_lt_of_le hb' B1.out.size, fun j hj => (B1.out.cell (p := ⟨b', o' + j, none⟩) hb').trans (hx j hj)⟩)
      have HLW : Hid (0 < n' → ∀ b' off', A' = some ⟨b', off', none⟩ → b' < w1.heap.size) := Lib.hid (fun hp b' off' ea => by
        obtain ⟨b2, o2, ea2, hb2, _⟩ := hu.2 hp
        rw [ea] at ea2; injection ea2 with ea2; injection ea2 with ea2
        subst ea2; exact Nat.lt_of_lt_of_le hb2 B1.out.size)
      clear f0 f1 f2 f3 f4 f5 hcw hcp hcp2 hu hr
      by_cases h60 : 60 < n'
      · have dd : decide ((60 : Int) < (n' : Int)) = true := decide_eq_true (by omega)
        have dd' := decide_eq_true h60
        go_wp2
        go_ret
        exact ⟨rfl, B1.out.trans ((HP.out.1.below (below_alloc wr _)).small.mono B1.out.size)⟩
      have dd : decide ((60 : Int) < (n' : Int)) = false := decide_eq_false (by omega)
      have dd' := decide_eq_false h60
      have X0x : Hid (XC (wr.alloc (.cells #[.int .i64 r.op, .int .i64 r.a, .int .i64 r.b, .int .i64 r.n, .int .u64 r.w, .slice A' n' c'] 50)) wr.heap.size r A' n' c') := Lib.hid (heap_alloc_new wr _)
      have P0x := Lib.hid (HP.out.below (below_alloc wr (.cells #[.int .i64 r.op, .int .i64 r.a, .int .i64 r.b, .int .i64 r.n, .int .u64 r.w, .slice A' n' c'] 50)))
      go_upto_block 2 with fail
      obtain ⟨w2, hw2⟩ : ∃ z, z = wr.alloc (.cells #[.int .i64 r.op, .int .i64 r.a, .int .i64 r.b, .int .i64 r.n, .int .u64 r.w, .slice A' n' c'] 50) := ⟨_, rfl⟩
      obtain ⟨C, hC⟩ : ∃ z, z = wr.heap.size := ⟨_, rfl⟩
      rw [← hw2, ← hC] at X0x
      rw [← hw2] at P0x
      rw [← hw2, ← hC]
      clear hw2 hC e0 e1 e2 e3 e4 e5 HP BW dd dd'
      have X0 := X0x
      have X2 := Lib.hid (X0x.out.below (below_drew w2))
      have S0 := Lib.hid P0x.out.1
      have Z0 := Lib.hid P0x.out.2
      have S2 := Lib.hid ((P0x.out.below (below_drew w2)).1)
      have Z2 := Lib.hid ((P0x.out.below (below_drew w2)).2)
      obtain ⟨x0, x1, x2, x3, x4, x5⟩ := xc_cells X0x.out
      go_cut [12] (fun v wx => v = .bool true ∧ Hid (∃ l', PI w1 wx g g2 rm l'))
      case first =>
        by_cases ho0 : r.op = 0
        · have q0 : (r.op == 0) = true := by rw [ho0]; rfl
          clear ho0
          go_wp2_with fail
          as_aux_lemma =>
            refine wp_region_held_drew (S := fun w' => XC w' C r A' n' c') (by kernel_rfl) ?_ (fun hHeld => ?_)
            · exact X2.out
            refine wpAnyH_take (i := 0) (oi := { dst := some 94, op := Go.Op.move (Go.Operand.tmp 7), type := 23, pos := _, after := #[], guard := none }) (v := ?vp0) rfl (by kernel_rfl) (by kernel_rfl) (by kernel_rfl) (fun _ _ _ h => h) (Or.inl ⟨by rfl, ?hyp0⟩) (by assumption) ?_
            case hyp0 => (intro wz hSw; (try dsimp only at hSw); have zc := xc_cells hSw; have z0 := zc.1; have z1 := zc.2.1; have z2 := zc.2.2.1; have z3 := zc.2.2.2.1; have z4 := zc.2.2.2.2.1; have z5 := zc.2.2.2.2.2; clear zc; go_simp; try with_reducible rfl)
            (try simp only [Act.put, List.setIfInBounds_toArray, List.set_cons_zero, List.set_cons_succ])
            refine wpAnyH_take (i := 1) (oi := { dst := some 95, op := Go.Op.fieldAddr 50 (Go.Operand.tmp 11) 1, type := 0, pos := _, after := #[], guard := none }) (v := ?vp1) rfl (by kernel_rfl) (by kernel_rfl) (by kernel_rfl) (fun _ _ _ h => h) (Or.inl ⟨by rfl, ?hyp1⟩) (by assumption) ?_
            case hyp1 => (intro wz hSw; (try dsimp only at hSw); have zc := xc_cells hSw; have z0 := zc.1; have z1 := zc.2.1; have z2 := zc.2.2.1; have z3 := zc.2.2.2.1; have z4 := zc.2.2.2.2.1; have z5 := zc.2.2.2.2.2; clear zc; go_simp; try with_reducible rfl)
            (try simp only [Act.put, List.setIfInBounds_toArray, List.set_cons_zero, List.set_cons_succ])
            refine wpAnyH_take (i := 2) (oi := { dst := some 96, op := Go.Op.load 3 (Go.Operand.tmp 95), type := 3, pos := _, after := #[{ on := 1, ground := Go.Ground.data }], guard := none }) (v := ?vp2) rfl (by kernel_rfl) (by kernel_rfl) (by kernel_rfl) (fun _ _ _ h => h) (Or.inl ⟨by rfl, ?hyp2⟩) (by assumption) ?_
            case hyp2 => (intro wz hSw; (try dsimp only at hSw); have zc := xc_cells hSw; have z0 := zc.1; have z1 := zc.2.1; have z2 := zc.2.2.1; have z3 := zc.2.2.2.1; have z4 := zc.2.2.2.2.1; have z5 := zc.2.2.2.2.2; clear zc; go_simp; try with_reducible rfl)
            (try simp only [Act.put, List.setIfInBounds_toArray, List.set_cons_zero, List.set_cons_succ])
            refine wpAnyH_take (i := 3) (oi := { dst := some 97, op := Go.Op.fieldAddr 50 (Go.Operand.tmp 11) 2, type := 0, pos := _, after := #[], guard := none }) (v := ?vp3) rfl (by kernel_rfl) (by kernel_rfl) (by kernel_rfl) (fun _ _ _ h => h) (Or.inl ⟨by rfl, ?hyp3⟩) (by assumption) ?_
            case hyp3 => (intro wz hSw; (try dsimp only at hSw); have zc := xc_cells hSw; have z0 := zc.1; have z1 := zc.2.1; have z2 := zc.2.2.1; have z3 := zc.2.2.2.1; have z4 := zc.2.2.2.2.1; have z5 := zc.2.2.2.2.2; clear zc; go_simp; try with_reducible rfl)
            (try simp only [Act.put, List.setIfInBounds_toArray, List.set_cons_zero, List.set_cons_succ])
            refine wpAnyH_take (i := 4) (oi := { dst := some 98, op := Go.Op.load 3 (Go.Operand.tmp 97), type := 3, pos := _, after := #[{ on := 3, ground := Go.Ground.data }], guard := none }) (v := ?vp4) rfl (by kernel_rfl) (by kernel_rfl) (by kernel_rfl) (fun _ _ _ h => h) (Or.inl ⟨by rfl, ?hyp4⟩) (by assumption) ?_
            case hyp4 => (intro wz hSw; (try dsimp only at hSw); have zc := xc_cells hSw; have z0 := zc.1; have z1 := zc.2.1; have z2 := zc.2.2.1; have z3 := zc.2.2.2.1; have z4 := zc.2.2.2.2.1; have z5 := zc.2.2.2.2.2; clear zc; go_simp; try with_reducible rfl)
            (try simp only [Act.put, List.setIfInBounds_toArray, List.set_cons_zero, List.set_cons_succ])
            refine wpAnyH_take (i := 5) (oi := { dst := some 99, op := Go.Op.fieldAddr 50 (Go.Operand.tmp 11) 3, type := 0, pos := _, after := #[], guard := none }) (v := ?vp5) rfl (by kernel_rfl) (by kernel_rfl) (by kernel_rfl) (fun _ _ _ h => h) (Or.inl ⟨by rfl, ?hyp5⟩) (by assumption) ?_
            case hyp5 => (intro wz hSw; (try dsimp only at hSw); have zc := xc_cells hSw; have z0 := zc.1; have z1 := zc.2.1; have z2 := zc.2.2.1; have z3 := zc.2.2.2.1; have z4 := zc.2.2.2.2.1; have z5 := zc.2.2.2.2.2; clear zc; go_simp; try with_reducible rfl)
            (try simp only [Act.put, List.setIfInBounds_toArray, List.set_cons_zero, List.set_cons_succ])
            refine wpAnyH_take (i := 6) (oi := { dst := some 100, op := Go.Op.load 3 (Go.Operand.tmp 99), type := 3, pos := _, after := #[{ on := 5, ground := Go.Ground.data }], guard := none }) (v := ?vp6) rfl (by kernel_rfl) (by kernel_rfl) (by kernel_rfl) (fun _ _ _ h => h) (Or.inl ⟨by rfl, ?hyp6⟩) (by assumption) ?_
            case hyp6 => (intro wz hSw; (try dsimp only at hSw); have zc := xc_cells hSw; have z0 := zc.1; have z1 := zc.2.1; have z2 := zc.2.2.1; have z3 := zc.2.2.2.1; have z4 := zc.2.2.2.2.1; have z5 := zc.2.2.2.2.2; clear zc; go_simp; try with_reducible rfl)
            (try simp only [Act.put, List.setIfInBounds_toArray, List.set_cons_zero, List.set_cons_succ])
            refine wpAnyH_take (i := 8) (oi := { dst := some 102, op := Go.Op.move (Go.Operand.tmp 9), type := 44, pos := _, after := #[], guard := none }) (v := ?vp8) rfl (by kernel_rfl) (by kernel_rfl) (by kernel_rfl) (fun _ _ _ h => h) (Or.inl ⟨by rfl, ?hyp8⟩) (by assumption) ?_
            case hyp8 => (intro wz hSw; (try dsimp only at hSw); have zc := xc_cells hSw; have z0 := zc.1; have z1 := zc.2.1; have z2 := zc.2.2.1; have z3 := zc.2.2.2.1; have z4 := zc.2.2.2.2.1; have z5 := zc.2.2.2.2.2; clear zc; go_simp; try with_reducible rfl)
            (try simp only [Act.put, List.setIfInBounds_toArray, List.set_cons_zero, List.set_cons_succ])
            refine wpAnyH_take (i := 9) (oi := { dst := some 103, op := Go.Op.fieldAddr 50 (Go.Operand.tmp 11) 1, type := 0, pos := _, after := #[], guard := none }) (v := ?vp9) rfl (by kernel_rfl) (by kernel_rfl) (by kernel_rfl) (fun _ _ _ h => h) (Or.inl ⟨by rfl, ?hyp9⟩) (by assumption) ?_
            case hyp9 => (intro wz hSw; (try dsimp only at hSw); have zc := xc_cells hSw; have z0 := zc.1; have z1 := zc.2.1; have z2 := zc.2.2.1; have z3 := zc.2.2.2.1; have z4 := zc.2.2.2.2.1; have z5 := zc.2.2.2.2.2; clear zc; go_simp; try with_reducible rfl)
            (try simp only [Act.put, List.setIfInBounds_toArray, List.set_cons_zero, List.set_cons_succ])
            refine wpAnyH_take (i := 10) (oi := { dst := some 104, op := Go.Op.load 3 (Go.Operand.tmp 103), type := 3, pos := _, after := #[{ on := 9, ground := Go.Ground.data }], guard := none }) (v := ?vp10) rfl (by kernel_rfl) (by kernel_rfl) (by kernel_rfl) (fun _ _ _ h => h) (Or.inl ⟨by rfl, ?hyp10⟩) (by assumption) ?_
            case hyp10 => (intro wz hSw; (try dsimp only at hSw); have zc := xc_cells hSw; have z0 := zc.1; have z1 := zc.2.1; have z2 := zc.2.2.1; have z3 := zc.2.2.2.1; have z4 := zc.2.2.2.2.1; have z5 := zc.2.2.2.2.2; clear zc; go_simp; try with_reducible rfl)
            (try simp only [Act.put, List.setIfInBounds_toArray, List.set_cons_zero, List.set_cons_succ])
            refine wpAnyH_take (i := 11) (oi := { dst := some 105, op := Go.Op.fieldAddr 50 (Go.Operand.tmp 11) 2, type := 0, pos := _, after := #[], guard := none }) (v := ?vp11) rfl (by kernel_rfl) (by kernel_rfl) (by kernel_rfl) (fun _ _ _ h => h) (Or.inl ⟨by rfl, ?hyp11⟩) (by assumption) ?_
            case hyp11 => (intro wz hSw; (try dsimp only at hSw); have zc := xc_cells hSw; have z0 := zc.1; have z1 := zc.2.1; have z2 := zc.2.2.1; have z3 := zc.2.2.2.1; have z4 := zc.2.2.2.2.1; have z5 := zc.2.2.2.2.2; clear zc; go_simp; try with_reducible rfl)
            (try simp only [Act.put, List.setIfInBounds_toArray, List.set_cons_zero, List.set_cons_succ])
            refine wpAnyH_take (i := 12) (oi := { dst := some 106, op := Go.Op.load 3 (Go.Operand.tmp 105), type := 3, pos := _, after := #[{ on := 11, ground := Go.Ground.data }], guard := none }) (v := ?vp12) rfl (by kernel_rfl) (by kernel_rfl) (by kernel_rfl) (fun _ _ _ h => h) (Or.inl ⟨by rfl, ?hyp12⟩) (by assumption) ?_
            case hyp12 => (intro wz hSw; (try dsimp only at hSw); have zc := xc_cells hSw; have z0 := zc.1; have z1 := zc.2.1; have z2 := zc.2.2.1; have z3 := zc.2.2.2.1; have z4 := zc.2.2.2.2.1; have z5 := zc.2.2.2.2.2; clear zc; go_simp; try with_reducible rfl)
            (try simp only [Act.put, List.setIfInBounds_toArray, List.set_cons_zero, List.set_cons_succ])
            refine wpAnyH_take (i := 13) (oi := { dst := some 107, op := Go.Op.fieldAddr 50 (Go.Operand.tmp 11) 3, type := 0, pos := _, after := #[], guard := none }) (v := ?vp13) rfl (by kernel_rfl) (by kernel_rfl) (by kernel_rfl) (fun _ _ _ h => h) (Or.inl ⟨by rfl, ?hyp13⟩) (by assumption) ?_
            case hyp13 => (intro wz hSw; (try dsimp only at hSw); have zc := xc_cells hSw; have z0 := zc.1; have z1 := zc.2.1; have z2 := zc.2.2.1; have z3 := zc.2.2.2.1; have z4 := zc.2.2.2.2.1; have z5 := zc.2.2.2.2.2; clear zc; go_simp; try with_reducible rfl)
            (try simp only [Act.put, List.setIfInBounds_toArray, List.set_cons_zero, List.set_cons_succ])
            refine wpAnyH_take (i := 14) (oi := { dst := some 108, op := Go.Op.load 3 (Go.Operand.tmp 107), type := 3, pos := _, after := #[{ on := 13, ground := Go.Ground.data }], guard := none }) (v := ?vp14) rfl (by kernel_rfl) (by kernel_rfl) (by kernel_rfl) (fun _ _ _ h => h) (Or.inl ⟨by rfl, ?hyp14⟩) (by assumption) ?_
            case hyp14 => (intro wz hSw; (try dsimp only at hSw); have zc := xc_cells hSw; have z0 := zc.1; have z1 := zc.2.1; have z2 := zc.2.2.1; have z3 := zc.2.2.2.1; have z4 := zc.2.2.2.2.1; have z5 := zc.2.2.2.2.2; clear zc; go_simp; try with_reducible rfl)
            (try simp only [Act.put, List.setIfInBounds_toArray, List.set_cons_zero, List.set_cons_succ])
            refine wpAnyH_ready (rs := [7]) (by kernel_rfl) (by simp) ?_
            refine AllReadyH.cons (o := { dst := some 101, op := Go.Op.call { callee := Go.Callee.value (Go.Operand.func 9), args := #[Go.Operand.tmp 94, Go.Operand.tmp 96, Go.Operand.tmp 98, Go.Operand.tmp 100], argTypes := #[23, 3, 3, 3] }, type := 24, pos := _, after := #[{ on := 0, ground := Go.Ground.data }, { on := 2, ground := Go.Ground.data }, { on := 4, ground := Go.Ground.data }, { on := 6, ground := Go.Ground.data }], guard := none }) rfl (fun K hK => ?_) AllReadyH.nil
            go_simp
            refine (ppush_st r.a r.b r.n S2.out).mono ?_; rintro e w3 ⟨rfl, h3⟩
            have S3 := h3.out.1
            have Z3 := Z2.out.other h3.out.2
            have X3 : XC w3 C r A' n' c' := xc_frm X2.out h3.out.2 (by decide)
            go_wp2_with fail
            refine hK.out _ _ ?_ (fun hHeld => ?_)
            · exact X3
            clear hK K
            (try simp only [Act.put, List.setIfInBounds_toArray, List.set_cons_zero, List.set_cons_succ])
            refine wpAnyH_ready (rs := [15]) (by kernel_rfl) (by simp) ?_
            refine AllReadyH.cons (o := { dst := some 109, op := Go.Op.call { callee := Go.Callee.value (Go.Operand.func 20), args := #[Go.Operand.tmp 102, Go.Operand.tmp 104, Go.Operand.tmp 106, Go.Operand.tmp 108], argTypes := #[44, 3, 3, 3] }, type := 24, pos := _, after := #[{ on := 8, ground := Go.Ground.data }, { on := 10, ground := Go.Ground.data }, { on := 12, ground := Go.Ground.data }, { on := 14, ground := Go.Ground.data }, { on := 7, ground := Go.Ground.chain }], guard := none }) rfl (fun K hK => ?_) AllReadyH.nil
            go_simp
            refine (zpush_any r.a r.b r.n Z3).mono ?_; rintro e w4 ⟨rfl, h4⟩
            have Z4 := h4.out.1
            have S4 := S3.other (Nat.le_refl _) h4.out.2
            have X4 : XC w4 C r A' n' c' := xc_frm X3 h4.out.2 (by decide)
            go_wp2_with fail
            refine hK.out _ _ ?_ (fun hHeld => ?_)
            · exact X4
            clear hK K
            (try simp only [Act.put, List.setIfInBounds_toArray, List.set_cons_zero, List.set_cons_succ])
            refine wpAnyH_take (i := 16) (oi := { dst := some 110, op := Go.Op.binOp Go.BinOp.eql 24 (Go.Operand.tmp 101) (Go.Operand.tmp 109) 24, type := 4, pos := _, after := #[{ on := 7, ground := Go.Ground.data }, { on := 15, ground := Go.Ground.data }], guard := none }) (v := ?vp16) rfl (by kernel_rfl) (by kernel_rfl) (by kernel_rfl) (fun _ _ _ h => h) (Or.inl ⟨by rfl, ?hyp16⟩) (by assumption) ?_
            case hyp16 => (intro wz hSw; (try dsimp only at hSw); have zc := xc_cells hSw; have z0 := zc.1; have z1 := zc.2.1; have z2 := zc.2.2.1; have z3 := zc.2.2.2.1; have z4 := zc.2.2.2.2.1; have z5 := zc.2.2.2.2.2; clear zc; go_simp; try with_reducible rfl)
            (try simp only [Act.put, List.setIfInBounds_toArray, List.set_cons_zero, List.set_cons_succ])
            refine wpAnyH_take (i := 17) (oi := { dst := some 12, op := Go.Op.assign (Go.Operand.tmp 110), type := 4, pos := _, after := #[{ on := 16, ground := Go.Ground.data }, { on := 15, ground := Go.Ground.chain }, { on := 0, ground := Go.Ground.phase }, { on := 1, ground := Go.Ground.phase }, { on := 2, ground := Go.Ground.phase }, { on := 3, ground := Go.Ground.phase }, { on := 4, ground := Go.Ground.phase }, { on := 5, ground := Go.Ground.phase }, { on := 6, ground := Go.Ground.phase }, { on := 7, ground := Go.Ground.phase }, { on := 8, ground := Go.Ground.phase }, { on := 9, ground := Go.Ground.phase }, { on := 10, ground := Go.Ground.phase }, { on := 11, ground := Go.Ground.phase }, { on := 12, ground := Go.Ground.phase }, { on := 13, ground := Go.Ground.phase }, { on := 14, ground := Go.Ground.phase }, { on := 15, ground := Go.Ground.phase }, { on := 16, ground := Go.Ground.phase }], guard := none }) (v := ?vp17) rfl (by kernel_rfl) (by kernel_rfl) (by kernel_rfl) (fun _ _ _ h => h) (Or.inl ⟨by rfl, ?hyp17⟩) (by assumption) ?_
            case hyp17 => (intro wz hSw; (try dsimp only at hSw); have zc := xc_cells hSw; have z0 := zc.1; have z1 := zc.2.1; have z2 := zc.2.2.1; have z3 := zc.2.2.2.1; have z4 := zc.2.2.2.2.1; have z5 := zc.2.2.2.2.2; clear zc; go_simp; try with_reducible rfl)
            (try simp only [Act.put, List.setIfInBounds_toArray, List.set_cons_zero, List.set_cons_succ])
            refine wpAnyH_done (by kernel_rfl) ?_ _
            go_wp2_with fail
            go_meet
            exact ⟨by simp, Lib.hid ⟨_, S4, Z4⟩⟩
        have q0 : (r.op == 0) = false := beq_eq_false_iff_ne.2 ho0
        clear ho0
        by_cases ho1 : r.op = 1
        · have q1 : (r.op == 1) = true := by rw [ho1]; rfl
          clear ho1
          go_wp2_with fail
          refine (ppop_any S0.out).mono ?_; rintro e w3 ⟨rfl, h3⟩
          have Z3 := Z0.out.other h3.out.2
          go_wp2_with fail
          refine (zpop_any Z3).mono ?_; rintro e w4 ⟨rfl, h4⟩
          have Z4 := h4.out.1
          have S4 := h3.out.1.other (Nat.le_refl _) h4.out.2
          go_wp2_with fail
          go_meet
          exact ⟨by simp, Lib.hid ⟨_, S4, Z4⟩⟩
        have q1 : (r.op == 1) = false := beq_eq_false_iff_ne.2 ho1
        clear ho1
        by_cases ho2 : r.op = 2
        · have q2 : (r.op == 2) = true := by rw [ho2]; rfl
          clear ho2
          go_wp2_with fail
          as_aux_lemma =>
            refine wp_region_held_drew (S := fun w' => XC w' C r A' n' c') (by kernel_rfl) ?_ (fun hHeld => ?_)
            · exact X2.out
            refine wpAnyH_take (i := 0) (oi := { dst := some 140, op := Go.Op.move (Go.Operand.tmp 7), type := 23, pos := _, after := #[], guard := none }) (v := ?vs0) rfl (by kernel_rfl) (by kernel_rfl) (by kernel_rfl) (fun _ _ _ h => h) (Or.inl ⟨by rfl, ?hys0⟩) (by assumption) ?_
            case hys0 => (intro wz hSw; (try dsimp only at hSw); have zc := xc_cells hSw; have z0 := zc.1; have z1 := zc.2.1; have z2 := zc.2.2.1; have z3 := zc.2.2.2.1; have z4 := zc.2.2.2.2.1; have z5 := zc.2.2.2.2.2; clear zc; go_simp; try with_reducible rfl)
            (try simp only [Act.put, List.setIfInBounds_toArray, List.set_cons_zero, List.set_cons_succ])
            refine wpAnyH_take (i := 1) (oi := { dst := some 141, op := Go.Op.fieldAddr 50 (Go.Operand.tmp 11) 3, type := 0, pos := _, after := #[], guard := none }) (v := ?vs1) rfl (by kernel_rfl) (by kernel_rfl) (by kernel_rfl) (fun _ _ _ h => h) (Or.inl ⟨by rfl, ?hys1⟩) (by assumption) ?_
            case hys1 => (intro wz hSw; (try dsimp only at hSw); have zc := xc_cells hSw; have z0 := zc.1; have z1 := zc.2.1; have z2 := zc.2.2.1; have z3 := zc.2.2.2.1; have z4 := zc.2.2.2.2.1; have z5 := zc.2.2.2.2.2; clear zc; go_simp; try with_reducible rfl)
            (try simp only [Act.put, List.setIfInBounds_toArray, List.set_cons_zero, List.set_cons_succ])
            refine wpAnyH_take (i := 2) (oi := { dst := some 142, op := Go.Op.load 3 (Go.Operand.tmp 141), type := 3, pos := _, after := #[{ on := 1, ground := Go.Ground.data }], guard := none }) (v := ?vs2) rfl (by kernel_rfl) (by kernel_rfl) (by kernel_rfl) (fun _ _ _ h => h) (Or.inl ⟨by rfl, ?hys2⟩) (by assumption) ?_
            case hys2 => (intro wz hSw; (try dsimp only at hSw); have zc := xc_cells hSw; have z0 := zc.1; have z1 := zc.2.1; have z2 := zc.2.2.1; have z3 := zc.2.2.2.1; have z4 := zc.2.2.2.2.1; have z5 := zc.2.2.2.2.2; clear zc; go_simp; try with_reducible rfl)
            (try simp only [Act.put, List.setIfInBounds_toArray, List.set_cons_zero, List.set_cons_succ])
            refine wpAnyH_take (i := 3) (oi := { dst := some 143, op := Go.Op.fieldAddr 50 (Go.Operand.tmp 11) 4, type := 0, pos := _, after := #[], guard := none }) (v := ?vs3) rfl (by kernel_rfl) (by kernel_rfl) (by kernel_rfl) (fun _ _ _ h => h) (Or.inl ⟨by rfl, ?hys3⟩) (by assumption) ?_
            case hys3 => (intro wz hSw; (try dsimp only at hSw); have zc := xc_cells hSw; have z0 := zc.1; have z1 := zc.2.1; have z2 := zc.2.2.1; have z3 := zc.2.2.2.1; have z4 := zc.2.2.2.2.1; have z5 := zc.2.2.2.2.2; clear zc; go_simp; try with_reducible rfl)
            (try simp only [Act.put, List.setIfInBounds_toArray, List.set_cons_zero, List.set_cons_succ])
            refine wpAnyH_take (i := 4) (oi := { dst := some 144, op := Go.Op.load 29 (Go.Operand.tmp 143), type := 29, pos := _, after := #[{ on := 3, ground := Go.Ground.data }], guard := none }) (v := ?vs4) rfl (by kernel_rfl) (by kernel_rfl) (by kernel_rfl) (fun _ _ _ h => h) (Or.inl ⟨by rfl, ?hys4⟩) (by assumption) ?_
            case hys4 => (intro wz hSw; (try dsimp only at hSw); have zc := xc_cells hSw; have z0 := zc.1; have z1 := zc.2.1; have z2 := zc.2.2.1; have z3 := zc.2.2.2.1; have z4 := zc.2.2.2.2.1; have z5 := zc.2.2.2.2.2; clear zc; go_simp; try with_reducible rfl)
            (try simp only [Act.put, List.setIfInBounds_toArray, List.set_cons_zero, List.set_cons_succ])
            refine wpAnyH_take (i := 6) (oi := { dst := some 146, op := Go.Op.move (Go.Operand.tmp 9), type := 44, pos := _, after := #[], guard := none }) (v := ?vs6) rfl (by kernel_rfl) (by kernel_rfl) (by kernel_rfl) (fun _ _ _ h => h) (Or.inl ⟨by rfl, ?hys6⟩) (by assumption) ?_
            case hys6 => (intro wz hSw; (try dsimp only at hSw); have zc := xc_cells hSw; have z0 := zc.1; have z1 := zc.2.1; have z2 := zc.2.2.1; have z3 := zc.2.2.2.1; have z4 := zc.2.2.2.2.1; have z5 := zc.2.2.2.2.2; clear zc; go_simp; try with_reducible rfl)
            (try simp only [Act.put, List.setIfInBounds_toArray, List.set_cons_zero, List.set_cons_succ])
            refine wpAnyH_take (i := 7) (oi := { dst := some 147, op := Go.Op.fieldAddr 50 (Go.Operand.tmp 11) 3, type := 0, pos := _, after := #[], guard := none }) (v := ?vs7) rfl (by kernel_rfl) (by kernel_rfl) (by kernel_rfl) (fun _ _ _ h => h) (Or.inl ⟨by rfl, ?hys7⟩) (by assumption) ?_
            case hys7 => (intro wz hSw; (try dsimp only at hSw); have zc := xc_cells hSw; have z0 := zc.1; have z1 := zc.2.1; have z2 := zc.2.2.1; have z3 := zc.2.2.2.1; have z4 := zc.2.2.2.2.1; have z5 := zc.2.2.2.2.2; clear zc; go_simp; try with_reducible rfl)
            (try simp only [Act.put, List.setIfInBounds_toArray, List.set_cons_zero, List.set_cons_succ])
            refine wpAnyH_take (i := 8) (oi := { dst := some 148, op := Go.Op.load 3 (Go.Operand.tmp 147), type := 3, pos := _, after := #[{ on := 7, ground := Go.Ground.data }], guard := none }) (v := ?vs8) rfl (by kernel_rfl) (by kernel_rfl) (by kernel_rfl) (fun _ _ _ h => h) (Or.inl ⟨by rfl, ?hys8⟩) (by assumption) ?_
            case hys8 => (intro wz hSw; (try dsimp only at hSw); have zc := xc_cells hSw; have z0 := zc.1; have z1 := zc.2.1; have z2 := zc.2.2.1; have z3 := zc.2.2.2.1; have z4 := zc.2.2.2.2.1; have z5 := zc.2.2.2.2.2; clear zc; go_simp; try with_reducible rfl)
            (try simp only [Act.put, List.setIfInBounds_toArray, List.set_cons_zero, List.set_cons_succ])
            refine wpAnyH_take (i := 9) (oi := { dst := some 149, op := Go.Op.fieldAddr 50 (Go.Operand.tmp 11) 4, type := 0, pos := _, after := #[], guard := none }) (v := ?vs9) rfl (by kernel_rfl) (by kernel_rfl) (by kernel_rfl) (fun _ _ _ h => h) (Or.inl ⟨by rfl, ?hys9⟩) (by assumption) ?_
            case hys9 => (intro wz hSw; (try dsimp only at hSw); have zc := xc_cells hSw; have z0 := zc.1; have z1 := zc.2.1; have z2 := zc.2.2.1; have z3 := zc.2.2.2.1; have z4 := zc.2.2.2.2.1; have z5 := zc.2.2.2.2.2; clear zc; go_simp; try with_reducible rfl)
            (try simp only [Act.put, List.setIfInBounds_toArray, List.set_cons_zero, List.set_cons_succ])
            refine wpAnyH_take (i := 10) (oi := { dst := some 150, op := Go.Op.load 29 (Go.Operand.tmp 149), type := 29, pos := _, after := #[{ on := 9, ground := Go.Ground.data }], guard := none }) (v := ?vs10) rfl (by kernel_rfl) (by kernel_rfl) (by kernel_rfl) (fun _ _ _ h => h) (Or.inl ⟨by rfl, ?hys10⟩) (by assumption) ?_
            case hys10 => (intro wz hSw; (try dsimp only at hSw); have zc := xc_cells hSw; have z0 := zc.1; have z1 := zc.2.1; have z2 := zc.2.2.1; have z3 := zc.2.2.2.1; have z4 := zc.2.2.2.2.1; have z5 := zc.2.2.2.2.2; clear zc; go_simp; try with_reducible rfl)
            (try simp only [Act.put, List.setIfInBounds_toArray, List.set_cons_zero, List.set_cons_succ])
            refine wpAnyH_ready (rs := [5]) (by kernel_rfl) (by simp) ?_
            refine AllReadyH.cons (o := { dst := some 145, op := Go.Op.call { callee := Go.Callee.value (Go.Operand.func 13), args := #[Go.Operand.tmp 140, Go.Operand.tmp 142, Go.Operand.tmp 144], argTypes := #[23, 3, 30] }, type := 24, pos := _, after := #[{ on := 0, ground := Go.Ground.data }, { on := 2, ground := Go.Ground.data }, { on := 4, ground := Go.Ground.data }], guard := none }) rfl (fun K hK => ?_) AllReadyH.nil
            go_simp
            refine (pset_any r.n r.w S2.out).mono ?_; rintro e w3 ⟨rfl, h3⟩
            have S3 := h3.out.1
            have Z3 := Z2.out.other h3.out.2
            have X3 : XC w3 C r A' n' c' := xc_frm X2.out h3.out.2 (by decide)
            go_wp2_with fail
            refine hK.out _ _ ?_ (fun hHeld => ?_)
            · exact X3
            clear hK K
            (try simp only [Act.put, List.setIfInBounds_toArray, List.set_cons_zero, List.set_cons_succ])
            refine wpAnyH_ready (rs := [11]) (by kernel_rfl) (by simp) ?_
            refine AllReadyH.cons (o := { dst := some 151, op := Go.Op.call { callee := Go.Callee.value (Go.Operand.func 23), args := #[Go.Operand.tmp 146, Go.Operand.tmp 148, Go.Operand.tmp 150], argTypes := #[44, 3, 29] }, type := 24, pos := _, after := #[{ on := 6, ground := Go.Ground.data }, { on := 8, ground := Go.Ground.data }, { on := 10, ground := Go.Ground.data }, { on := 5, ground := Go.Ground.chain }], guard := none }) rfl (fun K hK => ?_) AllReadyH.nil
            go_simp
            refine (zset_any r.n r.w Z3).mono ?_; rintro e w4 ⟨rfl, h4⟩
            have Z4 := h4.out.1
            have S4 := S3.other (Nat.le_refl _) h4.out.2
            have X4 : XC w4 C r A' n' c' := xc_frm X3 h4.out.2 (by decide)
            go_wp2_with fail
            refine hK.out _ _ ?_ (fun hHeld => ?_)
            · exact X4
            clear hK K
            (try simp only [Act.put, List.setIfInBounds_toArray, List.set_cons_zero, List.set_cons_succ])
            refine wpAnyH_take (i := 12) (oi := { dst := some 152, op := Go.Op.binOp Go.BinOp.eql 24 (Go.Operand.tmp 145) (Go.Operand.tmp 151) 24, type := 4, pos := _, after := #[{ on := 5, ground := Go.Ground.data }, { on := 11, ground := Go.Ground.data }], guard := none }) (v := ?vs12) rfl (by kernel_rfl) (by kernel_rfl) (by kernel_rfl) (fun _ _ _ h => h) (Or.inl ⟨by rfl, ?hys12⟩) (by assumption) ?_
            case hys12 => (intro wz hSw; (try dsimp only at hSw); have zc := xc_cells hSw; have z0 := zc.1; have z1 := zc.2.1; have z2 := zc.2.2.1; have z3 := zc.2.2.2.1; have z4 := zc.2.2.2.2.1; have z5 := zc.2.2.2.2.2; clear zc; go_simp; try with_reducible rfl)
            (try simp only [Act.put, List.setIfInBounds_toArray, List.set_cons_zero, List.set_cons_succ])
            refine wpAnyH_take (i := 13) (oi := { dst := some 12, op := Go.Op.assign (Go.Operand.tmp 152), type := 4, pos := _, after := #[{ on := 12, ground := Go.Ground.data }, { on := 11, ground := Go.Ground.chain }, { on := 0, ground := Go.Ground.phase }, { on := 1, ground := Go.Ground.phase }, { on := 2, ground := Go.Ground.phase }, { on := 3, ground := Go.Ground.phase }, { on := 4, ground := Go.Ground.phase }, { on := 5, ground := Go.Ground.phase }, { on := 6, ground := Go.Ground.phase }, { on := 7, ground := Go.Ground.phase }, { on := 8, ground := Go.Ground.phase }, { on := 9, ground := Go.Ground.phase }, { on := 10, ground := Go.Ground.phase }, { on := 11, ground := Go.Ground.phase }, { on := 12, ground := Go.Ground.phase }], guard := none }) (v := ?vs13) rfl (by kernel_rfl) (by kernel_rfl) (by kernel_rfl) (fun _ _ _ h => h) (Or.inl ⟨by rfl, ?hys13⟩) (by assumption) ?_
            case hys13 => (intro wz hSw; (try dsimp only at hSw); have zc := xc_cells hSw; have z0 := zc.1; have z1 := zc.2.1; have z2 := zc.2.2.1; have z3 := zc.2.2.2.1; have z4 := zc.2.2.2.2.1; have z5 := zc.2.2.2.2.2; clear zc; go_simp; try with_reducible rfl)
            (try simp only [Act.put, List.setIfInBounds_toArray, List.set_cons_zero, List.set_cons_succ])
            refine wpAnyH_done (by kernel_rfl) ?_ _
            go_wp2_with fail
            go_meet
            exact ⟨by simp, Lib.hid ⟨_, S4, Z4⟩⟩
        have q2 : (r.op == 2) = false := beq_eq_false_iff_ne.2 ho2
        clear ho2
        by_cases ho3 : r.op = 3
        · have q3 : (r.op == 3) = true := by rw [ho3]; rfl
          clear ho3
          go_wp2_with fail
          as_aux_lemma =>
            refine wp_region_held_drew (S := fun w' => XC w' C r A' n' c') (by kernel_rfl) ?_ (fun hHeld => ?_)
            · exact X2.out
            refine wpAnyH_take (i := 0) (oi := { dst := some 155, op := Go.Op.move (Go.Operand.tmp 7), type := 23, pos := _, after := #[], guard := none }) (v := ?va0) rfl (by kernel_rfl) (by kernel_rfl) (by kernel_rfl) (fun _ _ _ h => h) (Or.inl ⟨by rfl, ?hya0⟩) (by assumption) ?_
            case hya0 => (intro wz hSw; (try dsimp only at hSw); have zc := xc_cells hSw; have z0 := zc.1; have z1 := zc.2.1; have z2 := zc.2.2.1; have z3 := zc.2.2.2.1; have z4 := zc.2.2.2.2.1; have z5 := zc.2.2.2.2.2; clear zc; go_simp; try with_reducible rfl)
            (try simp only [Act.put, List.setIfInBounds_toArray, List.set_cons_zero, List.set_cons_succ])
            refine wpAnyH_take (i := 1) (oi := { dst := some 156, op := Go.Op.fieldAddr 50 (Go.Operand.tmp 11) 4, type := 0, pos := _, after := #[], guard := none }) (v := ?va1) rfl (by kernel_rfl) (by kernel_rfl) (by kernel_rfl) (fun _ _ _ h => h) (Or.inl ⟨by rfl, ?hya1⟩) (by assumption) ?_
            case hya1 => (intro wz hSw; (try dsimp only at hSw); have zc := xc_cells hSw; have z0 := zc.1; have z1 := zc.2.1; have z2 := zc.2.2.1; have z3 := zc.2.2.2.1; have z4 := zc.2.2.2.2.1; have z5 := zc.2.2.2.2.2; clear zc; go_simp; try with_reducible rfl)
            (try simp only [Act.put, List.setIfInBounds_toArray, List.set_cons_zero, List.set_cons_succ])
            refine wpAnyH_take (i := 2) (oi := { dst := some 157, op := Go.Op.load 29 (Go.Operand.tmp 156), type := 29, pos := _, after := #[{ on := 1, ground := Go.Ground.data }], guard := none }) (v := ?va2) rfl (by kernel_rfl) (by kernel_rfl) (by kernel_rfl) (fun _ _ _ h => h) (Or.inl ⟨by rfl, ?hya2⟩) (by assumption) ?_
            case hya2 => (intro wz hSw; (try dsimp only at hSw); have zc := xc_cells hSw; have z0 := zc.1; have z1 := zc.2.1; have z2 := zc.2.2.1; have z3 := zc.2.2.2.1; have z4 := zc.2.2.2.2.1; have z5 := zc.2.2.2.2.2; clear zc; go_simp; try with_reducible rfl)
            (try simp only [Act.put, List.setIfInBounds_toArray, List.set_cons_zero, List.set_cons_succ])
            refine wpAnyH_take (i := 4) (oi := { dst := some 159, op := Go.Op.move (Go.Operand.tmp 9), type := 44, pos := _, after := #[], guard := none }) (v := ?va4) rfl (by kernel_rfl) (by kernel_rfl) (by kernel_rfl) (fun _ _ _ h => h) (Or.inl ⟨by rfl, ?hya4⟩) (by assumption) ?_
            case hya4 => (intro wz hSw; (try dsimp only at hSw); have zc := xc_cells hSw; have z0 := zc.1; have z1 := zc.2.1; have z2 := zc.2.2.1; have z3 := zc.2.2.2.1; have z4 := zc.2.2.2.2.1; have z5 := zc.2.2.2.2.2; clear zc; go_simp; try with_reducible rfl)
            (try simp only [Act.put, List.setIfInBounds_toArray, List.set_cons_zero, List.set_cons_succ])
            refine wpAnyH_take (i := 5) (oi := { dst := some 160, op := Go.Op.fieldAddr 50 (Go.Operand.tmp 11) 4, type := 0, pos := _, after := #[], guard := none }) (v := ?va5) rfl (by kernel_rfl) (by kernel_rfl) (by kernel_rfl) (fun _ _ _ h => h) (Or.inl ⟨by rfl, ?hya5⟩) (by assumption) ?_
            case hya5 => (intro wz hSw; (try dsimp only at hSw); have zc := xc_cells hSw; have z0 := zc.1; have z1 := zc.2.1; have z2 := zc.2.2.1; have z3 := zc.2.2.2.1; have z4 := zc.2.2.2.2.1; have z5 := zc.2.2.2.2.2; clear zc; go_simp; try with_reducible rfl)
            (try simp only [Act.put, List.setIfInBounds_toArray, List.set_cons_zero, List.set_cons_succ])
            refine wpAnyH_take (i := 6) (oi := { dst := some 161, op := Go.Op.load 29 (Go.Operand.tmp 160), type := 29, pos := _, after := #[{ on := 5, ground := Go.Ground.data }], guard := none }) (v := ?va6) rfl (by kernel_rfl) (by kernel_rfl) (by kernel_rfl) (fun _ _ _ h => h) (Or.inl ⟨by rfl, ?hya6⟩) (by assumption) ?_
            case hya6 => (intro wz hSw; (try dsimp only at hSw); have zc := xc_cells hSw; have z0 := zc.1; have z1 := zc.2.1; have z2 := zc.2.2.1; have z3 := zc.2.2.2.1; have z4 := zc.2.2.2.2.1; have z5 := zc.2.2.2.2.2; clear zc; go_simp; try with_reducible rfl)
            (try simp only [Act.put, List.setIfInBounds_toArray, List.set_cons_zero, List.set_cons_succ])
            refine wpAnyH_ready (rs := [3]) (by kernel_rfl) (by simp) ?_
            refine AllReadyH.cons (o := { dst := some 158, op := Go.Op.call { callee := Go.Callee.value (Go.Operand.func 10), args := #[Go.Operand.tmp 155, Go.Operand.tmp 157], argTypes := #[23, 30] }, type := 24, pos := _, after := #[{ on := 0, ground := Go.Ground.data }, { on := 2, ground := Go.Ground.data }], guard := none }) rfl (fun K hK => ?_) AllReadyH.nil
            go_simp
            refine (padd_any r.w S2.out).mono ?_; rintro e w3 ⟨rfl, h3⟩
            have S3 := h3.out.1
            have Z3 := Z2.out.other h3.out.2
            have X3 : XC w3 C r A' n' c' := xc_frm X2.out h3.out.2 (by decide)
            go_wp2_with fail
            refine hK.out _ _ ?_ (fun hHeld => ?_)
            · exact X3
            clear hK K
            (try simp only [Act.put, List.setIfInBounds_toArray, List.set_cons_zero, List.set_cons_succ])
            refine wpAnyH_ready (rs := [7]) (by kernel_rfl) (by simp) ?_
            refine AllReadyH.cons (o := { dst := some 162, op := Go.Op.call { callee := Go.Callee.value (Go.Operand.func 24), args := #[Go.Operand.tmp 159, Go.Operand.tmp 161], argTypes := #[44, 29] }, type := 24, pos := _, after := #[{ on := 4, ground := Go.Ground.data }, { on := 6, ground := Go.Ground.data }, { on := 3, ground := Go.Ground.chain }], guard := none }) rfl (fun K hK => ?_) AllReadyH.nil
            go_simp
            refine (zadd_any r.w Z3).mono ?_; rintro e w4 ⟨rfl, h4⟩
            have Z4 := h4.out.1
            have S4 := S3.other (Nat.le_refl _) h4.out.2
            have X4 : XC w4 C r A' n' c' := xc_frm X3 h4.out.2 (by decide)
            go_wp2_with fail
            refine hK.out _ _ ?_ (fun hHeld => ?_)
            · exact X4
            clear hK K
            (try simp only [Act.put, List.setIfInBounds_toArray, List.set_cons_zero, List.set_cons_succ])
            refine wpAnyH_take (i := 8) (oi := { dst := some 163, op := Go.Op.binOp Go.BinOp.eql 24 (Go.Operand.tmp 158) (Go.Operand.tmp 162) 24, type := 4, pos := _, after := #[{ on := 3, ground := Go.Ground.data }, { on := 7, ground := Go.Ground.data }], guard := none }) (v := ?va8) rfl (by kernel_rfl) (by kernel_rfl) (by kernel_rfl) (fun _ _ _ h => h) (Or.inl ⟨by rfl, ?hya8⟩) (by assumption) ?_
            case hya8 => (intro wz hSw; (try dsimp only at hSw); have zc := xc_cells hSw; have z0 := zc.1; have z1 := zc.2.1; have z2 := zc.2.2.1; have z3 := zc.2.2.2.1; have z4 := zc.2.2.2.2.1; have z5 := zc.2.2.2.2.2; clear zc; go_simp; try with_reducible rfl)
            (try simp only [Act.put, List.setIfInBounds_toArray, List.set_cons_zero, List.set_cons_succ])
            refine wpAnyH_take (i := 9) (oi := { dst := some 12, op := Go.Op.assign (Go.Operand.tmp 163), type := 4, pos := _, after := #[{ on := 8, ground := Go.Ground.data }, { on := 7, ground := Go.Ground.chain }, { on := 0, ground := Go.Ground.phase }, { on := 1, ground := Go.Ground.phase }, { on := 2, ground := Go.Ground.phase }, { on := 3, ground := Go.Ground.phase }, { on := 4, ground := Go.Ground.phase }, { on := 5, ground := Go.Ground.phase }, { on := 6, ground := Go.Ground.phase }, { on := 7, ground := Go.Ground.phase }, { on := 8, ground := Go.Ground.phase }], guard := none }) (v := ?va9) rfl (by kernel_rfl) (by kernel_rfl) (by kernel_rfl) (fun _ _ _ h => h) (Or.inl ⟨by rfl, ?hya9⟩) (by assumption) ?_
            case hya9 => (intro wz hSw; (try dsimp only at hSw); have zc := xc_cells hSw; have z0 := zc.1; have z1 := zc.2.1; have z2 := zc.2.2.1; have z3 := zc.2.2.2.1; have z4 := zc.2.2.2.2.1; have z5 := zc.2.2.2.2.2; clear zc; go_simp; try with_reducible rfl)
            (try simp only [Act.put, List.setIfInBounds_toArray, List.set_cons_zero, List.set_cons_succ])
            refine wpAnyH_done (by kernel_rfl) ?_ _
            go_wp2_with fail
            go_meet
            exact ⟨by simp, Lib.hid ⟨_, S4, Z4⟩⟩
        have q3 : (r.op == 3) = false := beq_eq_false_iff_ne.2 ho3
        clear ho3
        by_cases ho4 : r.op = 4
        · have q4 : (r.op == 4) = true := by rw [ho4]; rfl
          clear ho4
          go_wp2_with fail
          refine (ptake_any S0.out).mono ?_; rintro e w3 ⟨rfl, h3⟩
          have Z3 := Z0.out.other h3.out.2
          go_wp2_with fail
          refine (ztake_any Z3).mono ?_; rintro e w4 ⟨rfl, h4⟩
          have Z4 := h4.out.1
          have S4 := h3.out.1.other (Nat.le_refl _) h4.out.2
          go_wp2_with fail
          go_meet
          exact ⟨by simp, Lib.hid ⟨_, S4, Z4⟩⟩
        have q4 : (r.op == 4) = false := beq_eq_false_iff_ne.2 ho4
        clear ho4
        by_cases ho5 : r.op = 5
        · have q5 : (r.op == 5) = true := by rw [ho5]; rfl
          clear ho5
          go_wp2_with fail
          as_aux_lemma =>
            refine wp_region_held_drew (S := fun w' => XC w' C r A' n' c') (by kernel_rfl) ?_ (fun hHeld => ?_)
            · exact X2.out
            refine wpAnyH_take (i := 0) (oi := { dst := some 186, op := Go.Op.move (Go.Operand.tmp 7), type := 23, pos := _, after := #[], guard := none }) (v := ?vc0) rfl (by kernel_rfl) (by kernel_rfl) (by kernel_rfl) (fun _ _ _ h => h) (Or.inl ⟨by rfl, ?hyc0⟩) (by assumption) ?_
            case hyc0 => (intro wz hSw; (try dsimp only at hSw); have zc := xc_cells hSw; have z0 := zc.1; have z1 := zc.2.1; have z2 := zc.2.2.1; have z3 := zc.2.2.2.1; have z4 := zc.2.2.2.2.1; have z5 := zc.2.2.2.2.2; clear zc; go_simp; try with_reducible rfl)
            (try simp only [Act.put, List.setIfInBounds_toArray, List.set_cons_zero, List.set_cons_succ])
            refine wpAnyH_take (i := 1) (oi := { dst := some 187, op := Go.Op.fieldAddr 50 (Go.Operand.tmp 11) 1, type := 0, pos := _, after := #[], guard := none }) (v := ?vc1) rfl (by kernel_rfl) (by kernel_rfl) (by kernel_rfl) (fun _ _ _ h => h) (Or.inl ⟨by rfl, ?hyc1⟩) (by assumption) ?_
            case hyc1 => (intro wz hSw; (try dsimp only at hSw); have zc := xc_cells hSw; have z0 := zc.1; have z1 := zc.2.1; have z2 := zc.2.2.1; have z3 := zc.2.2.2.1; have z4 := zc.2.2.2.2.1; have z5 := zc.2.2.2.2.2; clear zc; go_simp; try with_reducible rfl)
            (try simp only [Act.put, List.setIfInBounds_toArray, List.set_cons_zero, List.set_cons_succ])
            refine wpAnyH_take (i := 2) (oi := { dst := some 188, op := Go.Op.load 3 (Go.Operand.tmp 187), type := 3, pos := _, after := #[{ on := 1, ground := Go.Ground.data }], guard := none }) (v := ?vc2) rfl (by kernel_rfl) (by kernel_rfl) (by kernel_rfl) (fun _ _ _ h => h) (Or.inl ⟨by rfl, ?hyc2⟩) (by assumption) ?_
            case hyc2 => (intro wz hSw; (try dsimp only at hSw); have zc := xc_cells hSw; have z0 := zc.1; have z1 := zc.2.1; have z2 := zc.2.2.1; have z3 := zc.2.2.2.1; have z4 := zc.2.2.2.2.1; have z5 := zc.2.2.2.2.2; clear zc; go_simp; try with_reducible rfl)
            (try simp only [Act.put, List.setIfInBounds_toArray, List.set_cons_zero, List.set_cons_succ])
            refine wpAnyH_take (i := 3) (oi := { dst := some 189, op := Go.Op.fieldAddr 50 (Go.Operand.tmp 11) 2, type := 0, pos := _, after := #[], guard := none }) (v := ?vc3) rfl (by kernel_rfl) (by kernel_rfl) (by kernel_rfl) (fun _ _ _ h => h) (Or.inl ⟨by rfl, ?hyc3⟩) (by assumption) ?_
            case hyc3 => (intro wz hSw; (try dsimp only at hSw); have zc := xc_cells hSw; have z0 := zc.1; have z1 := zc.2.1; have z2 := zc.2.2.1; have z3 := zc.2.2.2.1; have z4 := zc.2.2.2.2.1; have z5 := zc.2.2.2.2.2; clear zc; go_simp; try with_reducible rfl)
            (try simp only [Act.put, List.setIfInBounds_toArray, List.set_cons_zero, List.set_cons_succ])
            refine wpAnyH_take (i := 4) (oi := { dst := some 190, op := Go.Op.load 3 (Go.Operand.tmp 189), type := 3, pos := _, after := #[{ on := 3, ground := Go.Ground.data }], guard := none }) (v := ?vc4) rfl (by kernel_rfl) (by kernel_rfl) (by kernel_rfl) (fun _ _ _ h => h) (Or.inl ⟨by rfl, ?hyc4⟩) (by assumption) ?_
            case hyc4 => (intro wz hSw; (try dsimp only at hSw); have zc := xc_cells hSw; have z0 := zc.1; have z1 := zc.2.1; have z2 := zc.2.2.1; have z3 := zc.2.2.2.1; have z4 := zc.2.2.2.2.1; have z5 := zc.2.2.2.2.2; clear zc; go_simp; try with_reducible rfl)
            (try simp only [Act.put, List.setIfInBounds_toArray, List.set_cons_zero, List.set_cons_succ])
            refine wpAnyH_take (i := 6) (oi := { dst := some 192, op := Go.Op.move (Go.Operand.tmp 9), type := 44, pos := _, after := #[], guard := none }) (v := ?vc6) rfl (by kernel_rfl) (by kernel_rfl) (by kernel_rfl) (fun _ _ _ h => h) (Or.inl ⟨by rfl, ?hyc6⟩) (by assumption) ?_
            case hyc6 => (intro wz hSw; (try dsimp only at hSw); have zc := xc_cells hSw; have z0 := zc.1; have z1 := zc.2.1; have z2 := zc.2.2.1; have z3 := zc.2.2.2.1; have z4 := zc.2.2.2.2.1; have z5 := zc.2.2.2.2.2; clear zc; go_simp; try with_reducible rfl)
            (try simp only [Act.put, List.setIfInBounds_toArray, List.set_cons_zero, List.set_cons_succ])
            refine wpAnyH_take (i := 7) (oi := { dst := some 193, op := Go.Op.fieldAddr 50 (Go.Operand.tmp 11) 1, type := 0, pos := _, after := #[], guard := none }) (v := ?vc7) rfl (by kernel_rfl) (by kernel_rfl) (by kernel_rfl) (fun _ _ _ h => h) (Or.inl ⟨by rfl, ?hyc7⟩) (by assumption) ?_
            case hyc7 => (intro wz hSw; (try dsimp only at hSw); have zc := xc_cells hSw; have z0 := zc.1; have z1 := zc.2.1; have z2 := zc.2.2.1; have z3 := zc.2.2.2.1; have z4 := zc.2.2.2.2.1; have z5 := zc.2.2.2.2.2; clear zc; go_simp; try with_reducible rfl)
            (try simp only [Act.put, List.setIfInBounds_toArray, List.set_cons_zero, List.set_cons_succ])
            refine wpAnyH_take (i := 8) (oi := { dst := some 194, op := Go.Op.load 3 (Go.Operand.tmp 193), type := 3, pos := _, after := #[{ on := 7, ground := Go.Ground.data }], guard := none }) (v := ?vc8) rfl (by kernel_rfl) (by kernel_rfl) (by kernel_rfl) (fun _ _ _ h => h) (Or.inl ⟨by rfl, ?hyc8⟩) (by assumption) ?_
            case hyc8 => (intro wz hSw; (try dsimp only at hSw); have zc := xc_cells hSw; have z0 := zc.1; have z1 := zc.2.1; have z2 := zc.2.2.1; have z3 := zc.2.2.2.1; have z4 := zc.2.2.2.2.1; have z5 := zc.2.2.2.2.2; clear zc; go_simp; try with_reducible rfl)
            (try simp only [Act.put, List.setIfInBounds_toArray, List.set_cons_zero, List.set_cons_succ])
            refine wpAnyH_take (i := 9) (oi := { dst := some 195, op := Go.Op.fieldAddr 50 (Go.Operand.tmp 11) 2, type := 0, pos := _, after := #[], guard := none }) (v := ?vc9) rfl (by kernel_rfl) (by kernel_rfl) (by kernel_rfl) (fun _ _ _ h => h) (Or.inl ⟨by rfl, ?hyc9⟩) (by assumption) ?_
            case hyc9 => (intro wz hSw; (try dsimp only at hSw); have zc := xc_cells hSw; have z0 := zc.1; have z1 := zc.2.1; have z2 := zc.2.2.1; have z3 := zc.2.2.2.1; have z4 := zc.2.2.2.2.1; have z5 := zc.2.2.2.2.2; clear zc; go_simp; try with_reducible rfl)
            (try simp only [Act.put, List.setIfInBounds_toArray, List.set_cons_zero, List.set_cons_succ])
            refine wpAnyH_take (i := 10) (oi := { dst := some 196, op := Go.Op.load 3 (Go.Operand.tmp 195), type := 3, pos := _, after := #[{ on := 9, ground := Go.Ground.data }], guard := none }) (v := ?vc10) rfl (by kernel_rfl) (by kernel_rfl) (by kernel_rfl) (fun _ _ _ h => h) (Or.inl ⟨by rfl, ?hyc10⟩) (by assumption) ?_
            case hyc10 => (intro wz hSw; (try dsimp only at hSw); have zc := xc_cells hSw; have z0 := zc.1; have z1 := zc.2.1; have z2 := zc.2.2.1; have z3 := zc.2.2.2.1; have z4 := zc.2.2.2.2.1; have z5 := zc.2.2.2.2.2; clear zc; go_simp; try with_reducible rfl)
            (try simp only [Act.put, List.setIfInBounds_toArray, List.set_cons_zero, List.set_cons_succ])
            refine wpAnyH_ready (rs := [5]) (by kernel_rfl) (by simp) ?_
            refine AllReadyH.cons (o := { dst := some 191, op := Go.Op.call { callee := Go.Callee.value (Go.Operand.func 15), args := #[Go.Operand.tmp 186, Go.Operand.tmp 188, Go.Operand.tmp 190], argTypes := #[23, 3, 3] }, type := 24, pos := _, after := #[{ on := 0, ground := Go.Ground.data }, { on := 2, ground := Go.Ground.data }, { on := 4, ground := Go.Ground.data }], guard := none }) rfl (fun K hK => ?_) AllReadyH.nil
            go_simp
            refine (pcut_st r.a r.b S2.out).mono ?_; rintro e w3 ⟨rfl, h3⟩
            have S3 := h3.out.1
            have Z3 := Z2.out.other h3.out.2
            have X3 : XC w3 C r A' n' c' := xc_frm X2.out h3.out.2 (by decide)
            go_wp2_with fail
            refine hK.out _ _ ?_ (fun hHeld => ?_)
            · exact X3
            clear hK K
            (try simp only [Act.put, List.setIfInBounds_toArray, List.set_cons_zero, List.set_cons_succ])
            refine wpAnyH_ready (rs := [11]) (by kernel_rfl) (by simp) ?_
            refine AllReadyH.cons (o := { dst := some 197, op := Go.Op.call { callee := Go.Callee.value (Go.Operand.func 27), args := #[Go.Operand.tmp 192, Go.Operand.tmp 194, Go.Operand.tmp 196], argTypes := #[44, 3, 3] }, type := 24, pos := _, after := #[{ on := 6, ground := Go.Ground.data }, { on := 8, ground := Go.Ground.data }, { on := 10, ground := Go.Ground.data }, { on := 5, ground := Go.Ground.chain }], guard := none }) rfl (fun K hK => ?_) AllReadyH.nil
            go_simp
            refine (zcut_any r.a r.b Z3).mono ?_; rintro e w4 ⟨rfl, h4⟩
            have Z4 := h4.out.1
            have S4 := S3.other (Nat.le_refl _) h4.out.2
            have X4 : XC w4 C r A' n' c' := xc_frm X3 h4.out.2 (by decide)
            go_wp2_with fail
            refine hK.out _ _ ?_ (fun hHeld => ?_)
            · exact X4
            clear hK K
            (try simp only [Act.put, List.setIfInBounds_toArray, List.set_cons_zero, List.set_cons_succ])
            refine wpAnyH_take (i := 12) (oi := { dst := some 198, op := Go.Op.binOp Go.BinOp.eql 24 (Go.Operand.tmp 191) (Go.Operand.tmp 197) 24, type := 4, pos := _, after := #[{ on := 5, ground := Go.Ground.data }, { on := 11, ground := Go.Ground.data }], guard := none }) (v := ?vc12) rfl (by kernel_rfl) (by kernel_rfl) (by kernel_rfl) (fun _ _ _ h => h) (Or.inl ⟨by rfl, ?hyc12⟩) (by assumption) ?_
            case hyc12 => (intro wz hSw; (try dsimp only at hSw); have zc := xc_cells hSw; have z0 := zc.1; have z1 := zc.2.1; have z2 := zc.2.2.1; have z3 := zc.2.2.2.1; have z4 := zc.2.2.2.2.1; have z5 := zc.2.2.2.2.2; clear zc; go_simp; try with_reducible rfl)
            (try simp only [Act.put, List.setIfInBounds_toArray, List.set_cons_zero, List.set_cons_succ])
            refine wpAnyH_take (i := 13) (oi := { dst := some 12, op := Go.Op.assign (Go.Operand.tmp 198), type := 4, pos := _, after := #[{ on := 12, ground := Go.Ground.data }, { on := 11, ground := Go.Ground.chain }, { on := 0, ground := Go.Ground.phase }, { on := 1, ground := Go.Ground.phase }, { on := 2, ground := Go.Ground.phase }, { on := 3, ground := Go.Ground.phase }, { on := 4, ground := Go.Ground.phase }, { on := 5, ground := Go.Ground.phase }, { on := 6, ground := Go.Ground.phase }, { on := 7, ground := Go.Ground.phase }, { on := 8, ground := Go.Ground.phase }, { on := 9, ground := Go.Ground.phase }, { on := 10, ground := Go.Ground.phase }, { on := 11, ground := Go.Ground.phase }, { on := 12, ground := Go.Ground.phase }], guard := none }) (v := ?vc13) rfl (by kernel_rfl) (by kernel_rfl) (by kernel_rfl) (fun _ _ _ h => h) (Or.inl ⟨by rfl, ?hyc13⟩) (by assumption) ?_
            case hyc13 => (intro wz hSw; (try dsimp only at hSw); have zc := xc_cells hSw; have z0 := zc.1; have z1 := zc.2.1; have z2 := zc.2.2.1; have z3 := zc.2.2.2.1; have z4 := zc.2.2.2.2.1; have z5 := zc.2.2.2.2.2; clear zc; go_simp; try with_reducible rfl)
            (try simp only [Act.put, List.setIfInBounds_toArray, List.set_cons_zero, List.set_cons_succ])
            refine wpAnyH_done (by kernel_rfl) ?_ _
            go_wp2_with fail
            go_meet
            exact ⟨by simp, Lib.hid ⟨_, S4, Z4⟩⟩
        have q5 : (r.op == 5) = false := beq_eq_false_iff_ne.2 ho5
        clear ho5
        have BK := Lib.hid (back_any (c := c') (HSL.out.below S2.out.small).inl (by omega))
        go_wp2_with fail
        as_aux_lemma =>
          refine wp_region_held_drew (S := fun w' => XC w' C r A' n' c') (by kernel_rfl) ?_ (fun hHeld => ?_)
          · exact X2.out
          refine wpAnyH_take (i := 0) (oi := { dst := some 82, op := Go.Op.move (Go.Operand.tmp 7), type := 23, pos := _, after := #[], guard := none }) (v := ?vr0) rfl (by kernel_rfl) (by kernel_rfl) (by kernel_rfl) (fun _ _ _ h => h) (Or.inl ⟨by rfl, ?hyr0⟩) (by assumption) ?_
          case hyr0 => (intro wz hSw; (try dsimp only at hSw); have zc := xc_cells hSw; have z0 := zc.1; have z1 := zc.2.1; have z2 := zc.2.2.1; have z3 := zc.2.2.2.1; have z4 := zc.2.2.2.2.1; have z5 := zc.2.2.2.2.2; clear zc; go_simp; try with_reducible rfl)
          (try simp only [Act.put, List.setIfInBounds_toArray, List.set_cons_zero, List.set_cons_succ])
          refine wpAnyH_take (i := 1) (oi := { dst := some 83, op := Go.Op.fieldAddr 50 (Go.Operand.tmp 11) 5, type := 0, pos := _, after := #[], guard := none }) (v := ?vr1) rfl (by kernel_rfl) (by kernel_rfl) (by kernel_rfl) (fun _ _ _ h => h) (Or.inl ⟨by rfl, ?hyr1⟩) (by assumption) ?_
          case hyr1 => (intro wz hSw; (try dsimp only at hSw); have zc := xc_cells hSw; have z0 := zc.1; have z1 := zc.2.1; have z2 := zc.2.2.1; have z3 := zc.2.2.2.1; have z4 := zc.2.2.2.2.1; have z5 := zc.2.2.2.2.2; clear zc; go_simp; try with_reducible rfl)
          (try simp only [Act.put, List.setIfInBounds_toArray, List.set_cons_zero, List.set_cons_succ])
          refine wpAnyH_take (i := 2) (oi := { dst := some 84, op := Go.Op.load 48 (Go.Operand.tmp 83), type := 48, pos := _, after := #[{ on := 1, ground := Go.Ground.data }], guard := none }) (v := ?vr2) rfl (by kernel_rfl) (by kernel_rfl) (by kernel_rfl) (fun _ _ _ h => h) (Or.inl ⟨by rfl, ?hyr2⟩) (by assumption) ?_
          case hyr2 => (intro wz hSw; (try dsimp only at hSw); have zc := xc_cells hSw; have z0 := zc.1; have z1 := zc.2.1; have z2 := zc.2.2.1; have z3 := zc.2.2.2.1; have z4 := zc.2.2.2.2.1; have z5 := zc.2.2.2.2.2; clear zc; go_simp; try with_reducible rfl)
          (try simp only [Act.put, List.setIfInBounds_toArray, List.set_cons_zero, List.set_cons_succ])
          refine wpAnyH_take (i := 5) (oi := { dst := some 87, op := Go.Op.move (Go.Operand.tmp 9), type := 44, pos := _, after := #[], guard := none }) (v := ?vr5) rfl (by kernel_rfl) (by kernel_rfl) (by kernel_rfl) (fun _ _ _ h => h) (Or.inl ⟨by rfl, ?hyr5⟩) (by assumption) ?_
          case hyr5 => (intro wz hSw; (try dsimp only at hSw); have zc := xc_cells hSw; have z0 := zc.1; have z1 := zc.2.1; have z2 := zc.2.2.1; have z3 := zc.2.2.2.1; have z4 := zc.2.2.2.2.1; have z5 := zc.2.2.2.2.2; clear zc; go_simp; try with_reducible rfl)
          (try simp only [Act.put, List.setIfInBounds_toArray, List.set_cons_zero, List.set_cons_succ])
          refine wpAnyH_take (i := 6) (oi := { dst := some 88, op := Go.Op.fieldAddr 50 (Go.Operand.tmp 11) 5, type := 0, pos := _, after := #[], guard := none }) (v := ?vr6) rfl (by kernel_rfl) (by kernel_rfl) (by kernel_rfl) (fun _ _ _ h => h) (Or.inl ⟨by rfl, ?hyr6⟩) (by assumption) ?_
          case hyr6 => (intro wz hSw; (try dsimp only at hSw); have zc := xc_cells hSw; have z0 := zc.1; have z1 := zc.2.1; have z2 := zc.2.2.1; have z3 := zc.2.2.2.1; have z4 := zc.2.2.2.2.1; have z5 := zc.2.2.2.2.2; clear zc; go_simp; try with_reducible rfl)
          (try simp only [Act.put, List.setIfInBounds_toArray, List.set_cons_zero, List.set_cons_succ])
          refine wpAnyH_take (i := 7) (oi := { dst := some 89, op := Go.Op.load 48 (Go.Operand.tmp 88), type := 48, pos := _, after := #[{ on := 6, ground := Go.Ground.data }], guard := none }) (v := ?vr7) rfl (by kernel_rfl) (by kernel_rfl) (by kernel_rfl) (fun _ _ _ h => h) (Or.inl ⟨by rfl, ?hyr7⟩) (by assumption) ?_
          case hyr7 => (intro wz hSw; (try dsimp only at hSw); have zc := xc_cells hSw; have z0 := zc.1; have z1 := zc.2.1; have z2 := zc.2.2.1; have z3 := zc.2.2.2.1; have z4 := zc.2.2.2.2.1; have z5 := zc.2.2.2.2.2; clear zc; go_simp; try with_reducible rfl)
          (try simp only [Act.put, List.setIfInBounds_toArray, List.set_cons_zero, List.set_cons_succ])
          refine wpAnyH_ready (rs := [3]) (by kernel_rfl) (by simp) ?_
          refine AllReadyH.cons (o := { dst := some 85, op := Go.Op.call { callee := Go.Callee.value (Go.Operand.func 28), args := #[Go.Operand.tmp 84], argTypes := #[48] }, type := 35, pos := _, after := #[{ on := 2, ground := Go.Ground.data }], guard := none }) rfl (fun K hK => ?_) AllReadyH.nil
          go_simp
          refine (BK.out).mono ?_; rintro e w3 ⟨A3, c3, rfl, o3, b3⟩
          have S3x := S2.out.below b3.out
          have Z3x := Z2.out.below b3.out
          have X3x : XC w3 C r A' n' c' := X2.out.below b3.out
          have RN := Lib.hid (prenew_st (c := c3) S3x (own_in (c := c3) o3.out))
          go_wp2_with fail
          refine hK.out _ _ ?_ (fun hHeld => ?_)
          · exact X3x
          clear hK K
          (try simp only [Act.put, List.setIfInBounds_toArray, List.set_cons_zero, List.set_cons_succ])
          refine wpAnyH_ready (rs := [4]) (by kernel_rfl) (by simp) ?_
          refine AllReadyH.cons (o := { dst := some 86, op := Go.Op.call { callee := Go.Callee.value (Go.Operand.func 16), args := #[Go.Operand.tmp 82, Go.Operand.tmp 85], argTypes := #[23, 35] }, type := 24, pos := _, after := #[{ on := 0, ground := Go.Ground.data }, { on := 3, ground := Go.Ground.data }, { on := 3, ground := Go.Ground.chain }], guard := none }) rfl (fun K hK => ?_) AllReadyH.nil
          go_simp
          refine (RN.out).mono ?_; rintro e w4 ⟨rfl, h4⟩
          have S4x := h4.out.1
          have Z4x := Z3x.other h4.out.2
          have X4x : XC w4 C r A' n' c' := xc_frm X3x h4.out.2 (by decide)
          have ZN := Lib.hid (zrenew_any (by omega) (HSL.out.below (S4x.small)) HLW.out Z4x)
          go_wp2_with fail
          refine hK.out _ _ ?_ (fun hHeld => ?_)
          · exact X4x
          clear hK K
          (try simp only [Act.put, List.setIfInBounds_toArray, List.set_cons_zero, List.set_cons_succ])
          refine wpAnyH_ready (rs := [8]) (by kernel_rfl) (by simp) ?_
          refine AllReadyH.cons (o := { dst := some 90, op := Go.Op.call { callee := Go.Callee.value (Go.Operand.func 29), args := #[Go.Operand.tmp 87, Go.Operand.tmp 89], argTypes := #[44, 48] }, type := 24, pos := _, after := #[{ on := 5, ground := Go.Ground.data }, { on := 7, ground := Go.Ground.data }, { on := 4, ground := Go.Ground.chain }], guard := none }) rfl (fun K hK => ?_) AllReadyH.nil
          go_simp
          refine (ZN.out).mono ?_; rintro e w5 ⟨rfl, h5⟩
          have Z5x := h5.out.1
          have S5x := S4x.other (Nat.le_refl _) h5.out.2
          have X5x : XC w5 C r A' n' c' := xc_frm X4x h5.out.2 (by decide)
          go_wp2_with fail
          refine hK.out _ _ ?_ (fun hHeld => ?_)
          · exact X5x
          clear hK K
          (try simp only [Act.put, List.setIfInBounds_toArray, List.set_cons_zero, List.set_cons_succ])
          refine wpAnyH_take (i := 9) (oi := { dst := some 91, op := Go.Op.binOp Go.BinOp.eql 24 (Go.Operand.tmp 86) (Go.Operand.tmp 90) 24, type := 4, pos := _, after := #[{ on := 4, ground := Go.Ground.data }, { on := 8, ground := Go.Ground.data }], guard := none }) (v := ?vr9) rfl (by kernel_rfl) (by kernel_rfl) (by kernel_rfl) (fun _ _ _ h => h) (Or.inl ⟨by rfl, ?hyr9⟩) (by assumption) ?_
          case hyr9 => (intro wz hSw; (try dsimp only at hSw); have zc := xc_cells hSw; have z0 := zc.1; have z1 := zc.2.1; have z2 := zc.2.2.1; have z3 := zc.2.2.2.1; have z4 := zc.2.2.2.2.1; have z5 := zc.2.2.2.2.2; clear zc; go_simp; try with_reducible rfl)
          (try simp only [Act.put, List.setIfInBounds_toArray, List.set_cons_zero, List.set_cons_succ])
          refine wpAnyH_take (i := 10) (oi := { dst := some 12, op := Go.Op.assign (Go.Operand.tmp 91), type := 4, pos := _, after := #[{ on := 9, ground := Go.Ground.data }, { on := 8, ground := Go.Ground.chain }, { on := 0, ground := Go.Ground.phase }, { on := 1, ground := Go.Ground.phase }, { on := 2, ground := Go.Ground.phase }, { on := 3, ground := Go.Ground.phase }, { on := 4, ground := Go.Ground.phase }, { on := 5, ground := Go.Ground.phase }, { on := 6, ground := Go.Ground.phase }, { on := 7, ground := Go.Ground.phase }, { on := 8, ground := Go.Ground.phase }, { on := 9, ground := Go.Ground.phase }], guard := none }) (v := ?vr10) rfl (by kernel_rfl) (by kernel_rfl) (by kernel_rfl) (fun _ _ _ h => h) (Or.inl ⟨by rfl, ?hyr10⟩) (by assumption) ?_
          case hyr10 => (intro wz hSw; (try dsimp only at hSw); have zc := xc_cells hSw; have z0 := zc.1; have z1 := zc.2.1; have z2 := zc.2.2.1; have z3 := zc.2.2.2.1; have z4 := zc.2.2.2.2.1; have z5 := zc.2.2.2.2.2; clear zc; go_simp; try with_reducible rfl)
          (try simp only [Act.put, List.setIfInBounds_toArray, List.set_cons_zero, List.set_cons_succ])
          refine wpAnyH_done (by kernel_rfl) ?_ _
          go_wp2_with fail
          go_meet
          exact ⟨by simp, Lib.hid ⟨_, S5x, Z5x⟩⟩
      case rest =>
        obtain ⟨rfl, hp⟩ := hcut
        obtain ⟨l2, P2⟩ := hp.out
        have SS0 := Lib.hid P2.1
        have ZZ0 := Lib.hid P2.2
        have hfit := SS0.out.fits
        have hl2 : l2.length ≤ 1000000 := by have := hfit; unfold used at this; omega
        have hw2 : (wdOf l2).length ≤ 1000000 := by have := hfit; unfold used at this; omega
        have GE := Lib.hid (get_any ai SS0.out)
        obtain ⟨v1, hv1⟩ : ∃ z, z = (getS l2 ai).1 := ⟨_, rfl⟩
        obtain ⟨v2, hv2⟩ : ∃ z, z = (getS l2 ai).2 := ⟨_, rfl⟩
        have HV := Lib.hid (And.intro hv1 hv2)
        rw [← hv1, ← hv2] at GE
        clear hv1 hv2 hp P2 X0 X2 S2 Z2 S0 Z0 x0 x1 x2 x3 x4 x5 hfit
        go_wp2_with fail
        refine GE.out.mono ?_; rintro e w9 ⟨rfl, hb9⟩
        have SS1 := Lib.hid (SS0.out.below hb9)
        have ZZ1 := Lib.hid (ZZ0.out.below hb9)
        have RG := Lib.hid (zget_any ai ZZ1.out)
        rw [← HV.out.1, ← HV.out.2] at RG
        go_wp2_with fail
        refine RG.out.mono ?_; rintro e w10 ⟨rfl, hb10⟩
        have SS := Lib.hid (SS1.out.below hb10)
        have ZZ := Lib.hid (ZZ1.out.below hb10)
        clear GE RG SS0 ZZ0 SS1 ZZ1 HV
        as_aux_lemma =>
          go_upto_region 36 with (fail)
          refine wp_region_lit ?_
          refine wpList_step (fun K hK => ?_)
          rw [if_pos (by rfl)]
          go_simp
          refine hK _ _ ?_
          clear hK K
          (try simp only [Act.put, List.setIfInBounds_toArray, List.set_cons_zero, List.set_cons_succ])
          refine wpList_step (fun K hK => ?_)
          rw [if_pos (by rfl)]
          go_simp
          refine hK _ _ ?_
          clear hK K
          (try simp only [Act.put, List.setIfInBounds_toArray, List.set_cons_zero, List.set_cons_succ])
          refine wpList_step (fun K hK => ?_)
          rw [if_pos (by rfl)]
          go_simp
          refine hK _ _ ?_
          clear hK K
          (try simp only [Act.put, List.setIfInBounds_toArray, List.set_cons_zero, List.set_cons_succ])
          refine wpList_step (fun K hK => ?_)
          rw [if_pos (by rfl)]
          go_simp
          refine hK _ _ ?_
          clear hK K
          (try simp only [Act.put, List.setIfInBounds_toArray, List.set_cons_zero, List.set_cons_succ])
          refine wpList_step (fun K hK => ?_)
          rw [if_pos (by rfl)]
          go_simp
          refine hK _ _ ?_
          clear hK K
          (try simp only [Act.put, List.setIfInBounds_toArray, List.set_cons_zero, List.set_cons_succ])
          refine wpList_step (fun K hK => ?_)
          rw [if_pos (by rfl)]
          go_simp
          refine hK _ _ ?_
          clear hK K
          (try simp only [Act.put, List.setIfInBounds_toArray, List.set_cons_zero, List.set_cons_succ])
          refine wpList_step (fun K hK => ?_)
          rw [if_pos (by rfl)]
          go_simp
          refine hK _ _ ?_
          clear hK K
          (try simp only [Act.put, List.setIfInBounds_toArray, List.set_cons_zero, List.set_cons_succ])
          refine wpList_step (fun K hK => ?_)
          rw [if_pos (by rfl)]
          go_simp
          refine hK _ _ ?_
          clear hK K
          (try simp only [Act.put, List.setIfInBounds_toArray, List.set_cons_zero, List.set_cons_succ])
          refine wpList_step (fun K hK => ?_)
          rw [if_pos (by rfl)]
          go_simp
          refine hK _ _ ?_
          clear hK K
          (try simp only [Act.put, List.setIfInBounds_toArray, List.set_cons_zero, List.set_cons_succ])
          refine wpList_step (fun K hK => ?_)
          rw [if_pos (by rfl)]
          go_simp
          refine hK _ _ ?_
          clear hK K
          (try simp only [Act.put, List.setIfInBounds_toArray, List.set_cons_zero, List.set_cons_succ])
          refine wpList_step (fun K hK => ?_)
          rw [if_pos (by rfl)]
          go_simp
          refine hK _ _ ?_
          clear hK K
          (try simp only [Act.put, List.setIfInBounds_toArray, List.set_cons_zero, List.set_cons_succ])
          refine wpList_step (fun K hK => ?_)
          rw [if_pos (by rfl)]
          go_simp
          refine hK _ _ ?_
          clear hK K
          (try simp only [Act.put, List.setIfInBounds_toArray, List.set_cons_zero, List.set_cons_succ])
          refine wpList_step (fun K hK => ?_)
          rw [if_pos (by rfl)]
          go_simp
          refine hK _ _ ?_
          clear hK K
          (try simp only [Act.put, List.setIfInBounds_toArray, List.set_cons_zero, List.set_cons_succ])
          refine wpList_step (fun K hK => ?_)
          rw [if_pos (by rfl)]
          go_simp
          refine hK _ _ ?_
          clear hK K
          (try simp only [Act.put, List.setIfInBounds_toArray, List.set_cons_zero, List.set_cons_succ])
          refine wpList_step (fun K hK => ?_)
          rw [if_pos (by rfl)]
          go_simp
          refine (depth_st SS.out).mono ?_; rintro e w11 ⟨rfl, hb11⟩
          have S11 := Lib.hid (SS.out.below hb11)
          have Z11 := Lib.hid (ZZ.out.below hb11)
          (try go_simp)
          refine hK _ _ ?_
          clear hK K
          (try simp only [Act.put, List.setIfInBounds_toArray, List.set_cons_zero, List.set_cons_succ])
          refine wpList_step (fun K hK => ?_)
          rw [if_pos (by rfl)]
          go_simp
          refine hK _ _ ?_
          clear hK K
          (try simp only [Act.put, List.setIfInBounds_toArray, List.set_cons_zero, List.set_cons_succ])
          refine wpList_step (fun K hK => ?_)
          rw [if_pos (by rfl)]
          go_simp
          refine (zdepth_any Z11.out).mono ?_; rintro e w12 ⟨rfl, hb12⟩
          have S12 := Lib.hid (S11.out.below hb12)
          have Z12 := Lib.hid (Z11.out.below hb12)
          (try go_simp)
          refine hK _ _ ?_
          clear hK K
          (try simp only [Act.put, List.setIfInBounds_toArray, List.set_cons_zero, List.set_cons_succ])
          refine wpList_step (fun K hK => ?_)
          rw [if_pos (by rfl)]
          go_simp
          refine hK _ _ ?_
          clear hK K
          (try simp only [Act.put, List.setIfInBounds_toArray, List.set_cons_zero, List.set_cons_succ])
          refine wpList_step (fun K hK => ?_)
          rw [if_pos (by rfl)]
          go_simp
          refine hK _ _ ?_
          clear hK K
          (try simp only [Act.put, List.setIfInBounds_toArray, List.set_cons_zero, List.set_cons_succ])
          refine wpList_step (fun K hK => ?_)
          rw [if_pos (by rfl)]
          go_simp
          refine hK _ _ ?_
          clear hK K
          (try simp only [Act.put, List.setIfInBounds_toArray, List.set_cons_zero, List.set_cons_succ])
          refine wpList_step (fun K hK => ?_)
          rw [if_pos (by rfl)]
          go_simp
          refine hK _ _ ?_
          clear hK K
          (try simp only [Act.put, List.setIfInBounds_toArray, List.set_cons_zero, List.set_cons_succ])
          refine wpList_step (fun K hK => ?_)
          rw [if_pos (by rfl)]
          go_simp
          refine (added_st S12.out).mono ?_; rintro e w13 ⟨rfl, hb13⟩
          have S13 := Lib.hid (S12.out.below hb13)
          have Z13 := Lib.hid (Z12.out.below hb13)
          (try go_simp)
          refine hK _ _ ?_
          clear hK K
          (try simp only [Act.put, List.setIfInBounds_toArray, List.set_cons_zero, List.set_cons_succ])
          refine wpList_step (fun K hK => ?_)
          rw [if_pos (by rfl)]
          go_simp
          refine hK _ _ ?_
          clear hK K
          (try simp only [Act.put, List.setIfInBounds_toArray, List.set_cons_zero, List.set_cons_succ])
          refine wpList_step (fun K hK => ?_)
          rw [if_pos (by rfl)]
          go_simp
          refine (zadded_any Z13.out).mono ?_; rintro e w14 ⟨rfl, hb14⟩
          have S14 := Lib.hid (S13.out.below hb14)
          have Z14 := Lib.hid (Z13.out.below hb14)
          (try go_simp)
          refine hK _ _ ?_
          clear hK K
          (try simp only [Act.put, List.setIfInBounds_toArray, List.set_cons_zero, List.set_cons_succ])
          refine wpList_step (fun K hK => ?_)
          rw [if_pos (by rfl)]
          go_simp
          refine hK _ _ ?_
          clear hK K
          (try simp only [Act.put, List.setIfInBounds_toArray, List.set_cons_zero, List.set_cons_succ])
          refine wpList_step (fun K hK => ?_)
          rw [if_pos (by rfl)]
          go_simp
          refine hK _ _ ?_
          clear hK K
          (try simp only [Act.put, List.setIfInBounds_toArray, List.set_cons_zero, List.set_cons_succ])
          refine wpList_step (fun K hK => ?_)
          rw [if_pos (by rfl)]
          go_simp
          refine hK _ _ ?_
          clear hK K
          (try simp only [Act.put, List.setIfInBounds_toArray, List.set_cons_zero, List.set_cons_succ])
          refine wpList_step (fun K hK => ?_)
          rw [if_pos (by rfl)]
          go_simp
          refine hK _ _ ?_
          clear hK K
          (try simp only [Act.put, List.setIfInBounds_toArray, List.set_cons_zero, List.set_cons_succ])
          refine wpList_step (fun K hK => ?_)
          rw [if_pos (by rfl)]
          go_simp
          refine (calls_st S14.out).mono ?_; rintro e w15 ⟨A15, c15, rfl, o15, b15⟩
          have S15 := Lib.hid (S14.out.below b15.out)
          have Z15 := Lib.hid (Z14.out.below b15.out)
          have I15 := Lib.hid (own_ini o15.out)
          (try go_simp)
          refine hK _ _ ?_
          clear hK K
          (try simp only [Act.put, List.setIfInBounds_toArray, List.set_cons_zero, List.set_cons_succ])
          refine wpList_step (fun K hK => ?_)
          rw [if_pos (by rfl)]
          go_simp
          refine hK _ _ ?_
          clear hK K
          (try simp only [Act.put, List.setIfInBounds_toArray, List.set_cons_zero, List.set_cons_succ])
          refine wpList_step (fun K hK => ?_)
          rw [if_pos (by rfl)]
          go_simp
          refine (zcalls_any Z15.out).mono ?_; rintro e w16 ⟨A16, c16, rfl, o16, b16⟩
          have S16 := Lib.hid (S15.out.below b16.out)
          have Z16 := Lib.hid (Z15.out.below b16.out)
          have I16 := Lib.hid (own_ini o16.out)
          have J15 := Lib.hid (inL_later I15.out b16.out)
          (try go_simp)
          refine hK _ _ ?_
          clear hK K
          (try simp only [Act.put, List.setIfInBounds_toArray, List.set_cons_zero, List.set_cons_succ])
          refine wpList_step (fun K hK => ?_)
          rw [if_pos (by rfl)]
          go_simp
          refine (ints_any J15.out I16.out (by omega)).mono ?_; rintro e w17 ⟨he17, hb17⟩
          rw [sameB_self] at he17
          subst he17
          have S17 := Lib.hid (S16.out.below hb17)
          have Z17 := Lib.hid (Z16.out.below hb17)
          (try go_simp)
          refine hK _ _ ?_
          clear hK K
          (try simp only [Act.put, List.setIfInBounds_toArray, List.set_cons_zero, List.set_cons_succ])
          refine wpList_step (fun K hK => ?_)
          rw [if_pos (by rfl)]
          go_simp
          refine hK _ _ ?_
          clear hK K
          (try simp only [Act.put, List.setIfInBounds_toArray, List.set_cons_zero, List.set_cons_succ])
          refine wpList_step (fun K hK => ?_)
          rw [if_pos (by rfl)]
          go_simp
          refine hK _ _ ?_
          clear hK K
          (try simp only [Act.put, List.setIfInBounds_toArray, List.set_cons_zero, List.set_cons_succ])
          refine wpList_step (fun K hK => ?_)
          rw [if_pos (by rfl)]
          go_simp
          refine hK _ _ ?_
          clear hK K
          (try simp only [Act.put, List.setIfInBounds_toArray, List.set_cons_zero, List.set_cons_succ])
          refine wpList_step (fun K hK => ?_)
          rw [if_pos (by rfl)]
          go_simp
          refine hK _ _ ?_
          clear hK K
          (try simp only [Act.put, List.setIfInBounds_toArray, List.set_cons_zero, List.set_cons_succ])
          refine wpList_step (fun K hK => ?_)
          rw [if_pos (by rfl)]
          go_simp
          refine (roots_st S17.out).mono ?_; rintro e w18 ⟨A18, c18, rfl, o18, b18⟩
          have S18 := Lib.hid (S17.out.below b18.out)
          have Z18 := Lib.hid (Z17.out.below b18.out)
          have I18 := Lib.hid (own_in o18.out)
          (try go_simp)
          refine hK _ _ ?_
          clear hK K
          (try simp only [Act.put, List.setIfInBounds_toArray, List.set_cons_zero, List.set_cons_succ])
          refine wpList_step (fun K hK => ?_)
          rw [if_pos (by rfl)]
          go_simp
          refine (words_any I18.out (by omega)).mono ?_; rintro e w19 ⟨A19, c19, rfl, o19, b19⟩
          have S19 := Lib.hid (S18.out.below b19.out)
          have Z19 := Lib.hid (Z18.out.below b19.out)
          have I19 := Lib.hid (own_in o19.out)
          (try go_simp)
          refine hK _ _ ?_
          clear hK K
          (try simp only [Act.put, List.setIfInBounds_toArray, List.set_cons_zero, List.set_cons_succ])
          refine wpList_step (fun K hK => ?_)
          rw [if_pos (by rfl)]
          go_simp
          refine hK _ _ ?_
          clear hK K
          (try simp only [Act.put, List.setIfInBounds_toArray, List.set_cons_zero, List.set_cons_succ])
          refine wpList_step (fun K hK => ?_)
          rw [if_pos (by rfl)]
          go_simp
          refine (zroots_any Z19.out).mono ?_; rintro e w20 ⟨A20, c20, rfl, o20, b20⟩
          have S20 := Lib.hid (S19.out.below b20.out)
          have Z20 := Lib.hid (Z19.out.below b20.out)
          have I20 := Lib.hid (own_in o20.out)
          have J19 := Lib.hid (InL.below I19.out b20.out)
          (try go_simp)
          refine hK _ _ ?_
          clear hK K
          (try simp only [Act.put, List.setIfInBounds_toArray, List.set_cons_zero, List.set_cons_succ])
          refine wpList_step (fun K hK => ?_)
          rw [if_pos (by rfl)]
          go_simp
          refine (same_any J19.out I20.out (by omega)).mono ?_; rintro e w21 ⟨he21, hb21⟩
          rw [sameB_self] at he21
          subst he21
          have S21 := Lib.hid (S20.out.below hb21)
          have Z21 := Lib.hid (Z20.out.below hb21)
          (try go_simp)
          refine hK _ _ ?_
          clear hK K
          (try simp only [Act.put, List.setIfInBounds_toArray, List.set_cons_zero, List.set_cons_succ])
          refine wpList_step (fun K hK => ?_)
          rw [if_pos (by rfl)]
          go_simp
          refine hK _ _ ?_
          clear hK K
          (try simp only [Act.put, List.setIfInBounds_toArray, List.set_cons_zero, List.set_cons_succ])
          refine wpList_step (fun K hK => ?_)
          rw [if_pos (by rfl)]
          go_simp
          refine hK _ _ ?_
          clear hK K
          (try simp only [Act.put, List.setIfInBounds_toArray, List.set_cons_zero, List.set_cons_succ])
          go_wp2
          go_roundw
          case rel => exact ⟨k + 1, l2, by go_num, by omega, Lib.hid ⟨S21.out, Z21.out⟩⟩
          case measure => simp [intOf]; omega
    · obtain rfl : k = n := by omega
      clear hkn
      go_wp2
      go_ret
      exact ⟨rfl, B1.out.trans (HP.out.1.small.mono B1.out.size)⟩
end Go.Proofs.Ytkecnhogooaccaa
