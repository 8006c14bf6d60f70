import Derived.Test.YtkecnhogooaccaaRj
namespace Go.Proofs.Ytkecnhogooaccaa
open Go.ChangeShapes Go.WideShapes Go.ChangeAt Go.RowKit
set_option linter.unusedVariables false
def rts (fl : List RX) (k : Nat) : List Int := wdOf ((fl.take k).map (·.f))
theorem rts_le (fl : List RX) (k : Nat) : (rts fl k).length ≤ (wdOf (fl.map (·.f))).length := by
  have h : fl.map (·.f) = (fl.take k).map (·.f) ++ (fl.drop k).map (·.f) := by rw [← List.map_append, List.take_append_drop]
  rw [h, wdOf_app]; unfold rts; simp
theorem rts_at (a b : List RX) (x : RX) : rts (a ++ x :: b) (a.length + 1) = rts (a ++ x :: b) a.length ++ x.f.slots ++ x.f.added := by
  unfold rts
  have e1 : (a ++ x :: b).take (a.length + 1) = a ++ [x] := by rw [show a ++ x :: b = (a ++ [x]) ++ b by simp, List.take_left' (by simp)]
  have e2 : (a ++ x :: b).take a.length = a := by simp
  rw [e1, e2, List.map_append, wdOf_app]
  simp [wdOf, RF.ws]
set_option maxRecDepth 100000 in
set_option maxHeartbeats 4000000 in
theorem rroots_any {w : World} {B g room : Nat} {fv : Value} {fl : List RX} (t : RS w B g room fv fl) :
    Calls Try.prog 37 #[.pointer (some ⟨g, 0, none⟩)] w fun e w' => ∃ A c, e = .returned (.slice A (wdOf (fl.map (·.f))).length c) ∧ Hid (w'.ownsRow w.heap.size 29 1 (.slice A (wdOf (fl.map (·.f))).length c) (wdOf (fl.map (·.f))).length (wds (wdOf (fl.map (·.f))))) ∧ Hid (Below w.heap.size w w') := by
  obtain ⟨i0, hi0, hz0, hz1, hz2⟩ := info_parts info29
  have T := Lib.hid t
  have glt := t.glt
  have hlen := t.len.1
  have hlw := t.len.2
  obtain ⟨N, hN⟩ : ∃ N, N = fl.length := ⟨_, rfl⟩
  have HN := Lib.hid hN
  rw [← hN] at hlen
  obtain ⟨L, hL⟩ : ∃ L, L = (wdOf (fl.map (·.f))).length := ⟨_, rfl⟩
  have HL := Lib.hid hL
  rw [← hL] at hlw ⊢
  clear t hN hL
  go_enter Try.func37, Try.ntmps37
  go_wp2
  go_loopw [3, 4] (fun u ix wr => ∃ (v : Value) (k p : Nat), v = u ∧ ix = .int .i64 k ∧ k ≤ N ∧ p ≤ L ∧ Hid (p = (rts fl k).length) ∧ Hid (wr.ownsRow w.heap.size 29 1 v p (wds (rts fl k))) ∧ Hid (Below w.heap.size w wr)) (fun _ ix _ => N - (intOf ix).toNat)
  case atStart => exact ⟨_, 0, 0, rfl, rfl, by omega, by omega, Lib.hid (by simp [rts, wdOf]), Lib.hid (by have e : rts fl 0 = [] := (by simp [rts, wdOf]); rw [e]; exact World.ownsRow_nil _ _ _ _), Lib.hid (Below.refl _ _)⟩
  case round =>
    obtain ⟨v, k, p, rfl, rfl, hk, hpL, HP, own, hb⟩ := hrel
    have T1 := Lib.hid (T.out.below hb.out)
    have WB : Hid (w.heap.size ≤ wr.heap.size) := Lib.hid hb.out.size
    by_cases hlt : k < N
    · have hlti : (k : Int) < (N : Int) := by omega
      obtain ⟨a, x, b, hfl, ha⟩ := split_at fl k (by rw [← HN.out]; exact hlt)
      have t1 := T.out
      have c1 := T1.out.c1
      have c1w := t1.c1
      rw [hfl] at t1
      obtain ⟨bf, c', e1, hc', hcell, _⟩ := t1.at
      obtain ⟨⟨A1, c1', e2, _, _⟩, ⟨A2, c2', e3, _, _⟩, _⟩ := RX.rows t1
      have R1 : Hid (Rw w B 29 1 (.slice A1 x.f.slots.length c1') x.f.slots.length (wds x.f.slots)) := Lib.hid (by rw [← e2]; exact t1.rs x (by simp))
      have R2 : Hid (Rw w B 29 1 (.slice A2 x.f.added.length c2') x.f.added.length (wds x.f.added)) := Lib.hid (by rw [← e3]; exact t1.ra x (by simp))
      rw [e2, e3, ha] at hcell
      rw [← hfl, ← HN.out] at e1
      have HC := Lib.hid hcell
      rw [e1] at c1 c1w
      have HX : Hid (rts fl (k + 1) = rts fl k ++ x.f.slots ++ x.f.added) := Lib.hid (by
        have h := rts_at a b x
        rw [← hfl, ha] at h
        exact h)
      have hle := rts_le fl (k + 1)
      rw [HX.out, List.length_append, List.length_append, ← HP.out, ← HL.out] at hle
      obtain ⟨m1, hm1⟩ : ∃ p, p = x.f.slots.length := ⟨_, rfl⟩
      obtain ⟨m2, hm2⟩ : ∃ q, q = x.f.added.length := ⟨_, rfl⟩
      rw [← hm1] at R1 HC hle; rw [← hm2] at R2 HC hle
      have HM := Lib.hid (And.intro hm1 hm2)
      have hk9 : k ≤ 4096 := by omega
      have C1W := Lib.hid c1w
      have HBD := Lib.hid (bt hb.out (below_drew wr))
      clear t1 e1 hcell e2 e3 hfl ha hm1 hm2 hc' c1w
      go_wp2
      refine wp_region_D [] (fun w' => Below w.heap.size w w') (by kernel_rfl) (HBD.out) (fun hHeld => ?_)
      obtain ⟨w_0, hw_0⟩ : ∃ z, z = wr.drew := ⟨_, rfl⟩
      have OW0 : Hid (w_0.ownsRow w.heap.size 29 1 v p (wds (rts fl k))) := Lib.hid (by rw [hw_0]; exact own.out)
      rw [← hw_0] at hHeld HBD ⊢
      clear hw_0
      refine WD_take (i := 0) (oi := { dst := some 14, op := Go.Op.move (Go.Operand.tmp 3), type := 48, pos := _, after := #[], guard := none }) (v := ?vb0) rfl (by kernel_rfl) (by kernel_rfl) (by kernel_rfl) (by kernel_rfl) (fun _ _ _ h => h) (Or.inl ⟨by rfl, ?hyb0⟩) hHeld ?_
      case hyb0 => (intro wz hSw; (try dsimp only at hSw); have z1 := (hSw.cell (p := ⟨g, 1, none⟩) glt).trans C1W.out; have zc := HC.out wz hSw; have z42 := zc.2.2.1; have z43 := zc.2.2.2; clear zc; go_simp; try with_reducible rfl)
      (try simp only [Act.put, List.setIfInBounds_toArray, List.set_cons_zero, List.set_cons_succ])
      refine WD_take (i := 1) (oi := { dst := some 15, op := Go.Op.move (Go.Operand.tmp 0), type := 44, pos := _, after := #[], guard := none }) (v := ?vb1) rfl (by kernel_rfl) (by kernel_rfl) (by kernel_rfl) (by kernel_rfl) (fun _ _ _ h => h) (Or.inl ⟨by rfl, ?hyb1⟩) hHeld ?_
      case hyb1 => (intro wz hSw; (try dsimp only at hSw); have z1 := (hSw.cell (p := ⟨g, 1, none⟩) glt).trans C1W.out; have zc := HC.out wz hSw; have z42 := zc.2.2.1; have z43 := zc.2.2.2; clear zc; go_simp; try with_reducible rfl)
      (try simp only [Act.put, List.setIfInBounds_toArray, List.set_cons_zero, List.set_cons_succ])
      refine WD_take (i := 2) (oi := { dst := some 16, op := Go.Op.nilCheck (Go.Operand.tmp 15), type := 0, pos := _, after := #[{ on := 1, ground := Go.Ground.data }], guard := none }) (v := ?vb2) rfl (by kernel_rfl) (by kernel_rfl) (by kernel_rfl) (by kernel_rfl) (fun _ _ _ h => h) (Or.inl ⟨by rfl, ?hyb2⟩) hHeld ?_
      case hyb2 => (intro wz hSw; (try dsimp only at hSw); have z1 := (hSw.cell (p := ⟨g, 1, none⟩) glt).trans C1W.out; have zc := HC.out wz hSw; have z42 := zc.2.2.1; have z43 := zc.2.2.2; clear zc; go_simp; try with_reducible rfl)
      (try simp only [Act.put, List.setIfInBounds_toArray, List.set_cons_zero, List.set_cons_succ])
      refine WD_take (i := 3) (oi := { dst := some 17, op := Go.Op.fieldAddr 47 (Go.Operand.tmp 16) 1, type := 0, pos := _, after := #[{ on := 2, ground := Go.Ground.data }], guard := none }) (v := ?vb3) rfl (by kernel_rfl) (by kernel_rfl) (by kernel_rfl) (by kernel_rfl) (fun _ _ _ h => h) (Or.inl ⟨by rfl, ?hyb3⟩) hHeld ?_
      case hyb3 => (intro wz hSw; (try dsimp only at hSw); have z1 := (hSw.cell (p := ⟨g, 1, none⟩) glt).trans C1W.out; have zc := HC.out wz hSw; have z42 := zc.2.2.1; have z43 := zc.2.2.2; clear zc; go_simp; try with_reducible rfl)
      (try simp only [Act.put, List.setIfInBounds_toArray, List.set_cons_zero, List.set_cons_succ])
      refine WD_take (i := 4) (oi := { dst := some 18, op := Go.Op.load 45 (Go.Operand.tmp 17), type := 45, pos := _, after := #[{ on := 3, ground := Go.Ground.data }], guard := none }) (v := ?vb4) rfl (by kernel_rfl) (by kernel_rfl) (by kernel_rfl) (by kernel_rfl) (fun _ _ _ h => h) (Or.inl ⟨by rfl, ?hyb4⟩) hHeld ?_
      case hyb4 => (intro wz hSw; (try dsimp only at hSw); have z1 := (hSw.cell (p := ⟨g, 1, none⟩) glt).trans C1W.out; have zc := HC.out wz hSw; have z42 := zc.2.2.1; have z43 := zc.2.2.2; clear zc; go_simp; try with_reducible rfl)
      (try simp only [Act.put, List.setIfInBounds_toArray, List.set_cons_zero, List.set_cons_succ])
      refine WD_take (i := 5) (oi := { dst := some 19, op := Go.Op.move (Go.Operand.tmp 4), type := 3, pos := _, after := #[], guard := none }) (v := ?vb5) rfl (by kernel_rfl) (by kernel_rfl) (by kernel_rfl) (by kernel_rfl) (fun _ _ _ h => h) (Or.inl ⟨by rfl, ?hyb5⟩) hHeld ?_
      case hyb5 => (intro wz hSw; (try dsimp only at hSw); have z1 := (hSw.cell (p := ⟨g, 1, none⟩) glt).trans C1W.out; have zc := HC.out wz hSw; have z42 := zc.2.2.1; have z43 := zc.2.2.2; clear zc; go_simp; try with_reducible rfl)
      (try simp only [Act.put, List.setIfInBounds_toArray, List.set_cons_zero, List.set_cons_succ])
      refine WD_take (i := 6) (oi := { dst := some 20, op := Go.Op.indexAddr 45 (Go.Operand.tmp 18) (Go.Operand.tmp 19), type := 0, pos := _, after := #[{ on := 4, ground := Go.Ground.data }, { on := 5, ground := Go.Ground.data }], guard := none }) (v := ?vb6) rfl (by kernel_rfl) (by kernel_rfl) (by kernel_rfl) (by kernel_rfl) (fun _ _ _ h => h) (Or.inl ⟨by rfl, ?hyb6⟩) hHeld ?_
      case hyb6 => (intro wz hSw; (try dsimp only at hSw); have z1 := (hSw.cell (p := ⟨g, 1, none⟩) glt).trans C1W.out; have zc := HC.out wz hSw; have z42 := zc.2.2.1; have z43 := zc.2.2.2; clear zc; go_simp; try with_reducible rfl)
      (try simp only [Act.put, List.setIfInBounds_toArray, List.set_cons_zero, List.set_cons_succ])
      refine WD_take (i := 7) (oi := { dst := some 21, op := Go.Op.fieldAddr 80 (Go.Operand.tmp 20) 2, type := 0, pos := _, after := #[{ on := 6, ground := Go.Ground.data }], guard := none }) (v := ?vb7) rfl (by kernel_rfl) (by kernel_rfl) (by kernel_rfl) (by kernel_rfl) (fun _ _ _ h => h) (Or.inl ⟨by rfl, ?hyb7⟩) hHeld ?_
      case hyb7 => (intro wz hSw; (try dsimp only at hSw); have z1 := (hSw.cell (p := ⟨g, 1, none⟩) glt).trans C1W.out; have zc := HC.out wz hSw; have z42 := zc.2.2.1; have z43 := zc.2.2.2; clear zc; go_simp; try with_reducible rfl)
      (try simp only [Act.put, List.setIfInBounds_toArray, List.set_cons_zero, List.set_cons_succ])
      refine WD_take (i := 8) (oi := { dst := some 22, op := Go.Op.load 48 (Go.Operand.tmp 21), type := 48, pos := _, after := #[{ on := 7, ground := Go.Ground.data }], guard := none }) (v := ?vb8) rfl (by kernel_rfl) (by kernel_rfl) (by kernel_rfl) (by kernel_rfl) (fun _ _ _ h => h) (Or.inl ⟨by rfl, ?hyb8⟩) hHeld ?_
      case hyb8 => (intro wz hSw; (try dsimp only at hSw); have z1 := (hSw.cell (p := ⟨g, 1, none⟩) glt).trans C1W.out; have zc := HC.out wz hSw; have z42 := zc.2.2.1; have z43 := zc.2.2.2; clear zc; go_simp; try with_reducible rfl)
      (try simp only [Act.put, List.setIfInBounds_toArray, List.set_cons_zero, List.set_cons_succ])
      refine WD_take (i := 10) (oi := { dst := some 24, op := Go.Op.move (Go.Operand.tmp 0), type := 44, pos := _, after := #[], guard := none }) (v := ?vb10) rfl (by kernel_rfl) (by kernel_rfl) (by kernel_rfl) (by kernel_rfl) (fun _ _ _ h => h) (Or.inl ⟨by rfl, ?hyb10⟩) hHeld ?_
      case hyb10 => (intro wz hSw; (try dsimp only at hSw); have z1 := (hSw.cell (p := ⟨g, 1, none⟩) glt).trans C1W.out; have zc := HC.out wz hSw; have z42 := zc.2.2.1; have z43 := zc.2.2.2; clear zc; go_simp; try with_reducible rfl)
      (try simp only [Act.put, List.setIfInBounds_toArray, List.set_cons_zero, List.set_cons_succ])
      refine WD_take (i := 11) (oi := { dst := some 25, op := Go.Op.nilCheck (Go.Operand.tmp 24), type := 0, pos := _, after := #[{ on := 10, ground := Go.Ground.data }], guard := none }) (v := ?vb11) rfl (by kernel_rfl) (by kernel_rfl) (by kernel_rfl) (by kernel_rfl) (fun _ _ _ h => h) (Or.inl ⟨by rfl, ?hyb11⟩) hHeld ?_
      case hyb11 => (intro wz hSw; (try dsimp only at hSw); have z1 := (hSw.cell (p := ⟨g, 1, none⟩) glt).trans C1W.out; have zc := HC.out wz hSw; have z42 := zc.2.2.1; have z43 := zc.2.2.2; clear zc; go_simp; try with_reducible rfl)
      (try simp only [Act.put, List.setIfInBounds_toArray, List.set_cons_zero, List.set_cons_succ])
      refine WD_take (i := 12) (oi := { dst := some 26, op := Go.Op.fieldAddr 47 (Go.Operand.tmp 25) 1, type := 0, pos := _, after := #[{ on := 11, ground := Go.Ground.data }], guard := none }) (v := ?vb12) rfl (by kernel_rfl) (by kernel_rfl) (by kernel_rfl) (by kernel_rfl) (fun _ _ _ h => h) (Or.inl ⟨by rfl, ?hyb12⟩) hHeld ?_
      case hyb12 => (intro wz hSw; (try dsimp only at hSw); have z1 := (hSw.cell (p := ⟨g, 1, none⟩) glt).trans C1W.out; have zc := HC.out wz hSw; have z42 := zc.2.2.1; have z43 := zc.2.2.2; clear zc; go_simp; try with_reducible rfl)
      (try simp only [Act.put, List.setIfInBounds_toArray, List.set_cons_zero, List.set_cons_succ])
      refine WD_take (i := 13) (oi := { dst := some 27, op := Go.Op.load 45 (Go.Operand.tmp 26), type := 45, pos := _, after := #[{ on := 12, ground := Go.Ground.data }], guard := none }) (v := ?vb13) rfl (by kernel_rfl) (by kernel_rfl) (by kernel_rfl) (by kernel_rfl) (fun _ _ _ h => h) (Or.inl ⟨by rfl, ?hyb13⟩) hHeld ?_
      case hyb13 => (intro wz hSw; (try dsimp only at hSw); have z1 := (hSw.cell (p := ⟨g, 1, none⟩) glt).trans C1W.out; have zc := HC.out wz hSw; have z42 := zc.2.2.1; have z43 := zc.2.2.2; clear zc; go_simp; try with_reducible rfl)
      (try simp only [Act.put, List.setIfInBounds_toArray, List.set_cons_zero, List.set_cons_succ])
      refine WD_take (i := 14) (oi := { dst := some 28, op := Go.Op.move (Go.Operand.tmp 4), type := 3, pos := _, after := #[], guard := none }) (v := ?vb14) rfl (by kernel_rfl) (by kernel_rfl) (by kernel_rfl) (by kernel_rfl) (fun _ _ _ h => h) (Or.inl ⟨by rfl, ?hyb14⟩) hHeld ?_
      case hyb14 => (intro wz hSw; (try dsimp only at hSw); have z1 := (hSw.cell (p := ⟨g, 1, none⟩) glt).trans C1W.out; have zc := HC.out wz hSw; have z42 := zc.2.2.1; have z43 := zc.2.2.2; clear zc; go_simp; try with_reducible rfl)
      (try simp only [Act.put, List.setIfInBounds_toArray, List.set_cons_zero, List.set_cons_succ])
      refine WD_take (i := 15) (oi := { dst := some 29, op := Go.Op.indexAddr 45 (Go.Operand.tmp 27) (Go.Operand.tmp 28), type := 0, pos := _, after := #[{ on := 13, ground := Go.Ground.data }, { on := 14, ground := Go.Ground.data }], guard := none }) (v := ?vb15) rfl (by kernel_rfl) (by kernel_rfl) (by kernel_rfl) (by kernel_rfl) (fun _ _ _ h => h) (Or.inl ⟨by rfl, ?hyb15⟩) hHeld ?_
      case hyb15 => (intro wz hSw; (try dsimp only at hSw); have z1 := (hSw.cell (p := ⟨g, 1, none⟩) glt).trans C1W.out; have zc := HC.out wz hSw; have z42 := zc.2.2.1; have z43 := zc.2.2.2; clear zc; go_simp; try with_reducible rfl)
      (try simp only [Act.put, List.setIfInBounds_toArray, List.set_cons_zero, List.set_cons_succ])
      refine WD_take (i := 16) (oi := { dst := some 30, op := Go.Op.fieldAddr 80 (Go.Operand.tmp 29) 3, type := 0, pos := _, after := #[{ on := 15, ground := Go.Ground.data }], guard := none }) (v := ?vb16) rfl (by kernel_rfl) (by kernel_rfl) (by kernel_rfl) (by kernel_rfl) (fun _ _ _ h => h) (Or.inl ⟨by rfl, ?hyb16⟩) hHeld ?_
      case hyb16 => (intro wz hSw; (try dsimp only at hSw); have z1 := (hSw.cell (p := ⟨g, 1, none⟩) glt).trans C1W.out; have zc := HC.out wz hSw; have z42 := zc.2.2.1; have z43 := zc.2.2.2; clear zc; go_simp; try with_reducible rfl)
      (try simp only [Act.put, List.setIfInBounds_toArray, List.set_cons_zero, List.set_cons_succ])
      refine WD_take (i := 17) (oi := { dst := some 31, op := Go.Op.load 48 (Go.Operand.tmp 30), type := 48, pos := _, after := #[{ on := 16, ground := Go.Ground.data }], guard := none }) (v := ?vb17) rfl (by kernel_rfl) (by kernel_rfl) (by kernel_rfl) (by kernel_rfl) (fun _ _ _ h => h) (Or.inl ⟨by rfl, ?hyb17⟩) hHeld ?_
      case hyb17 => (intro wz hSw; (try dsimp only at hSw); have z1 := (hSw.cell (p := ⟨g, 1, none⟩) glt).trans C1W.out; have zc := HC.out wz hSw; have z42 := zc.2.2.1; have z43 := zc.2.2.2; clear zc; go_simp; try with_reducible rfl)
      (try simp only [Act.put, List.setIfInBounds_toArray, List.set_cons_zero, List.set_cons_succ])
      refine WD_ready (rs := [9]) (by kernel_rfl) (by simp) ?_
      refine AllD.cons (o := { dst := some 23, op := Go.Op.call { callee := Go.Callee.builtin Go.Builtin.append, args := #[Go.Operand.tmp 14, Go.Operand.tmp 22], argTypes := #[48, 48] }, type := 48, pos := _, after := #[{ on := 0, ground := Go.Ground.data }, { on := 8, ground := Go.Ground.data }], guard := none }) rfl (fun K hK => ?_) AllD.nil
      refine step_append_sl rfl (.tmp 14) (.tmp 22) 48 rfl w.heap.size 29 i0 (.int .u64 0) 1 8 Try.underlying48 hi0 hz0 hz1 hz2 rfl (by decide) v (p) (wds (rts fl k)) rfl OW0.out A1 m1 c1' (wds x.f.slots) rfl (by rw [wds_len, Nat.mul_one, HM.out.1]) R1.out.none0 (R1.out.news HBD.out) (wds_one _) (by unfold maxLen; omega) (by omega) HBD.out.size ?_
      intro v_1 w_1 own_1 gr_1 at_1
      have B_1 : Hid (Below w.heap.size w w_1) := Lib.hid (HBD.out.grown gr_1 HBD.out.size (fun q hq => (OW0.out.lt q hq).1))
      have O_1 := Lib.hid own_1
      clear own_1 gr_1 at_1
      refine hK.out _ _ B_1.out (fun hHeld1 => ?_)
      clear hK K
      (try simp only [Act.put, List.setIfInBounds_toArray, List.set_cons_zero, List.set_cons_succ])
      refine WD_ready (rs := [18]) (by kernel_rfl) (by simp) ?_
      refine AllD.cons (o := { dst := some 32, op := Go.Op.call { callee := Go.Callee.builtin Go.Builtin.append, args := #[Go.Operand.tmp 23, Go.Operand.tmp 31], argTypes := #[48, 48] }, type := 48, pos := _, after := #[{ on := 9, ground := Go.Ground.data }, { on := 17, ground := Go.Ground.data }, { on := 9, ground := Go.Ground.chain }], guard := none }) rfl (fun K hK => ?_) AllD.nil
      refine step_append_sl rfl (.tmp 23) (.tmp 31) 48 rfl w.heap.size 29 i0 (.int .u64 0) 1 8 Try.underlying48 hi0 hz0 hz1 hz2 rfl (by decide) v_1 (p + m1) (wds (rts fl k) ++ wds x.f.slots) rfl O_1.out A2 m2 c2' (wds x.f.added) rfl (by rw [wds_len, Nat.mul_one, HM.out.2]) R2.out.none0 (R2.out.news B_1.out) (wds_one _) (by unfold maxLen; omega) (by omega) B_1.out.size ?_
      intro v_2 w_2 own_2 gr_2 at_2
      have B_2 : Hid (Below w.heap.size w w_2) := Lib.hid (B_1.out.grown gr_2 B_1.out.size (fun q hq => (O_1.out.lt q hq).1))
      have O_2 := Lib.hid own_2
      clear own_2 gr_2 at_2
      refine hK.out _ _ B_2.out (fun hHeld2 => ?_)
      clear hK K
      (try simp only [Act.put, List.setIfInBounds_toArray, List.set_cons_zero, List.set_cons_succ])
      refine WD_take (i := 19) (oi := { dst := some 3, op := Go.Op.assign (Go.Operand.tmp 32), type := 48, pos := _, after := #[{ on := 18, ground := Go.Ground.data }, { on := 18, ground := Go.Ground.chain }, { on := 0, ground := Go.Ground.phase }, { on := 1, ground := Go.Ground.phase }, { on := 2, ground := Go.Ground.phase }, { on := 3, ground := Go.Ground.phase }, { on := 4, ground := Go.Ground.phase }, { on := 5, ground := Go.Ground.phase }, { on := 6, ground := Go.Ground.phase }, { on := 7, ground := Go.Ground.phase }, { on := 8, ground := Go.Ground.phase }, { on := 9, ground := Go.Ground.phase }, { on := 10, ground := Go.Ground.phase }, { on := 11, ground := Go.Ground.phase }, { on := 12, ground := Go.Ground.phase }, { on := 13, ground := Go.Ground.phase }, { on := 14, ground := Go.Ground.phase }, { on := 15, ground := Go.Ground.phase }, { on := 16, ground := Go.Ground.phase }, { on := 17, ground := Go.Ground.phase }, { on := 18, ground := Go.Ground.phase }], guard := none }) (v := ?vc19) rfl (by kernel_rfl) (by kernel_rfl) (by kernel_rfl) (by kernel_rfl) (fun _ _ _ h => h) (Or.inl ⟨by rfl, ?hyc19⟩) hHeld2 ?_
      case hyc19 => (intro wz hSw; (try dsimp only at hSw); go_simp; try with_reducible rfl)
      (try simp only [Act.put, List.setIfInBounds_toArray, List.set_cons_zero, List.set_cons_succ])
      refine WD_done (by kernel_rfl) ?_ _
      have OWN3 : Hid (w_2.ownsRow w.heap.size 29 1 v_2 (p + m1 + m2) (wds (rts fl (k + 1)))) := Lib.hid (by rw [HX.out, wds_app, wds_app]; exact O_2.out)
      have HB3 := B_2
      have HPN : Hid (p + m1 + m2 = (rts fl (k + 1)).length) := Lib.hid (by rw [HX.out, List.length_append, List.length_append, ← HP.out, ← HM.out.1, ← HM.out.2])
      clear HX HP O_1 O_2 OW0 HBD hHeld hHeld1 hHeld2 B_1
      clear C1W HC R1 R2 own hb HM
      go_wp2
      go_roundw
      case rel => exact ⟨_, k + 1, p + m1 + m2, rfl, by go_num, hlt, hle, HPN, OWN3, HB3⟩
      case measure => simp [intOf]; omega
    · obtain rfl : k = N := by omega
      have c1 := T1.out.c1
      obtain ⟨FA, fc, e0, _, _⟩ := T1.out.shape
      rw [e0, ← HN.out] at c1
      have er : Hid (rts fl k = wdOf (fl.map (·.f))) := Lib.hid (by unfold rts; rw [HN.out, List.take_length])
      obtain rfl : p = L := by rw [HP.out, er.out, HL.out]
      have OWN : Hid (wr.ownsRow w.heap.size 29 1 v p (wds (wdOf (fl.map (·.f))))) := Lib.hid (by rw [← er.out]; exact own.out)
      obtain ⟨A, c, rfl⟩ := vform OWN.out
      clear e0 own
      go_wp2
      go_ret
      exact ⟨_, _, rfl, OWN, hb⟩
end Go.Proofs.Ytkecnhogooaccaa
