import Derived.Test.YtdkfimejabanlaaDoorYr
import Derived.Test.YtdkfimejabanlaaDoorTs
namespace Go.Proofs.YtdkfimejabanlaaDoor
open DR
open Go.ChangeShapes Go.WideShapes Go.ChangeAt Go.RowKit Go.WideMaps
set_option linter.unusedVariables false
set_option linter.unusedSimpArgs false
theorem resF_nil (t : TT) : resF [] t = t := by
  obtain ⟨rk, h⟩ := sinv_nil.ok
  refine resF_stop h (fun hb => hb.2 ?_)
  rw [stA_get]; split <;> simp [zeroT, TT.k]
theorem good_var {k : Nat} (h : k < 2000) : goodT (varT (k : Int)) = true := by
  unfold goodT
  rw [show shp (varT (k : Int)) = true from shp_v h]
  rfl
theorem apG_var {k : Nat} (h : k < 2000) : apG [] (varT (k : Int)) = varT (k : Int) := by
  unfold apG
  rw [if_pos (good_var h)]
  obtain ⟨rk, hr⟩ := sinv_nil.ok
  rw [app_eq hr (good_shp (good_var h)), resF_nil]; rfl
theorem same_var (k : Nat) (A A' : Option Addr) (c c' : Nat) (w : World) : Calls Tryd.prog 16 #[.agg #[.int .i64 7, .string ⟨#[]⟩, .int .i64 (k : Int), .slice A 0 c], .agg #[.int .i64 7, .string ⟨#[]⟩, .int .i64 (k : Int), .slice A' 0 c']] w fun e w' => e = .returned (.bool true) ∧ Below w.heap.size w w' :=
  Same_self (d := 1) (V := varT (k : Int)) (by omega) rfl ⟨A, c, rfl, .inl rfl⟩ ⟨A', c', rfl, .inl rfl⟩
abbrev no0 : Nat → Prop := fun _ => False
theorem bel_sb {w w1 w2 wr : World} {sb : Nat} (h1 : Below w.heap.size w w1) (h2 : Below w1.heap.size w1 w2) (hs : sb = w1.heap.size) (h : Below sb w2 wr) : Below w.heap.size w wr :=
  (bt h1 h2).trans (h.mono (by rw [hs]; exact h1.size))
set_option maxRecDepth 100000 in
set_option maxHeartbeats 16000000 in
theorem fresh_walk {l : List TT} {A : Option Addr} {c : Nat} {n : Int} {w : World} (hAw : ∀ W, Calls Tryd.prog 10 #[] W fun e W' => e = .returned (.bool true) ∧ Below W.heap.size W W') (hl : TRow w any0 A l) :
    Calls Tryd.prog 9 #[.slice A l.length c, .int .i64 n] w fun e w' => e = .returned (.bool true) ∧ Below w.heap.size w w' := by
  have HAW := Lib.hid hAw
  have HL := Lib.hid hl
  clear hAw hl
  by_cases h12 : 12 < l.length
  · have d12 : decide ((12 : Int) < (l.length : Int)) = true := decide_eq_true (by omega)
    have i12 : (12 : Int) < (l.length : Int) := by omega
    clear h12
    go_enter Tryd.func9, Tryd.ntmps9
    go_wp2_with fail
    refine (HAW.out _).mono ?_; rintro e w1 ⟨rfl, b1⟩
    have B1 := Lib.hid b1
    clear b1
    go_wp2
    go_ret
    exact ⟨rfl, B1.out⟩
  have d12 : decide ((12 : Int) < (l.length : Int)) = false := decide_eq_false (by omega)
  have i12 : ¬ (12 : Int) < (l.length : Int) := by omega
  by_cases hn0 : n < 0
  · have dn := decide_eq_true hn0
    go_enter Tryd.func9, Tryd.ntmps9
    go_wp2_with fail
    refine (HAW.out _).mono ?_; rintro e w1 ⟨rfl, b1⟩
    have B1 := Lib.hid b1
    clear b1
    go_wp2
    go_ret
    exact ⟨rfl, B1.out⟩
  have dn := decide_eq_false hn0
  by_cases hn5 : 50 < n
  · have dn5 := decide_eq_true hn5
    go_enter Tryd.func9, Tryd.ntmps9
    go_wp2_with fail
    refine (HAW.out _).mono ?_; rintro e w1 ⟨rfl, b1⟩
    have B1 := Lib.hid b1
    clear b1
    go_wp2
    go_ret
    exact ⟨rfl, B1.out⟩
  have dn5 := decide_eq_false hn5
  obtain ⟨m, rfl⟩ : ∃ m : Nat, n = m := ⟨n.toNat, by omega⟩
  have hm : m ≤ 50 := by omega
  have hl12 : l.length ≤ 12 := by omega
  go_enter Tryd.func9, Tryd.ntmps9
  go_wp2_with fail
  refine (HAW.out _).mono ?_; rintro e w1 ⟨rfl, b1⟩
  have B1 := Lib.hid b1
  clear b1
  go_wp2_with fail
  refine (news_any (fun _ h => h) _).mono ?_; rintro e w2 ⟨rfl, s2, b2⟩
  obtain ⟨sb, hsb⟩ : ∃ z, z = w1.heap.size := ⟨_, rfl⟩
  rw [← hsb] at s2 ⊢
  have B2 := Lib.hid b2
  have S2 := Lib.hid s2
  have HSB := Lib.hid hsb
  clear b2 s2 hsb
  go_wp2
  go_loopw [6] (fun i wr => ∃ k : Nat, k ≤ m ∧ i = .int .i64 k ∧ Hid (SubS wr no0 sb sb (k : Int) []) ∧ Hid (Below sb w2 wr)) (fun i _ => m - (intOf i).toNat)
  case atStart => exact ⟨0, by omega, by first | rfl | trivial, S2, Lib.hid (Below.refl _ _)⟩
  case round =>
    obtain ⟨k, hk, rfl, HS, HBR⟩ := hrel
    have HSZ := Lib.hid (show sb ≤ wr.heap.size by have := HBR.out.size; have := B2.out.size; have := HSB.out; omega)
    by_cases hlt : k < m
    · have hlti : (k : Int) < (m : Int) := by omega
      have hk2 : k < 2000 := by omega
      go_wp2_with fail
      refine (freshS (m := ((k + 1 : Nat) : Int)) (by omega) (by omega) (by omega) HS.out HSZ.out).mono ?_; rintro e w3 ⟨rfl, s3, g3⟩
      have b3 : Below sb wr w3 := g3.below (fun q hq => hq.1) HSZ.out
      have S3 := Lib.hid s3
      have B3 := Lib.hid b3
      clear s3 b3 g3
      rw [show tv (varT (k : Int)) none 0 = .agg #[.int .i64 7, .string ⟨#[]⟩, .int .i64 (k : Int), .slice none 0 0] from rfl]
      obtain ⟨w4, hw4⟩ : ∃ z, z = w3.alloc (.cells #[.int .i64 7, .string ⟨#[]⟩, .int .i64 (k : Int), .slice none 0 0] 27) := ⟨_, rfl⟩
      have B4 := Lib.hid (show Below w3.heap.size w3 w4 by rw [hw4]; exact below_alloc _ _)
      have X4 := Lib.hid (show w4.heap[w3.heap.size]? = some (.cells #[.int .i64 7, .string ⟨#[]⟩, .int .i64 (k : Int), .slice none 0 0] 27 (0, 0)) by rw [hw4]; exact heap_alloc_new _ _)
      have Z4 := Lib.hid (show w3.heap.size < w4.heap.size by rw [hw4]; simp)
      have HW4 := Lib.hid hw4
      clear hw4
      have AP := Lib.hid (show ∀ W, Below w4.heap.size w4 W → Calls Tryd.prog 15 #[.pointer (some ⟨sb, 0, none⟩), .agg #[.int .i64 7, .string ⟨#[]⟩, .int .i64 (k : Int), .slice none 0 0]] W (fun e w' => ∃ A c, e = .returned (.agg #[.int .i64 7, .string ⟨#[]⟩, .int .i64 (k : Int), .slice A 0 c]) ∧ Below W.heap.size W w') from fun W hW => (applyS (d := 7) (V := varT (k : Int)) (v := .agg #[.int .i64 7, .string ⟨#[]⟩, .int .i64 (k : Int), .slice none 0 0]) (n := ((k + 1 : Nat) : Int)) (Nat.le_refl _) rfl sinv_nil (S3.out.later (bt B4.out hW)) ⟨none, 0, rfl, .inl rfl⟩).mono (by
        rintro e w' ⟨A', c', rfl, -, hb⟩
        rw [apG_var hk2]
        exact ⟨A', c', rfl, hb⟩))
      go_wp2_with fail
      try rw [← HW4.out]
      try go_wp2_with fail
      refine wp_region_D [] (fun w' => Below w4.heap.size w4 w') (by kernel_rfl) (bdr w4) (fun hHeld => ?_)
      refine WD_take (i := 0) (oi := { dst := some 30, op := .load 27 (.tmp 7), type := 27, pos := _, after := #[], guard := none }) (v := ?va0) rfl (by kernel_rfl) (by kernel_rfl) (by kernel_rfl) (by kernel_rfl) (fun _ _ _ h => h) (Or.inl ⟨by rfl, ?hya0⟩) hHeld ?_
      case hya0 => (intro wz hSw; (try dsimp only at hSw); have zc := cells4 ((hSw.block w3.heap.size Z4.out).trans X4.out); have z0 := zc.1; have z1 := zc.2.1; have z2 := zc.2.2.1; have z3 := zc.2.2.2; clear zc; go_simp; try with_reducible rfl)
      (try simp only [Act.put, List.setIfInBounds_toArray, List.set_cons_zero, List.set_cons_succ])
      refine WD_take (i := 1) (oi := { dst := some 31, op := .move (.tmp 6), type := 3, pos := _, after := #[], guard := none }) (v := ?va1) rfl (by kernel_rfl) (by kernel_rfl) (by kernel_rfl) (by kernel_rfl) (fun _ _ _ h => h) (Or.inl ⟨by rfl, ?hya1⟩) hHeld ?_
      case hya1 => (intro wz hSw; (try dsimp only at hSw); go_simp; try with_reducible rfl)
      (try simp only [Act.put, List.setIfInBounds_toArray, List.set_cons_zero, List.set_cons_succ])
      refine WD_ready (rs := [2]) (by kernel_rfl) (by simp) ?_
      refine AllD.cons (o := { dst := some 32, op := .call { callee := .value (.func 17), args := #[.tmp 31], argTypes := #[3] }, type := 27, pos := _, after := #[{ on := 1, ground := .data }], guard := none }) rfl (fun K hK => ?_) AllD.nil
      rw [if_pos (by rfl)]
      go_simp
      refine (vlaw_any _ _).mono ?_; rintro e w5 ⟨rfl, hb5⟩
      rw [show tv (varT (k : Int)) none 0 = .agg #[.int .i64 7, .string ⟨#[]⟩, .int .i64 (k : Int), .slice none 0 0] from rfl]
      try go_wp2_with fail
      refine hK.out _ _ (bt hHeld hb5) (fun hHeld => ?_)
      clear hK K
      (try simp only [Act.put, List.setIfInBounds_toArray, List.set_cons_zero, List.set_cons_succ])
      clear hb5
      refine WD_ready (rs := [3]) (by kernel_rfl) (by simp) ?_
      refine AllD.cons (o := { dst := some 33, op := .call { callee := .value (.func 16), args := #[.tmp 30, .tmp 32], argTypes := #[27, 27] }, type := 4, pos := _, after := #[{ on := 0, ground := .data }, { on := 2, ground := .data }, { on := 2, ground := .chain }], guard := none }) rfl (fun K hK => ?_) AllD.nil
      rw [if_pos (by rfl)]
      go_simp
      refine (same_var k _ _ _ _ _).mono ?_; rintro e w6 ⟨rfl, hb6⟩
      try go_wp2_with fail
      refine hK.out _ _ (bt hHeld hb6) (fun hHeld => ?_)
      clear hK K
      (try simp only [Act.put, List.setIfInBounds_toArray, List.set_cons_zero, List.set_cons_succ])
      clear hb6
      refine WD_take (i := 4) (oi := { dst := some 34, op := .unOp .not 4 (.tmp 33), type := 4, pos := _, after := #[{ on := 3, ground := .data }], guard := none }) (v := ?va4) rfl (by kernel_rfl) (by kernel_rfl) (by kernel_rfl) (by kernel_rfl) (fun _ _ _ h => h) (Or.inl ⟨by rfl, ?hya4⟩) hHeld ?_
      case hya4 => (intro wz hSw; (try dsimp only at hSw); go_simp; try with_reducible rfl)
      (try simp only [Act.put, List.setIfInBounds_toArray, List.set_cons_zero, List.set_cons_succ])
      refine WD_take (i := 5) (oi := { dst := some 35, op := .move (.tmp 34), type := 4, pos := _, after := #[{ on := 4, ground := .data }, { on := 3, ground := .chain }], guard := none }) (v := ?va5) rfl (by kernel_rfl) (by kernel_rfl) (by kernel_rfl) (by kernel_rfl) (fun _ _ _ h => h) (Or.inl ⟨by rfl, ?hya5⟩) hHeld ?_
      case hya5 => (intro wz hSw; (try dsimp only at hSw); go_simp; try with_reducible rfl)
      (try simp only [Act.put, List.setIfInBounds_toArray, List.set_cons_zero, List.set_cons_succ])
      refine WD_take (i := 6) (oi := { dst := some 36, op := .move (.tmp 5), type := 23, pos := _, after := #[{ on := 5, ground := .guard }], guard := some (5, false) }) (v := ?va6) rfl (by kernel_rfl) (by kernel_rfl) (by kernel_rfl) (by kernel_rfl) (fun _ _ _ h => h) (Or.inl ⟨by rfl, ?hya6⟩) hHeld ?_
      case hya6 => (intro wz hSw; (try dsimp only at hSw); go_simp; try with_reducible rfl)
      (try simp only [Act.put, List.setIfInBounds_toArray, List.set_cons_zero, List.set_cons_succ])
      refine WD_take (i := 7) (oi := { dst := some 37, op := .load 27 (.tmp 7), type := 27, pos := _, after := #[{ on := 5, ground := .guard }], guard := some (5, false) }) (v := ?va7) rfl (by kernel_rfl) (by kernel_rfl) (by kernel_rfl) (by kernel_rfl) (fun _ _ _ h => h) (Or.inl ⟨by rfl, ?hya7⟩) hHeld ?_
      case hya7 => (intro wz hSw; (try dsimp only at hSw); have zc := cells4 ((hSw.block w3.heap.size Z4.out).trans X4.out); have z0 := zc.1; have z1 := zc.2.1; have z2 := zc.2.2.1; have z3 := zc.2.2.2; clear zc; go_simp; try with_reducible rfl)
      (try simp only [Act.put, List.setIfInBounds_toArray, List.set_cons_zero, List.set_cons_succ])
      refine WD_take (i := 9) (oi := { dst := some 39, op := .load 27 (.tmp 7), type := 27, pos := _, after := #[{ on := 5, ground := .guard }], guard := some (5, false) }) (v := ?va9) rfl (by kernel_rfl) (by kernel_rfl) (by kernel_rfl) (by kernel_rfl) (fun _ _ _ h => h) (Or.inl ⟨by rfl, ?hya9⟩) hHeld ?_
      case hya9 => (intro wz hSw; (try dsimp only at hSw); have zc := cells4 ((hSw.block w3.heap.size Z4.out).trans X4.out); have z0 := zc.1; have z1 := zc.2.1; have z2 := zc.2.2.1; have z3 := zc.2.2.2; clear zc; go_simp; try with_reducible rfl)
      (try simp only [Act.put, List.setIfInBounds_toArray, List.set_cons_zero, List.set_cons_succ])
      refine WD_ready (rs := [8]) (by kernel_rfl) (by simp) ?_
      refine AllD.cons (o := { dst := some 38, op := .call { callee := .value (.func 15), args := #[.tmp 36, .tmp 37], argTypes := #[23, 27] }, type := 27, pos := _, after := #[{ on := 6, ground := .data }, { on := 7, ground := .data }, { on := 5, ground := .chain }, { on := 5, ground := .guard }], guard := some (5, false) }) rfl (fun K hK => ?_) AllD.nil
      rw [if_pos (by rfl)]
      go_simp
      refine (AP.out _ hHeld).mono ?_; rintro e w7 ⟨A7, c7, rfl, hb7⟩
      try go_wp2_with fail
      refine hK.out _ _ (bt hHeld hb7) (fun hHeld => ?_)
      clear hK K
      (try simp only [Act.put, List.setIfInBounds_toArray, List.set_cons_zero, List.set_cons_succ])
      clear hb7 AP
      refine WD_ready (rs := [10]) (by kernel_rfl) (by simp) ?_
      refine AllD.cons (o := { dst := some 40, op := .call { callee := .value (.func 16), args := #[.tmp 38, .tmp 39], argTypes := #[27, 27] }, type := 4, pos := _, after := #[{ on := 8, ground := .data }, { on := 9, ground := .data }, { on := 8, ground := .chain }, { on := 5, ground := .guard }], guard := some (5, false) }) rfl (fun K hK => ?_) AllD.nil
      rw [if_pos (by rfl)]
      go_simp
      refine (same_var k _ _ _ _ _).mono ?_; rintro e w8 ⟨rfl, hb8⟩
      try go_wp2_with fail
      refine hK.out _ _ (bt hHeld hb8) (fun hHeld => ?_)
      clear hK K
      (try simp only [Act.put, List.setIfInBounds_toArray, List.set_cons_zero, List.set_cons_succ])
      clear hb8
      refine WD_take (i := 11) (oi := { dst := some 41, op := .unOp .not 4 (.tmp 40), type := 4, pos := _, after := #[{ on := 10, ground := .data }, { on := 5, ground := .guard }], guard := some (5, false) }) (v := ?va11) rfl (by kernel_rfl) (by kernel_rfl) (by kernel_rfl) (by kernel_rfl) (fun _ _ _ h => h) (Or.inl ⟨by rfl, ?hya11⟩) hHeld ?_
      case hya11 => (intro wz hSw; (try dsimp only at hSw); go_simp; try with_reducible rfl)
      (try simp only [Act.put, List.setIfInBounds_toArray, List.set_cons_zero, List.set_cons_succ])
      refine WD_take (i := 12) (oi := { dst := some 42, op := .pick (.tmp 35) (.const (.bool true)) (.tmp 41), type := 4, pos := _, after := #[{ on := 5, ground := .data }, { on := 11, ground := .data }], guard := none }) (v := ?va12) rfl (by kernel_rfl) (by kernel_rfl) (by kernel_rfl) (by kernel_rfl) (fun _ _ _ h => h) (Or.inl ⟨by rfl, ?hya12⟩) hHeld ?_
      case hya12 => (intro wz hSw; (try dsimp only at hSw); go_simp; try with_reducible rfl)
      (try simp only [Act.put, List.setIfInBounds_toArray, List.set_cons_zero, List.set_cons_succ])
      have B8 := Lib.hid hHeld
      clear hHeld
      refine WD_done (by kernel_rfl) ?_ _
      have S8 := Lib.hid ((S3.out.later B4.out).later B8.out)
      have BR8 := Lib.hid (HBR.out.trans (B3.out.trans ((bt B4.out B8.out).mono (by have := HSZ.out; have := B3.out.size; omega))))
      clear S3 B3 B4 B8 X4 HW4
      go_wp2
      go_roundw
      case rel => exact ⟨k + 1, by omega, by go_num, S8, BR8⟩
      case measure => simp [intOf]; omega
    · obtain rfl : k = m := by omega
      have hge : ¬ (k : Int) < (k : Int) := by omega
      have HBW := Lib.hid (bel_sb B1.out B2.out HSB.out HBR.out)
      as_aux_lemma =>
      go_wp2
      obtain ⟨w9, hw9⟩ : ∃ z, z = wr := ⟨_, rfl⟩
      rw [← hw9] at HS HBR HSZ HBW ⊢
      clear hw9
      go_loopw [8] (fun i wr => ∃ (j : Nat) (St : List TT), j ≤ 14 ∧ i = .int .i64 j ∧ Hid (SubS wr no0 sb sb (k : Int) St) ∧ Hid (SInv St) ∧ Hid (Below sb w9 wr)) (fun i _ => 14 - (intOf i).toNat)
      case atStart => exact ⟨0, [], by omega, by first | rfl | trivial, HS, Lib.hid sinv_nil, Lib.hid (Below.refl _ _)⟩
      case round =>
        obtain ⟨j, St, hj, rfl, HT, HI, HR⟩ := hrel
        have HZR := Lib.hid (show sb ≤ wr.heap.size by have := HR.out.size; have := HSZ.out; omega)
        have HWR := Lib.hid (show Below w.heap.size w wr from HBW.out.trans (HR.out.mono (by rw [HSB.out]; exact B1.out.size)))
        by_cases hjl : j + 1 < l.length
        · have hjli : (j : Int) + 1 < (l.length : Int) := by omega
          have hj0 : j < l.length := by omega
          have hj0i : (j : Int) < (l.length : Int) := by omega
          obtain ⟨b, o, rfl, hb, hr⟩ := HL.out.at (by omega)
          obtain ⟨Aa, ca, p0, p1, p2, p3, hin1⟩ := hr wr HWR.out j hj0
          obtain ⟨Ab, cb, q0, q1, q2, q3, hin2⟩ := hr wr HWR.out (j + 1) hjl
          obtain ⟨V, hV⟩ : ∃ V, V = l[j] := ⟨_, rfl⟩
          obtain ⟨U, hU⟩ : ∃ V, V = l[j + 1] := ⟨_, rfl⟩
          rw [← hV] at p0 p1 p2 p3 hin1
          rw [← hU] at q0 q1 q2 q3 hin2
          have CS := Lib.hid (fun W (hW : Below wr.heap.size wr W) => small_any 7 V _ 64 W most64 (hin1.later hW))
          have CS2 := Lib.hid (fun W (hW : Below wr.heap.size wr W) => small_any 7 U _ 64 W most64 (hin2.later hW))
          have HB := Lib.hid (show b < wr.heap.size from Nat.lt_of_lt_of_le hb HWR.out.size)
          unfold tv at CS CS2
          have I1 := Lib.hid hin1
          have I2 := Lib.hid hin2
          clear hr hb hV hU hin1 hin2
          cases hbg : bigT 7 V with
          | true =>
            rw [hbg] at CS
            as_aux_lemma =>
            clear hbg CS2 I1 I2
            go_wp2_with fail
            refine (CS.out _ (Below.refl _ _)).mono ?_; rintro e w3 ⟨rfl, b3⟩
            have B3 := Lib.hid (bt HWR.out b3)
            clear b3 CS p0 p1 p2 p3 q0 q1 q2 q3
            go_wp2
            go_ret
            exact ⟨rfl, B3.out⟩
          | false =>
          rw [hbg] at CS
          cases hbg2 : bigT 7 U with
          | true =>
            rw [hbg2] at CS2
            as_aux_lemma =>
            clear hbg hbg2 I1 I2
            go_wp2_with fail
            refine (CS.out _ (Below.refl _ _)).mono ?_; rintro e w3 ⟨rfl, b3⟩
            have B3 := Lib.hid b3
            have q0 := (b3.cell (p := ⟨b, _, none⟩) HB.out).trans q0
            have q1 := (b3.cell (p := ⟨b, _, none⟩) HB.out).trans q1
            have q2 := (b3.cell (p := ⟨b, _, none⟩) HB.out).trans q2
            have q3 := (b3.cell (p := ⟨b, _, none⟩) HB.out).trans q3
            clear b3 CS p0 p1 p2 p3
            go_wp2_with fail
            refine (CS2.out _ B3.out).mono ?_; rintro e w4 ⟨rfl, b4⟩
            have B4 := Lib.hid (bt HWR.out (bt B3.out b4))
            clear b4 CS2 q0 q1 q2 q3
            go_wp2
            go_ret
            exact ⟨rfl, B4.out⟩
          | false =>
          rw [hbg2] at CS2
          have WJ := Lib.hid (show IntKind.i64.wrap ((j : Int) + 1) = (j : Int) + 1 from IntWalk.i64_in _ (by omega))
          have hj1 : (0 : Int) ≤ (j : Int) + 1 := by omega
          have P0 := Lib.hid p0; have P1 := Lib.hid p1; have P2 := Lib.hid p2; have P3 := Lib.hid p3
          have Q0 := Lib.hid q0; have Q1 := Lib.hid q1; have Q2 := Lib.hid q2; have Q3 := Lib.hid q3
          have UN := Lib.hid (fun W (hW : Below wr.heap.size wr W) => unifyS HI.out (HT.out.later hW) (Nat.le_trans HZR.out hW.size) hbg hbg2 (I1.out.later hW) (I2.out.later hW))
          have HI2 := Lib.hid (uniG_inv HI.out V U).1
          obtain ⟨⟨er, St2⟩, hq⟩ : ∃ q, q = uniG St V U := ⟨_, rfl⟩
          rw [← hq] at UN HI2
          unfold tv at UN
          clear hbg hbg2 hq
          go_wp2_with fail
          refine (CS.out _ (Below.refl _ _)).mono ?_; rintro e w3 ⟨rfl, b3⟩
          have B3 := Lib.hid b3
          have q0 := (b3.cell (p := ⟨b, _, none⟩) HB.out).trans q0
          have q1 := (b3.cell (p := ⟨b, _, none⟩) HB.out).trans q1
          have q2 := (b3.cell (p := ⟨b, _, none⟩) HB.out).trans q2
          have q3 := (b3.cell (p := ⟨b, _, none⟩) HB.out).trans q3
          clear b3 CS p0 p1 p2 p3
          go_wp2_with fail
          refine (CS2.out _ B3.out).mono ?_; rintro e w4 ⟨rfl, b4⟩
          have B4 := Lib.hid (bt B3.out b4)
          clear b4 CS2 q0 q1 q2 q3
          go_wp2_with fail
          refine wp_region_D [10] (fun w' => Below w4.heap.size w4 w') (by kernel_rfl) (bdr w4) (fun hHeld => ?_)
          refine WD_take (i := 0) (oi := { dst := some 65, op := .move (.tmp 5), type := 23, pos := _, after := #[], guard := none }) (v := ?vb0) rfl (by kernel_rfl) (by kernel_rfl) (by kernel_rfl) (by kernel_rfl) (fun _ _ _ h => h) (Or.inl ⟨by rfl, ?hyb0⟩) hHeld ?_
          case hyb0 => (intro wz hSw; (try dsimp only at hSw); go_simp; try with_reducible rfl)
          (try simp only [Act.put, List.setIfInBounds_toArray, List.set_cons_zero, List.set_cons_succ])
          refine WD_take (i := 1) (oi := { dst := some 66, op := .move (.tmp 0), type := 25, pos := _, after := #[], guard := none }) (v := ?vb1) rfl (by kernel_rfl) (by kernel_rfl) (by kernel_rfl) (by kernel_rfl) (fun _ _ _ h => h) (Or.inl ⟨by rfl, ?hyb1⟩) hHeld ?_
          case hyb1 => (intro wz hSw; (try dsimp only at hSw); go_simp; try with_reducible rfl)
          (try simp only [Act.put, List.setIfInBounds_toArray, List.set_cons_zero, List.set_cons_succ])
          refine WD_take (i := 2) (oi := { dst := some 67, op := .move (.tmp 8), type := 3, pos := _, after := #[], guard := none }) (v := ?vb2) rfl (by kernel_rfl) (by kernel_rfl) (by kernel_rfl) (by kernel_rfl) (fun _ _ _ h => h) (Or.inl ⟨by rfl, ?hyb2⟩) hHeld ?_
          case hyb2 => (intro wz hSw; (try dsimp only at hSw); go_simp; try with_reducible rfl)
          (try simp only [Act.put, List.setIfInBounds_toArray, List.set_cons_zero, List.set_cons_succ])
          refine WD_take (i := 3) (oi := { dst := some 68, op := .indexAddr 25 (.tmp 66) (.tmp 67), type := 0, pos := _, after := #[{ on := 1, ground := .data }, { on := 2, ground := .data }], guard := none }) (v := ?vb3) rfl (by kernel_rfl) (by kernel_rfl) (by kernel_rfl) (by kernel_rfl) (fun _ _ _ h => h) (Or.inl ⟨by rfl, ?hyb3⟩) hHeld ?_
          case hyb3 => (intro wz hSw; (try dsimp only at hSw); go_simp; try with_reducible rfl)
          (try simp only [Act.put, List.setIfInBounds_toArray, List.set_cons_zero, List.set_cons_succ])
          refine WD_take (i := 4) (oi := { dst := some 69, op := .load 27 (.tmp 68), type := 27, pos := _, after := #[{ on := 3, ground := .data }], guard := none }) (v := ?vb4) rfl (by kernel_rfl) (by kernel_rfl) (by kernel_rfl) (by kernel_rfl) (fun _ _ _ h => h) (Or.inl ⟨by rfl, ?hyb4⟩) hHeld ?_
          case hyb4 => (intro wz hSw; (try dsimp only at hSw); have z0 := ((bt B4.out hSw).cell (p := ⟨b, _, none⟩) HB.out).trans P0.out; have z1 := ((bt B4.out hSw).cell (p := ⟨b, _, none⟩) HB.out).trans P1.out; have z2 := ((bt B4.out hSw).cell (p := ⟨b, _, none⟩) HB.out).trans P2.out; have z3 := ((bt B4.out hSw).cell (p := ⟨b, _, none⟩) HB.out).trans P3.out; go_simp; try with_reducible rfl)
          (try simp only [Act.put, List.setIfInBounds_toArray, List.set_cons_zero, List.set_cons_succ])
          refine WD_take (i := 5) (oi := { dst := some 70, op := .move (.tmp 0), type := 25, pos := _, after := #[], guard := none }) (v := ?vb5) rfl (by kernel_rfl) (by kernel_rfl) (by kernel_rfl) (by kernel_rfl) (fun _ _ _ h => h) (Or.inl ⟨by rfl, ?hyb5⟩) hHeld ?_
          case hyb5 => (intro wz hSw; (try dsimp only at hSw); have wj := WJ.out; go_simp; try with_reducible rfl)
          (try simp only [Act.put, List.setIfInBounds_toArray, List.set_cons_zero, List.set_cons_succ])
          refine WD_take (i := 6) (oi := { dst := some 71, op := .move (.tmp 8), type := 3, pos := _, after := #[], guard := none }) (v := ?vb6) rfl (by kernel_rfl) (by kernel_rfl) (by kernel_rfl) (by kernel_rfl) (fun _ _ _ h => h) (Or.inl ⟨by rfl, ?hyb6⟩) hHeld ?_
          case hyb6 => (intro wz hSw; (try dsimp only at hSw); have wj := WJ.out; go_simp; try with_reducible rfl)
          (try simp only [Act.put, List.setIfInBounds_toArray, List.set_cons_zero, List.set_cons_succ])
          refine WD_take (i := 7) (oi := { dst := some 72, op := .binOp .add 3 (.tmp 71) (.const (.int .i64 1)) 3, type := 3, pos := _, after := #[{ on := 6, ground := .data }], guard := none }) (v := ?vb7) rfl (by kernel_rfl) (by kernel_rfl) (by kernel_rfl) (by kernel_rfl) (fun _ _ _ h => h) (Or.inl ⟨by rfl, ?hyb7⟩) hHeld ?_
          case hyb7 => (intro wz hSw; (try dsimp only at hSw); have wj := WJ.out; go_simp; try with_reducible rfl)
          (try simp only [Act.put, List.setIfInBounds_toArray, List.set_cons_zero, List.set_cons_succ])
          refine WD_take (i := 8) (oi := { dst := some 73, op := .indexAddr 25 (.tmp 70) (.tmp 72), type := 0, pos := _, after := #[{ on := 5, ground := .data }, { on := 7, ground := .data }], guard := none }) (v := ?vb8) rfl (by kernel_rfl) (by kernel_rfl) (by kernel_rfl) (by kernel_rfl) (fun _ _ _ h => h) (Or.inl ⟨by rfl, ?hyb8⟩) hHeld ?_
          case hyb8 => (intro wz hSw; (try dsimp only at hSw); have wj := WJ.out; go_simp; try with_reducible rfl)
          (try simp only [Act.put, List.setIfInBounds_toArray, List.set_cons_zero, List.set_cons_succ])
          refine WD_take (i := 9) (oi := { dst := some 74, op := .load 27 (.tmp 73), type := 27, pos := _, after := #[{ on := 8, ground := .data }], guard := none }) (v := ?vb9) rfl (by kernel_rfl) (by kernel_rfl) (by kernel_rfl) (by kernel_rfl) (fun _ _ _ h => h) (Or.inl ⟨by rfl, ?hyb9⟩) hHeld ?_
          case hyb9 => (intro wz hSw; (try dsimp only at hSw); have z0 := ((bt B4.out hSw).cell (p := ⟨b, _, none⟩) HB.out).trans Q0.out; have z1 := ((bt B4.out hSw).cell (p := ⟨b, _, none⟩) HB.out).trans Q1.out; have z2 := ((bt B4.out hSw).cell (p := ⟨b, _, none⟩) HB.out).trans Q2.out; have z3 := ((bt B4.out hSw).cell (p := ⟨b, _, none⟩) HB.out).trans Q3.out; go_simp; try with_reducible rfl)
          (try simp only [Act.put, List.setIfInBounds_toArray, List.set_cons_zero, List.set_cons_succ])
          refine WD_ready (rs := [10]) (by kernel_rfl) (by simp) ?_
          refine AllD.last (o := { dst := some 75, op := .call { callee := .value (.func 13), args := #[.tmp 65, .tmp 69, .tmp 74], argTypes := #[23, 27, 27] }, type := 29, pos := _, after := #[{ on := 0, ground := .data }, { on := 4, ground := .data }, { on := 9, ground := .data }], guard := none }) rfl (by kernel_rfl) (fun K hK => ?_) AllD.nil
          rw [if_pos (by rfl)]
          go_simp
          have hw5 := bt B4.out hHeld
          refine (UN.out _ hw5).mono ?_; rintro e w5 ⟨rfl, s5, g5⟩
          try go_wp2_with fail
          refine hK.out _ _ ?_
          clear hK K
          (try simp only [Act.put, List.setIfInBounds_toArray, List.set_cons_zero, List.set_cons_succ])
          have b5 : Below sb _ w5 := g5.below (fun q hq => hq.1) (Nat.le_trans HZR.out hw5.size)
          have S5 := Lib.hid s5
          have B5 := Lib.hid ((HR.out.trans (hw5.mono HZR.out)).trans b5)
          clear s5 b5 g5 hw5 UN
          refine WD_done (by kernel_rfl) ?_ _
          go_wp2
          go_roundw
          case rel => exact ⟨j + 2, St2, by omega, by go_num, S5, HI2, B5⟩
          case measure => simp [intOf]; omega
        · have hjli : ¬ (j : Int) + 1 < (l.length : Int) := by omega
          go_wp2_with fail
          refine (freshS (m := ((k + 1 : Nat) : Int)) (by omega) (by omega) (by omega) HT.out HZR.out).mono ?_; rintro e w3 ⟨rfl, s3, g3⟩
          have b3 : Below sb wr w3 := g3.below (fun q hq => hq.1) HZR.out
          have B3 := Lib.hid (show Below w.heap.size w w3 from HWR.out.trans (b3.mono (by rw [HSB.out]; exact B1.out.size)))
          clear s3 b3 g3
          rw [show tv (varT (k : Int)) none 0 = .agg #[.int .i64 7, .string ⟨#[]⟩, .int .i64 (k : Int), .slice none 0 0] from rfl]
          go_wp2_with fail
          refine (vlaw_any _ _).mono ?_; rintro e w4 ⟨rfl, b4⟩
          have B4 := Lib.hid (bt B3.out b4)
          clear b4
          rw [show tv (varT (k : Int)) none 0 = .agg #[.int .i64 7, .string ⟨#[]⟩, .int .i64 (k : Int), .slice none 0 0] from rfl]
          go_wp2_with fail
          refine (same_var k _ _ _ _ _).mono ?_; rintro e w5 ⟨rfl, b5⟩
          have B5 := Lib.hid (bt B4.out b5)
          clear b5
          go_wp2
          go_ret
          exact ⟨rfl, B5.out⟩
end Go.Proofs.YtdkfimejabanlaaDoor
