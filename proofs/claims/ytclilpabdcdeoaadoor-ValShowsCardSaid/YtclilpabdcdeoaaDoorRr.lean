import Derived.Test.YtclilpabdcdeoaaDoorRag
namespace Go.Proofs.YtclilpabdcdeoaaDoor
open Go.ChangeShapes Go.WideShapes Go.ChangeAt Go.RowKit
set_option linter.unusedVariables false
set_option linter.unusedSimpArgs false
section
variable (cells : List VT) (cons : List CN) (f : Nat) (V : VT) (T : TT)
theorem rt_poly (h : T.k = 7) : rtext cells cons (f + 1) V T = polyT := by unfold rtext leafV; rw [if_pos h]
theorem rt_mark (h : T.k ≠ 7) (h2 : T.k ≠ V.k) : rtext cells cons (f + 1) V T = markT := by unfold rtext leafV; rw [if_neg h, if_neg h2]
theorem rt_num (h : T.k = 1) (h2 : V.k = 1) : rtext cells cons (f + 1) V T = numT V.n := by
  unfold rtext; rw [h, h2]; show (if (1 : Int) = 1 then _ else _) = _; rw [if_pos rfl]
theorem rt_bool (h : T.k = 2) (h2 : V.k = 2) : rtext cells cons (f + 1) V T = boolT (V.n == 1) := by
  unfold rtext; rw [h, h2]; show (if (2 : Int) = 1 then _ else _) = _; rw [if_neg (by decide), if_pos rfl]
theorem rt_unit (h : T.k = 3) (h2 : V.k = 3) : rtext cells cons (f + 1) V T = unitT := by
  unfold rtext; rw [h, h2]; rfl
theorem rt_fun (h : T.k = 5) (h2 : V.k = 5) : rtext cells cons (f + 1) V T = funT := by
  unfold rtext; rw [h, h2]; rfl
theorem rt_con (h : T.k = 4) (h2 : V.k = 4) : rtext cells cons (f + 1) V T = constrT (rtext cells cons f) cons V := by
  unfold rtext; rw [h, h2]; show (if (4 : Int) = 1 then _ else _) = _; rw [if_neg (by decide), if_neg (by decide), if_pos rfl]
theorem rt_ref (h : T.k = 6) (h2 : V.k = 6) : rtext cells cons (f + 1) V T = refdT (rtext cells cons f) cells V T := by
  unfold rtext; rw [h, h2]; show (if (6 : Int) = 1 then _ else _) = _; rw [if_neg (by decide), if_neg (by decide), if_neg (by decide)]
theorem rt_none (h1 : T.k ≠ 1) (h2 : T.k ≠ 2) (h3 : T.k ≠ 3) (h4 : T.k ≠ 4) (h5 : T.k ≠ 5) (h6 : T.k ≠ 6) (h7 : T.k ≠ 7) : rtext cells cons (f + 1) V T = markT := by
  by_cases h : T.k = V.k
  · unfold rtext leafV
    rw [if_neg h7, if_pos h, if_neg (by omega), if_neg (by omega), if_neg (by omega)]
  · exact rt_mark cells cons f V T h7 h
theorem con_args (g : VT → TT → ByteArray) : constrT g cons V = V.nm ++ argsT g cons V := by
  unfold constrT argsT
  split
  · rw [ba_empty]
  · rw [ByteArray.append_assoc]
end
set_option maxRecDepth 100000 in
set_option maxHeartbeats 16000000 in
theorem rrender_any {cells : List VT} {cons : List CN} {Ac Ak : Option Addr} {cc ck : Nat} (hkl : cons.length ≤ 1000000) (hcb : ∀ c ∈ cells, bigD 7 c = false) (hcl : cells.length ≤ 1000000) :
    ∀ (f d : Nat) (V : VT) (T : TT) (v t : Value) (w : World) (dp : Int), dp + f = 50 → 0 ≤ dp → bigD d V = false → RRow w (fun _ => True) Ac cells → CRow w Ak cons → RV w V v → RT w T t → (rtext cells cons f V T).size ≤ 900000 →
      Calls Tryd.prog 34 #[v, t, .slice Ac cells.length cc, .slice Ak cons.length ck, .int .i64 dp] w fun e w' => e = .returned (.string (rtext cells cons f V T)) ∧ Below w.heap.size w w' := by
  intro f
  induction f with
  | zero =>
    intro d V T v t w dp hdp hdp0 hbig hrc hk ⟨A, c, hv, hn, hA⟩ ⟨A2, c2, ht, hA2⟩ hs
    subst hv ht
    have d1 : decide ((50 : Int) ≤ dp) = true := decide_eq_true (by omega)
    have B2 : Hid (Below w.heap.size w ((w.alloc (.cells #[.int .i64 V.k, .int .i64 V.n, .string V.nm, .slice A V.args.length c, .int .i64 V.node, .pointer none, .int .i64 V.at_, .int .i64 0] 46)).alloc (.cells #[.int .i64 T.k, .string T.nm, .int .i64 T.vr, .slice A2 T.args.length c2] 60))) := Lib.hid ((below_alloc w _).trans ((below_alloc _ _).mono (below_alloc w _).size))
    clear hrc hk hA hA2 hs hbig hcb
    go_enter Tryd.func34, Tryd.ntmps34
    go_wp2
    go_ret
    exact ⟨rfl, B2.out⟩
  | succ f ih =>
    intro d V T v t w dp hdp hdp0 hbig hrc hk ⟨A, c, hv, hn, hA⟩ ⟨A2, c2, ht, hA2⟩ hs
    subst hv ht
    have d1 : decide ((50 : Int) ≤ dp) = false := decide_eq_false (by omega)
    have B2 : Hid (Below w.heap.size w ((w.alloc (.cells #[.int .i64 V.k, .int .i64 V.n, .string V.nm, .slice A V.args.length c, .int .i64 V.node, .pointer none, .int .i64 V.at_, .int .i64 0] 46)).alloc (.cells #[.int .i64 T.k, .string T.nm, .int .i64 T.vr, .slice A2 T.args.length c2] 60))) := Lib.hid ((below_alloc w _).trans ((below_alloc _ _).mono (below_alloc w _).size))
    have HS := Lib.hid hs
    have HRC := Lib.hid hrc
    have HK := Lib.hid hk
    have HA := Lib.hid hA
    have HA2 := Lib.hid hA2
    have HBG := Lib.hid hbig
    have HCB := Lib.hid hcb
    have IH := Lib.hid ih
    clear hs hrc hk hA hA2 hbig hcb ih
    obtain ⟨tk, htk⟩ : ∃ tk, tk = T.k := ⟨_, rfl⟩
    obtain ⟨vk, hvk⟩ : ∃ vk, vk = V.k := ⟨_, rfl⟩
    have HTK := Lib.hid htk
    have HVK := Lib.hid hvk
    clear htk hvk
    rw [← HTK.out, ← HVK.out] at B2
    rw [← HTK.out, ← HVK.out]
    by_cases h7 : tk = 7
    · subst h7
      have HR : Hid (rtext cells cons (f + 1) V T = polyT) := Lib.hid (rt_poly cells cons f V T HTK.out.symm)
      clear HS
      rw [HR.out]
      go_enter Tryd.func34, Tryd.ntmps34
      go_wp2
      go_ret
      exact ⟨rfl, B2.out⟩
    have e7 : (tk == 7) = false := beq_eq_false_iff_ne.2 h7
    by_cases h1 : tk = 1
    · subst h1
      by_cases g1 : vk = 1
      · subst g1
        have HR : Hid (rtext cells cons (f + 1) V T = numT V.n) := Lib.hid (rt_num cells cons f V T HTK.out.symm HVK.out.symm)
        rw [HR.out]
        have DG : Hid (∀ W, Calls Tryd.prog 40 #[.int .i64 V.n] W fun e w' => e = .returned (.string (numT V.n)) ∧ Below W.heap.size W w') := Lib.hid (fun W => digits_num V.n W hn.1 hn.2)
        clear HS
        go_enter Tryd.func34, Tryd.ntmps34
        go_wp2_with fail
        refine (DG.out _).mono ?_; rintro e w1 ⟨rfl, hb1⟩
        have HB1 := Lib.hid (B2.out.trans (hb1.mono B2.out.size))
        clear hb1
        go_wp2
        go_ret
        exact ⟨rfl, HB1.out⟩
      · have dv : (vk == 1) = false := beq_eq_false_iff_ne.2 g1
        have HR : Hid (rtext cells cons (f + 1) V T = markT) := Lib.hid (rt_mark cells cons f V T (by rw [← HTK.out]; decide) (by rw [← HTK.out, ← HVK.out]; exact fun e => g1 e.symm))
        clear HS
        rw [HR.out]
        go_enter Tryd.func34, Tryd.ntmps34
        go_wp2
        go_ret
        exact ⟨rfl, B2.out⟩
    have e1 : (tk == 1) = false := beq_eq_false_iff_ne.2 h1
    by_cases h2 : tk = 2
    · subst h2
      by_cases g2 : vk = 2
      · subst g2
        have HR : Hid (rtext cells cons (f + 1) V T = boolT (V.n == 1)) := Lib.hid (rt_bool cells cons f V T HTK.out.symm HVK.out.symm)
        rw [HR.out]
        clear HS
        cases hb : (V.n == 1)
        · go_enter Tryd.func34, Tryd.ntmps34
          go_wp2
          go_ret
          exact ⟨rfl, B2.out⟩
        · go_enter Tryd.func34, Tryd.ntmps34
          go_wp2
          go_ret
          exact ⟨rfl, B2.out⟩
      · have dv : (vk == 2) = false := beq_eq_false_iff_ne.2 g2
        have HR : Hid (rtext cells cons (f + 1) V T = markT) := Lib.hid (rt_mark cells cons f V T (by rw [← HTK.out]; decide) (by rw [← HTK.out, ← HVK.out]; exact fun e => g2 e.symm))
        clear HS
        rw [HR.out]
        go_enter Tryd.func34, Tryd.ntmps34
        go_wp2
        go_ret
        exact ⟨rfl, B2.out⟩
    have e2 : (tk == 2) = false := beq_eq_false_iff_ne.2 h2
    by_cases h3 : tk = 3
    · subst h3
      by_cases g3 : vk = 3
      · subst g3
        have HR : Hid (rtext cells cons (f + 1) V T = unitT) := Lib.hid (rt_unit cells cons f V T HTK.out.symm HVK.out.symm)
        clear HS
        rw [HR.out]
        go_enter Tryd.func34, Tryd.ntmps34
        go_wp2
        go_ret
        exact ⟨rfl, B2.out⟩
      · have dv : (vk == 3) = false := beq_eq_false_iff_ne.2 g3
        have HR : Hid (rtext cells cons (f + 1) V T = markT) := Lib.hid (rt_mark cells cons f V T (by rw [← HTK.out]; decide) (by rw [← HTK.out, ← HVK.out]; exact fun e => g3 e.symm))
        clear HS
        rw [HR.out]
        go_enter Tryd.func34, Tryd.ntmps34
        go_wp2
        go_ret
        exact ⟨rfl, B2.out⟩
    have e3 : (tk == 3) = false := beq_eq_false_iff_ne.2 h3
    by_cases h5 : tk = 5
    · subst h5
      by_cases g5 : vk = 5
      · subst g5
        have HR : Hid (rtext cells cons (f + 1) V T = funT) := Lib.hid (rt_fun cells cons f V T HTK.out.symm HVK.out.symm)
        clear HS
        rw [HR.out]
        go_enter Tryd.func34, Tryd.ntmps34
        go_wp2
        go_ret
        exact ⟨rfl, B2.out⟩
      · have dv : (vk == 5) = false := beq_eq_false_iff_ne.2 g5
        have HR : Hid (rtext cells cons (f + 1) V T = markT) := Lib.hid (rt_mark cells cons f V T (by rw [← HTK.out]; decide) (by rw [← HTK.out, ← HVK.out]; exact fun e => g5 e.symm))
        clear HS
        rw [HR.out]
        go_enter Tryd.func34, Tryd.ntmps34
        go_wp2
        go_ret
        exact ⟨rfl, B2.out⟩
    have e5 : (tk == 5) = false := beq_eq_false_iff_ne.2 h5
    by_cases h6 : tk = 6
    · subst h6
      by_cases g6 : vk = 6
      · subst g6
        have HR := rt_ref cells cons f V T HTK.out.symm HVK.out.symm
        have hs := HS.out
        rw [HR] at hs ⊢
        clear HS HR
        unfold refdT at hs ⊢
        by_cases hg : 0 ≤ V.at_ ∧ V.at_.toNat < cells.length ∧ T.args.length = 1
        · rw [dif_pos hg] at hs ⊢
          obtain ⟨ga, gb, gc⟩ := hg
          obtain ⟨j, hj⟩ : ∃ j : Nat, V.at_ = (j : Int) := ⟨V.at_.toNat, (Int.toNat_of_nonneg ga).symm⟩
          obtain ⟨j', hj'⟩ : ∃ j', j' = V.at_.toNat := ⟨_, rfl⟩
          have hjj : j' = j := by omega
          subst hjj
          have h0t : 0 < T.args.length := by omega
          obtain ⟨Vc, hVc⟩ : ∃ Vc, Vc = cells[V.at_.toNat] := ⟨_, rfl⟩
          obtain ⟨Tc, hTc⟩ : ∃ Tc, Tc = T.args[0] := ⟨_, rfl⟩
          rw [← hVc, ← hTc] at hs ⊢
          have hjl : j' < cells.length := by omega
          have hVc' : Vc = cells[j'] := by rw [hVc]; congr 1; exact hj'.symm
          have hsz : (rtext cells cons f Vc Tc).size ≤ 900000 := by rw [ByteArray.size_append] at hs; omega
          have hbc : bigD 7 Vc = false := HCB.out Vc (by rw [hVc']; exact List.getElem_mem hjl)
          rw [gc] at B2 ⊢
          rw [hj] at B2 ⊢
          have hb2 := heap2 w (.cells #[.int .i64 6, .int .i64 V.n, .string V.nm, .slice A V.args.length c, .int .i64 V.node, .pointer none, .int .i64 (j' : Int), .int .i64 0] 46) (.cells #[.int .i64 6, .string T.nm, .int .i64 T.vr, .slice A2 1 c2] 60)
          obtain ⟨wB, hwB⟩ : ∃ wB, wB = (w.alloc (.cells #[.int .i64 6, .int .i64 V.n, .string V.nm, .slice A V.args.length c, .int .i64 V.node, .pointer none, .int .i64 (j' : Int), .int .i64 0] 46)).alloc (.cells #[.int .i64 6, .string T.nm, .int .i64 T.vr, .slice A2 1 c2] 60) := ⟨_, rfl⟩
          rw [← hwB] at hb2 B2
          have p6 : wB.drew.cell? ⟨w.heap.size, 6, none⟩ = some (.int .i64 (j' : Int)) := by show wB.cell? _ = _; simp [World.cell?, hb2.1]
          have p3 : wB.drew.cell? ⟨w.heap.size + 1, 3, none⟩ = some (.slice A2 1 c2) := by show wB.cell? _ = _; simp [World.cell?, hb2.2]
          have BD : Below w.heap.size w wB.drew := B2.out.trans ((bdr wB).mono B2.out.size)
          have HRC2 := Lib.hid (HRC.out.later BD)
          have HK2 := Lib.hid (HK.out.later BD)
          obtain ⟨cb, A1, c1, hAc, hcbl, x0, x1, x2, x3, x4, x5, x6, x7, hin⟩ := HRC2.out.at j' hjl
          obtain ⟨tb, A3, c3, hAt, htbl, y0, y1, y2, y3, hin2⟩ := (HA2.out.later BD).at 0 h0t
          rw [← hTc] at y0 y1 y2 y3 hin2
          rw [← hVc'] at x0 x1 x2 x3 x4 x6 hin
          rw [Nat.zero_mul] at y0 y1 y2 y3
          simp only [Nat.zero_add] at y1 y2 y3
          subst hAt
          have hwd : IntKind.i64.wrap (dp + 1) = dp + 1 := IntWalk.i64_in _ (by omega)
          have CALL := Lib.hid (by have := IH.out 7 Vc Tc _ _ wB.drew (dp + 1) (by omega) (by omega) hbc HRC2.out HK2.out hin hin2 hsz; exact this)
          rw [hAc] at CALL ⊢
          obtain ⟨s2, hs2⟩ : ∃ s2, s2 = rtext cells cons f Vc Tc := ⟨_, rfl⟩
          rw [← hs2] at CALL hsz ⊢
          obtain ⟨s3, hs3⟩ : ∃ s3, s3 = refT ++ s2 := ⟨_, rfl⟩
          rw [← hs3]
          have ad := add_str (a := { data := #[114, 101, 102, 32] }) (b := s2) (c := s3) hs3.symm (by decide) (by omega)
          have hjli : (j' : Int) < (cells.length : Int) := by omega
          have hjd : decide ((cells.length : Int) ≤ (j' : Int)) = false := decide_eq_false (by omega)
          have hjd2 : decide ((j' : Int) < 0) = false := decide_eq_false (by omega)
          have hjd3 : ¬ ((cells.length : Int) ≤ (j' : Int)) := by omega
          have hjd4 : decide (cells.length ≤ j') = false := decide_eq_false (by omega)
          have HWB := Lib.hid hwB
          have HBD := Lib.hid BD
          have q6 : wB.cell? ⟨w.heap.size, 6, none⟩ = some (.int .i64 (j' : Int)) := p6
          have q3 : wB.cell? ⟨w.heap.size + 1, 3, none⟩ = some (.slice (some ⟨tb, 0, none⟩) 1 c2) := p3
          clear hs2 hs3 hsz hin hin2 hb2 BD hjl hVc' hVc hTc hbc hs hj hj' ga gb gc h0t HA HA2 HRC HRC2 HK HK2 IH HCB HBG hAc hcbl htbl B2 hn
          clear hwB
          go_enter Tryd.func34, Tryd.ntmps34
          go_wp2
          rw [← HWB.out]
          refine wp_region_held_drew (S := fun w' => w'.cell? ⟨w.heap.size, 6, none⟩ = some (.int .i64 (j' : Int)) ∧ w'.cell? ⟨w.heap.size + 1, 3, none⟩ = some (.slice (some ⟨tb, 0, none⟩) 1 c2) ∧ w'.cell? ⟨cb, j' * 8, none⟩ = some (.int .i64 Vc.k) ∧ w'.cell? ⟨cb, j' * 8 + 1, none⟩ = some (.int .i64 Vc.n) ∧ w'.cell? ⟨cb, j' * 8 + 2, none⟩ = some (.string Vc.nm) ∧ w'.cell? ⟨cb, j' * 8 + 3, none⟩ = some (.slice A1 Vc.args.length c1) ∧ w'.cell? ⟨cb, j' * 8 + 4, none⟩ = some (.int .i64 Vc.node) ∧ w'.cell? ⟨cb, j' * 8 + 5, none⟩ = some (.pointer none) ∧ w'.cell? ⟨cb, j' * 8 + 6, none⟩ = some (.int .i64 Vc.at_) ∧ w'.cell? ⟨cb, j' * 8 + 7, none⟩ = some (.int .i64 0) ∧ w'.cell? ⟨tb, 0, none⟩ = some (.int .i64 Tc.k) ∧ w'.cell? ⟨tb, 1, none⟩ = some (.string Tc.nm) ∧ w'.cell? ⟨tb, 2, none⟩ = some (.int .i64 Tc.vr) ∧ w'.cell? ⟨tb, 3, none⟩ = some (.slice A3 Tc.args.length c3)) (by kernel_rfl) ?_ (fun hHeld => ?_)
          · (try dsimp only); go_keep
          refine wpAnyH_take (i := 0) (oi := { dst := some 69, op := Go.Op.move (Go.Operand.tmp 2), type := 43, pos := _, after := #[], guard := none }) (v := ?vr0) rfl (by kernel_rfl) (by kernel_rfl) (by kernel_rfl) (fun _ _ _ h => h) (Or.inl ⟨by rfl, ?hyr0⟩) (by assumption) ?_
          case hyr0 => (intro wz hSw; (try dsimp only at hSw); go_simp; try with_reducible rfl)
          (try simp only [Act.put, List.setIfInBounds_toArray, List.set_cons_zero, List.set_cons_succ])
          refine wpAnyH_take (i := 1) (oi := { dst := some 70, op := Go.Op.fieldAddr 46 (Go.Operand.tmp 5) 6, type := 0, pos := _, after := #[], guard := none }) (v := ?vr1) rfl (by kernel_rfl) (by kernel_rfl) (by kernel_rfl) (fun _ _ _ h => h) (Or.inl ⟨by rfl, ?hyr1⟩) (by assumption) ?_
          case hyr1 => (intro wz hSw; (try dsimp only at hSw); go_simp; try with_reducible rfl)
          (try simp only [Act.put, List.setIfInBounds_toArray, List.set_cons_zero, List.set_cons_succ])
          refine wpAnyH_take (i := 2) (oi := { dst := some 71, op := Go.Op.load 3 (Go.Operand.tmp 70), type := 3, pos := _, after := #[{ on := 1, ground := Go.Ground.data }], guard := none }) (v := ?vr2) rfl (by kernel_rfl) (by kernel_rfl) (by kernel_rfl) (fun _ _ _ h => h) (Or.inl ⟨by rfl, ?hyr2⟩) (by assumption) ?_
          case hyr2 => (intro wz hSw; (try dsimp only at hSw); go_simp; try with_reducible rfl)
          (try simp only [Act.put, List.setIfInBounds_toArray, List.set_cons_zero, List.set_cons_succ])
          refine wpAnyH_take (i := 3) (oi := { dst := some 72, op := Go.Op.indexAddr 43 (Go.Operand.tmp 69) (Go.Operand.tmp 71), type := 0, pos := _, after := #[{ on := 0, ground := Go.Ground.data }, { on := 2, ground := Go.Ground.data }], guard := none }) (v := ?vr3) rfl (by kernel_rfl) (by kernel_rfl) (by kernel_rfl) (fun _ _ _ h => h) (Or.inl ⟨by rfl, ?hyr3⟩) (by assumption) ?_
          case hyr3 => (intro wz hSw; (try dsimp only at hSw); go_simp; try with_reducible rfl)
          (try simp only [Act.put, List.setIfInBounds_toArray, List.set_cons_zero, List.set_cons_succ])
          refine wpAnyH_take (i := 4) (oi := { dst := some 73, op := Go.Op.load 46 (Go.Operand.tmp 72), type := 46, pos := _, after := #[{ on := 3, ground := Go.Ground.data }], guard := none }) (v := ?vr4) rfl (by kernel_rfl) (by kernel_rfl) (by kernel_rfl) (fun _ _ _ h => h) (Or.inl ⟨by rfl, ?hyr4⟩) (by assumption) ?_
          case hyr4 => (intro wz hSw; (try dsimp only at hSw); go_simp; try with_reducible rfl)
          (try simp only [Act.put, List.setIfInBounds_toArray, List.set_cons_zero, List.set_cons_succ])
          refine wpAnyH_take (i := 5) (oi := { dst := some 74, op := Go.Op.fieldAddr 60 (Go.Operand.tmp 6) 3, type := 0, pos := _, after := #[], guard := none }) (v := ?vr5) rfl (by kernel_rfl) (by kernel_rfl) (by kernel_rfl) (fun _ _ _ h => h) (Or.inl ⟨by rfl, ?hyr5⟩) (by assumption) ?_
          case hyr5 => (intro wz hSw; (try dsimp only at hSw); go_simp; try with_reducible rfl)
          (try simp only [Act.put, List.setIfInBounds_toArray, List.set_cons_zero, List.set_cons_succ])
          refine wpAnyH_take (i := 6) (oi := { dst := some 75, op := Go.Op.load 58 (Go.Operand.tmp 74), type := 58, pos := _, after := #[{ on := 5, ground := Go.Ground.data }], guard := none }) (v := ?vr6) rfl (by kernel_rfl) (by kernel_rfl) (by kernel_rfl) (fun _ _ _ h => h) (Or.inl ⟨by rfl, ?hyr6⟩) (by assumption) ?_
          case hyr6 => (intro wz hSw; (try dsimp only at hSw); go_simp; try with_reducible rfl)
          (try simp only [Act.put, List.setIfInBounds_toArray, List.set_cons_zero, List.set_cons_succ])
          refine wpAnyH_take (i := 7) (oi := { dst := some 76, op := Go.Op.indexAddr 58 (Go.Operand.tmp 75) (Go.Operand.const (Go.Value.int Go.IntKind.i64 0)), type := 0, pos := _, after := #[{ on := 6, ground := Go.Ground.data }], guard := none }) (v := ?vr7) rfl (by kernel_rfl) (by kernel_rfl) (by kernel_rfl) (fun _ _ _ h => h) (Or.inl ⟨by rfl, ?hyr7⟩) (by assumption) ?_
          case hyr7 => (intro wz hSw; (try dsimp only at hSw); go_simp; try with_reducible rfl)
          (try simp only [Act.put, List.setIfInBounds_toArray, List.set_cons_zero, List.set_cons_succ])
          refine wpAnyH_take (i := 8) (oi := { dst := some 77, op := Go.Op.load 60 (Go.Operand.tmp 76), type := 60, pos := _, after := #[{ on := 7, ground := Go.Ground.data }], guard := none }) (v := ?vr8) rfl (by kernel_rfl) (by kernel_rfl) (by kernel_rfl) (fun _ _ _ h => h) (Or.inl ⟨by rfl, ?hyr8⟩) (by assumption) ?_
          case hyr8 => (intro wz hSw; (try dsimp only at hSw); go_simp; try with_reducible rfl)
          (try simp only [Act.put, List.setIfInBounds_toArray, List.set_cons_zero, List.set_cons_succ])
          refine wpAnyH_take (i := 9) (oi := { dst := some 78, op := Go.Op.move (Go.Operand.tmp 2), type := 43, pos := _, after := #[], guard := none }) (v := ?vr9) rfl (by kernel_rfl) (by kernel_rfl) (by kernel_rfl) (fun _ _ _ h => h) (Or.inl ⟨by rfl, ?hyr9⟩) (by assumption) ?_
          case hyr9 => (intro wz hSw; (try dsimp only at hSw); go_simp; try with_reducible rfl)
          (try simp only [Act.put, List.setIfInBounds_toArray, List.set_cons_zero, List.set_cons_succ])
          refine wpAnyH_take (i := 10) (oi := { dst := some 79, op := Go.Op.move (Go.Operand.tmp 3), type := 55, pos := _, after := #[], guard := none }) (v := ?vr10) rfl (by kernel_rfl) (by kernel_rfl) (by kernel_rfl) (fun _ _ _ h => h) (Or.inl ⟨by rfl, ?hyr10⟩) (by assumption) ?_
          case hyr10 => (intro wz hSw; (try dsimp only at hSw); go_simp; try with_reducible rfl)
          (try simp only [Act.put, List.setIfInBounds_toArray, List.set_cons_zero, List.set_cons_succ])
          refine wpAnyH_take (i := 11) (oi := { dst := some 80, op := Go.Op.move (Go.Operand.tmp 4), type := 3, pos := _, after := #[], guard := none }) (v := ?vr11) rfl (by kernel_rfl) (by kernel_rfl) (by kernel_rfl) (fun _ _ _ h => h) (Or.inl ⟨by rfl, ?hyr11⟩) (by assumption) ?_
          case hyr11 => (intro wz hSw; (try dsimp only at hSw); go_simp; try with_reducible rfl)
          (try simp only [Act.put, List.setIfInBounds_toArray, List.set_cons_zero, List.set_cons_succ])
          refine wpAnyH_take (i := 12) (oi := { dst := some 81, op := Go.Op.binOp Go.BinOp.add 3 (Go.Operand.tmp 80) (Go.Operand.const (Go.Value.int Go.IntKind.i64 1)) 3, type := 3, pos := _, after := #[{ on := 11, ground := Go.Ground.data }], guard := none }) (v := ?vr12) rfl (by kernel_rfl) (by kernel_rfl) (by kernel_rfl) (fun _ _ _ h => h) (Or.inl ⟨by rfl, ?hyr12⟩) (by assumption) ?_
          case hyr12 => (intro wz hSw; (try dsimp only at hSw); go_simp; try with_reducible rfl)
          (try simp only [Act.put, List.setIfInBounds_toArray, List.set_cons_zero, List.set_cons_succ])
          refine wpAnyH_ready (rs := [13]) (by kernel_rfl) (by simp) ?_
          refine AllReadyH.cons (o := { dst := some 82, op := Go.Op.call { callee := Go.Callee.value (Go.Operand.func 34), args := #[Go.Operand.tmp 73, Go.Operand.tmp 77, Go.Operand.tmp 78, Go.Operand.tmp 79, Go.Operand.tmp 81], argTypes := #[46, 60, 43, 55, 3] }, type := 9, pos := _, after := #[{ on := 4, ground := Go.Ground.data }, { on := 8, ground := Go.Ground.data }, { on := 9, ground := Go.Ground.data }, { on := 10, ground := Go.Ground.data }, { on := 12, ground := Go.Ground.data }], guard := none }) rfl (fun K hK => ?_) AllReadyH.nil
          go_simp
          refine Calls.mono CALL.out ?_; rintro e w5 ⟨rfl, hb5⟩
          have HBF : Hid (Below w.heap.size w w5) := Lib.hid (HBD.out.trans (hb5.mono HBD.out.size))
          have z0 := keepC hb5 p6
          have z1 := keepC hb5 p3
          have z2 := keepC hb5 x0
          have z3 := keepC hb5 x1
          have z4 := keepC hb5 x2
          have z5 := keepC hb5 x3
          have z6 := keepC hb5 x4
          have z7 := keepC hb5 x5
          have z8 := keepC hb5 x6
          have z9 := keepC hb5 x7
          have z10 := keepC hb5 y0
          have z11 := keepC hb5 y1
          have z12 := keepC hb5 y2
          have z13 := keepC hb5 y3
          clear hb5
          go_wp2_with fail
          refine hK.out _ _ ?_ (fun hHeld => ?_)
          · (try dsimp only); go_keep
          clear hK K
          (try simp only [Act.put, List.setIfInBounds_toArray, List.set_cons_zero, List.set_cons_succ])
          refine wpAnyH_take (i := 14) (oi := { dst := some 83, op := Go.Op.binOp Go.BinOp.add 9 (Go.Operand.const (Go.Value.string { data := #[114, 101, 102, 32] })) (Go.Operand.tmp 82) 9, type := 9, pos := _, after := #[{ on := 13, ground := Go.Ground.data }], guard := none }) (v := ?vr14) rfl (by kernel_rfl) (by kernel_rfl) (by kernel_rfl) (fun _ _ _ h => h) (Or.inl ⟨by rfl, ?hyr14⟩) (by assumption) ?_
          case hyr14 => (intro wz hSw; (try dsimp only at hSw); go_simp; try with_reducible rfl)
          (try simp only [Act.put, List.setIfInBounds_toArray, List.set_cons_zero, List.set_cons_succ])
          refine wpAnyH_take (i := 15) (oi := { dst := some 10, op := Go.Op.assign (Go.Operand.tmp 83), type := 9, pos := _, after := #[{ on := 14, ground := Go.Ground.data }, { on := 13, ground := Go.Ground.chain }, { on := 0, ground := Go.Ground.phase }, { on := 1, ground := Go.Ground.phase }, { on := 2, ground := Go.Ground.phase }, { on := 3, ground := Go.Ground.phase }, { on := 4, ground := Go.Ground.phase }, { on := 5, ground := Go.Ground.phase }, { on := 6, ground := Go.Ground.phase }, { on := 7, ground := Go.Ground.phase }, { on := 8, ground := Go.Ground.phase }, { on := 9, ground := Go.Ground.phase }, { on := 10, ground := Go.Ground.phase }, { on := 11, ground := Go.Ground.phase }, { on := 12, ground := Go.Ground.phase }, { on := 13, ground := Go.Ground.phase }, { on := 14, ground := Go.Ground.phase }], guard := none }) (v := ?vr15) rfl (by kernel_rfl) (by kernel_rfl) (by kernel_rfl) (fun _ _ _ h => h) (Or.inl ⟨by rfl, ?hyr15⟩) (by assumption) ?_
          case hyr15 => (intro wz hSw; (try dsimp only at hSw); go_simp; try with_reducible rfl)
          (try simp only [Act.put, List.setIfInBounds_toArray, List.set_cons_zero, List.set_cons_succ])
          refine wpAnyH_done (by kernel_rfl) ?_ _
          go_wp2
          go_ret
          exact ⟨rfl, HBF.out⟩
        · rw [dif_neg hg] at hs ⊢
          clear hs
          by_cases a1 : V.at_ < 0
          · have q1 := decide_eq_true a1
            go_enter Tryd.func34, Tryd.ntmps34
            go_wp2
            go_ret
            exact ⟨rfl, B2.out⟩
          have q1 := decide_eq_false a1
          by_cases a2 : (cells.length : Int) ≤ V.at_
          · have q2 := decide_eq_true a2
            go_enter Tryd.func34, Tryd.ntmps34
            go_wp2
            go_ret
            exact ⟨rfl, B2.out⟩
          have q2 := decide_eq_false a2
          have a3 : T.args.length ≠ 1 := fun e => hg ⟨by omega, by omega, e⟩
          have q3 : ((T.args.length : Int) == 1) = false := beq_eq_false_iff_ne.2 (by omega)
          have q4 : ((T.args.length : Int) != 1) = true := by simp [bne, q3]
          have q5 : (T.args.length == 1) = false := beq_eq_false_iff_ne.2 a3
          have q6 : (T.args.length != 1) = true := by simp [bne, q5]
          go_enter Tryd.func34, Tryd.ntmps34
          go_wp2
          go_ret
          exact ⟨rfl, B2.out⟩
      · have dv : (vk == 6) = false := beq_eq_false_iff_ne.2 g6
        have HR : Hid (rtext cells cons (f + 1) V T = markT) := Lib.hid (rt_mark cells cons f V T (by rw [← HTK.out]; decide) (by rw [← HTK.out, ← HVK.out]; exact fun e => g6 e.symm))
        clear HS
        rw [HR.out]
        go_enter Tryd.func34, Tryd.ntmps34
        go_wp2
        go_ret
        exact ⟨rfl, B2.out⟩
    have e6 : (tk == 6) = false := beq_eq_false_iff_ne.2 h6
    by_cases h4 : tk = 4
    · subst h4
      by_cases g4 : vk = 4
      · subst g4
        have HR : Hid (rtext cells cons (f + 1) V T = V.nm ++ argsT (rtext cells cons f) cons V) := Lib.hid ((rt_con cells cons f V T HTK.out.symm HVK.out.symm).trans (con_args cons V _))
        have hs := HS.out
        rw [HR.out] at hs ⊢
        clear HS HR
        have hb2 := heap2 w (.cells #[.int .i64 4, .int .i64 V.n, .string V.nm, .slice A V.args.length c, .int .i64 V.node, .pointer none, .int .i64 V.at_, .int .i64 0] 46) (.cells #[.int .i64 4, .string T.nm, .int .i64 T.vr, .slice A2 T.args.length c2] 60)
        obtain ⟨wB, hwB⟩ : ∃ wB, wB = (w.alloc (.cells #[.int .i64 4, .int .i64 V.n, .string V.nm, .slice A V.args.length c, .int .i64 V.node, .pointer none, .int .i64 V.at_, .int .i64 0] 46)).alloc (.cells #[.int .i64 4, .string T.nm, .int .i64 T.vr, .slice A2 T.args.length c2] 60) := ⟨_, rfl⟩
        rw [← hwB] at hb2 B2
        obtain ⟨dd, hdd⟩ : ∃ dd, d = dd + 1 := by
          cases d with
          | zero => have := HBG.out; cases this
          | succ dd => exact ⟨dd, rfl⟩
        obtain ⟨g1, g2, g3⟩ := big_parts (by have := HBG.out; rwa [hdd] at this : bigD (dd + 1) V = false)
        have BD : Below w.heap.size w wB.drew := B2.out.trans ((bdr wB).mono B2.out.size)
        have hsa : (argsT (rtext cells cons f) cons V).size ≤ 900000 ∧ V.nm.size ≤ 900000 := by rw [ByteArray.size_append] at hs; omega
        have CALL := Lib.hid (rargs_any (w := wB.drew) (V := V) (v := .agg #[.int .i64 V.k, .int .i64 V.n, .string V.nm, .slice A V.args.length c, .int .i64 V.node, .pointer none, .int .i64 V.at_, .int .i64 0]) (cells := cells) (cons := cons) (Ac := Ac) (Ak := Ak) (nl := cells.length) (cc := cc) (ck := ck) (f := f) (dp := dp) ⟨A, c, rfl, hn, HA.out.later BD⟩ (HK.out.later BD) hkl (by omega) hdp0 (by omega)
          (fun W a t va vt hW ha hva hvt hsz => IH.out dd a t va vt W (dp + 1) (by omega) (by omega) (g3 a ha) ((HRC.out.later BD).later hW) ((HK.out.later BD).later hW) hva hvt hsz) hsa.1)
        rw [← HVK.out] at CALL
        obtain ⟨s2, hs2⟩ : ∃ s2, s2 = argsT (rtext cells cons f) cons V := ⟨_, rfl⟩
        rw [← hs2] at CALL hsa ⊢
        obtain ⟨s3, hs3⟩ : ∃ s3, s3 = V.nm ++ s2 := ⟨_, rfl⟩
        rw [← hs3]
        have ad := add_str (a := V.nm) (b := s2) (c := s3) hs3.symm (by omega) (by omega)
        have p0 : wB.drew.cell? ⟨w.heap.size, 0, none⟩ = some (.int .i64 4) := by show wB.cell? _ = _; simp [World.cell?, hb2.1]
        have p1 : wB.drew.cell? ⟨w.heap.size, 1, none⟩ = some (.int .i64 V.n) := by show wB.cell? _ = _; simp [World.cell?, hb2.1]
        have p2 : wB.drew.cell? ⟨w.heap.size, 2, none⟩ = some (.string V.nm) := by show wB.cell? _ = _; simp [World.cell?, hb2.1]
        have p3 : wB.drew.cell? ⟨w.heap.size, 3, none⟩ = some (.slice A V.args.length c) := by show wB.cell? _ = _; simp [World.cell?, hb2.1]
        have p4 : wB.drew.cell? ⟨w.heap.size, 4, none⟩ = some (.int .i64 V.node) := by show wB.cell? _ = _; simp [World.cell?, hb2.1]
        have p5 : wB.drew.cell? ⟨w.heap.size, 5, none⟩ = some (.pointer none) := by show wB.cell? _ = _; simp [World.cell?, hb2.1]
        have p6 : wB.drew.cell? ⟨w.heap.size, 6, none⟩ = some (.int .i64 V.at_) := by show wB.cell? _ = _; simp [World.cell?, hb2.1]
        have p7 : wB.drew.cell? ⟨w.heap.size, 7, none⟩ = some (.int .i64 0) := by show wB.cell? _ = _; simp [World.cell?, hb2.1]
        have HWB := Lib.hid hwB
        have HBD := Lib.hid BD
        clear hs2 hs3 hsa hs hb2 BD HA HA2 HRC HK IH HCB HBG B2 hn g1 g2 g3 hdd hwB
        go_enter Tryd.func34, Tryd.ntmps34
        go_wp2
        rw [← HWB.out]
        refine wp_region_held_drew (S := fun w' => w'.cell? ⟨w.heap.size, 0, none⟩ = some (.int .i64 4) ∧ w'.cell? ⟨w.heap.size, 1, none⟩ = some (.int .i64 V.n) ∧ w'.cell? ⟨w.heap.size, 2, none⟩ = some (.string V.nm) ∧ w'.cell? ⟨w.heap.size, 3, none⟩ = some (.slice A V.args.length c) ∧ w'.cell? ⟨w.heap.size, 4, none⟩ = some (.int .i64 V.node) ∧ w'.cell? ⟨w.heap.size, 5, none⟩ = some (.pointer none) ∧ w'.cell? ⟨w.heap.size, 6, none⟩ = some (.int .i64 V.at_) ∧ w'.cell? ⟨w.heap.size, 7, none⟩ = some (.int .i64 0)) (by kernel_rfl) ?_ (fun hHeld => ?_)
        · (try dsimp only); go_keep
        refine wpAnyH_take (i := 0) (oi := { dst := some 89, op := Go.Op.fieldAddr 46 (Go.Operand.tmp 5) 2, type := 0, pos := _, after := #[], guard := none }) (v := ?vs0) rfl (by kernel_rfl) (by kernel_rfl) (by kernel_rfl) (fun _ _ _ h => h) (Or.inl ⟨by rfl, ?hys0⟩) (by assumption) ?_
        case hys0 => (intro wz hSw; (try dsimp only at hSw); go_simp; try with_reducible rfl)
        (try simp only [Act.put, List.setIfInBounds_toArray, List.set_cons_zero, List.set_cons_succ])
        refine wpAnyH_take (i := 1) (oi := { dst := some 90, op := Go.Op.load 9 (Go.Operand.tmp 89), type := 9, pos := _, after := #[{ on := 0, ground := Go.Ground.data }], guard := none }) (v := ?vs1) rfl (by kernel_rfl) (by kernel_rfl) (by kernel_rfl) (fun _ _ _ h => h) (Or.inl ⟨by rfl, ?hys1⟩) (by assumption) ?_
        case hys1 => (intro wz hSw; (try dsimp only at hSw); go_simp; try with_reducible rfl)
        (try simp only [Act.put, List.setIfInBounds_toArray, List.set_cons_zero, List.set_cons_succ])
        refine wpAnyH_take (i := 2) (oi := { dst := some 91, op := Go.Op.load 46 (Go.Operand.tmp 5), type := 46, pos := _, after := #[], guard := none }) (v := ?vs2) rfl (by kernel_rfl) (by kernel_rfl) (by kernel_rfl) (fun _ _ _ h => h) (Or.inl ⟨by rfl, ?hys2⟩) (by assumption) ?_
        case hys2 => (intro wz hSw; (try dsimp only at hSw); go_simp; try with_reducible rfl)
        (try simp only [Act.put, List.setIfInBounds_toArray, List.set_cons_zero, List.set_cons_succ])
        refine wpAnyH_take (i := 3) (oi := { dst := some 92, op := Go.Op.move (Go.Operand.tmp 2), type := 43, pos := _, after := #[], guard := none }) (v := ?vs3) rfl (by kernel_rfl) (by kernel_rfl) (by kernel_rfl) (fun _ _ _ h => h) (Or.inl ⟨by rfl, ?hys3⟩) (by assumption) ?_
        case hys3 => (intro wz hSw; (try dsimp only at hSw); go_simp; try with_reducible rfl)
        (try simp only [Act.put, List.setIfInBounds_toArray, List.set_cons_zero, List.set_cons_succ])
        refine wpAnyH_take (i := 4) (oi := { dst := some 93, op := Go.Op.move (Go.Operand.tmp 3), type := 55, pos := _, after := #[], guard := none }) (v := ?vs4) rfl (by kernel_rfl) (by kernel_rfl) (by kernel_rfl) (fun _ _ _ h => h) (Or.inl ⟨by rfl, ?hys4⟩) (by assumption) ?_
        case hys4 => (intro wz hSw; (try dsimp only at hSw); go_simp; try with_reducible rfl)
        (try simp only [Act.put, List.setIfInBounds_toArray, List.set_cons_zero, List.set_cons_succ])
        refine wpAnyH_take (i := 5) (oi := { dst := some 94, op := Go.Op.move (Go.Operand.tmp 4), type := 3, pos := _, after := #[], guard := none }) (v := ?vs5) rfl (by kernel_rfl) (by kernel_rfl) (by kernel_rfl) (fun _ _ _ h => h) (Or.inl ⟨by rfl, ?hys5⟩) (by assumption) ?_
        case hys5 => (intro wz hSw; (try dsimp only at hSw); go_simp; try with_reducible rfl)
        (try simp only [Act.put, List.setIfInBounds_toArray, List.set_cons_zero, List.set_cons_succ])
        refine wpAnyH_ready (rs := [6]) (by kernel_rfl) (by simp) ?_
        refine AllReadyH.cons (o := { dst := some 95, op := Go.Op.call { callee := Go.Callee.value (Go.Operand.func 41), args := #[Go.Operand.tmp 91, Go.Operand.tmp 92, Go.Operand.tmp 93, Go.Operand.tmp 94], argTypes := #[46, 43, 55, 3] }, type := 9, pos := _, after := #[{ on := 2, ground := Go.Ground.data }, { on := 3, ground := Go.Ground.data }, { on := 4, ground := Go.Ground.data }, { on := 5, ground := Go.Ground.data }], guard := none }) rfl (fun K hK => ?_) AllReadyH.nil
        go_simp
        refine Calls.mono CALL.out ?_; rintro e w5 ⟨rfl, hb5⟩
        have HBF : Hid (Below w.heap.size w w5) := Lib.hid (HBD.out.trans (hb5.mono HBD.out.size))
        have z0 := keepC hb5 p0
        have z1 := keepC hb5 p1
        have z2 := keepC hb5 p2
        have z3 := keepC hb5 p3
        have z4 := keepC hb5 p4
        have z5 := keepC hb5 p5
        have z6 := keepC hb5 p6
        have z7 := keepC hb5 p7
        clear hb5
        go_wp2_with fail
        refine hK.out _ _ ?_ (fun hHeld => ?_)
        · (try dsimp only); go_keep
        clear hK K
        (try simp only [Act.put, List.setIfInBounds_toArray, List.set_cons_zero, List.set_cons_succ])
        refine wpAnyH_take (i := 7) (oi := { dst := some 96, op := Go.Op.binOp Go.BinOp.add 9 (Go.Operand.tmp 90) (Go.Operand.tmp 95) 9, type := 9, pos := _, after := #[{ on := 1, ground := Go.Ground.data }, { on := 6, ground := Go.Ground.data }], guard := none }) (v := ?vs7) rfl (by kernel_rfl) (by kernel_rfl) (by kernel_rfl) (fun _ _ _ h => h) (Or.inl ⟨by rfl, ?hys7⟩) (by assumption) ?_
        case hys7 => (intro wz hSw; (try dsimp only at hSw); go_simp; try with_reducible rfl)
        (try simp only [Act.put, List.setIfInBounds_toArray, List.set_cons_zero, List.set_cons_succ])
        refine wpAnyH_take (i := 8) (oi := { dst := some 10, op := Go.Op.assign (Go.Operand.tmp 96), type := 9, pos := _, after := #[{ on := 7, ground := Go.Ground.data }, { on := 6, ground := Go.Ground.chain }, { on := 0, ground := Go.Ground.phase }, { on := 1, ground := Go.Ground.phase }, { on := 2, ground := Go.Ground.phase }, { on := 3, ground := Go.Ground.phase }, { on := 4, ground := Go.Ground.phase }, { on := 5, ground := Go.Ground.phase }, { on := 6, ground := Go.Ground.phase }, { on := 7, ground := Go.Ground.phase }], guard := none }) (v := ?vs8) rfl (by kernel_rfl) (by kernel_rfl) (by kernel_rfl) (fun _ _ _ h => h) (Or.inl ⟨by rfl, ?hys8⟩) (by assumption) ?_
        case hys8 => (intro wz hSw; (try dsimp only at hSw); go_simp; try with_reducible rfl)
        (try simp only [Act.put, List.setIfInBounds_toArray, List.set_cons_zero, List.set_cons_succ])
        refine wpAnyH_done (by kernel_rfl) ?_ _
        go_wp2
        go_ret
        exact ⟨rfl, HBF.out⟩
      · have dv : (vk == 4) = false := beq_eq_false_iff_ne.2 g4
        have HR : Hid (rtext cells cons (f + 1) V T = markT) := Lib.hid (rt_mark cells cons f V T (by rw [← HTK.out]; decide) (by rw [← HTK.out, ← HVK.out]; exact fun e => g4 e.symm))
        clear HS
        rw [HR.out]
        go_enter Tryd.func34, Tryd.ntmps34
        go_wp2
        go_ret
        exact ⟨rfl, B2.out⟩
    have e4 : (tk == 4) = false := beq_eq_false_iff_ne.2 h4
    have HR : Hid (rtext cells cons (f + 1) V T = markT) := Lib.hid (rt_none cells cons f V T (by rw [← HTK.out]; exact h1) (by rw [← HTK.out]; exact h2) (by rw [← HTK.out]; exact h3) (by rw [← HTK.out]; exact h4) (by rw [← HTK.out]; exact h5) (by rw [← HTK.out]; exact h6) (by rw [← HTK.out]; exact h7))
    clear HS
    rw [HR.out]
    go_enter Tryd.func34, Tryd.ntmps34
    go_wp2
    go_ret
    exact ⟨rfl, B2.out⟩
end Go.Proofs.YtclilpabdcdeoaaDoor
