import Derived.Test.YtknpgmbniohcnaaCp
namespace Go.Proofs.Ytknpgmbniohcnaa
open Go.ChangeShapes Go.WideShapes Go.ChangeAt Go.RowKit
set_option linter.unusedVariables false
set_option maxRecDepth 100000 in
set_option maxHeartbeats 8000000 in
theorem collect_any {w : World} {B H o : Nat} {m : Hm} (h : HpAt w B H o m) {A : Option Addr} {c : Nat} {xs : List Int} (hx : InW w A c xs) (hxs : ∀ x ∈ xs, U64 x) (hl : xs.length ≤ 100000) :
    Calls Try.prog 16 #[.pointer (some ⟨H, o, none⟩), .slice A xs.length c] w fun e w' => ∃ O, e = .returned (.slice (some ⟨O, 0, none⟩) xs.length xs.length) ∧ Hid (HpAt w' B H o (colM m xs) ∧ Frm w w' (fun k => k = H) ∧ w'.ownsRow w.heap.size 28 1 (.slice (some ⟨O, 0, none⟩) xs.length xs.length) xs.length (wd (colR m xs)) ∧ ∀ k, HR w' H o k → k ≠ O) := by
  obtain ⟨A1, c1, A2, c2, f0, f1, f2, f3, hw, hs⟩ := h.cells
  obtain ⟨i0, hi0, hz0, hz1, hz2⟩ := info_parts info3
  obtain ⟨j0, hj0, hy0, hy1, hy2⟩ := info_parts info28
  have hlt := h.ok.lt
  have HP := Lib.hid h
  have HX := Lib.hid hx
  have HU := Lib.hid hxs
  clear h hw hs hx hxs
  obtain ⟨N, hN⟩ : ∃ N, N = m.ws.length := ⟨_, rfl⟩
  rw [← hN] at f2 f3 hlt
  have HN := Lib.hid hN
  clear hN
  obtain ⟨q, hq⟩ : ∃ q, q = xs.length := ⟨_, rfl⟩
  rw [← hq] at hl ⊢
  have HQ := Lib.hid hq
  clear hq
  go_enter Try.func16, Try.ntmps16
  go_wp2_with fail
  rename_i K hK
  refine Code.wp_mono (Q := Exit.then (fun a' w' => ∃ C M t11 t12 t13 t14 t15 t16 t17 t18 t19 t20 t21 t22 t23, a' = ⟨#[.pointer (some ⟨H, o, none⟩), .slice A q c, undef, undef, .slice none 0 0, .pointer (some ⟨C, 0, none⟩), undef, undef, undef, undef, undef, t11, t12, t13, t14, t15, t16, t17, t18, t19, t20, t21, t22, t23, undef, undef, undef, undef, undef, undef, undef, undef, undef, undef, undef, undef, undef, undef, undef, undef, undef, undef, undef, undef, undef, undef, undef, undef, undef, undef, undef, undef, undef, undef, undef, undef, undef, undef, undef, undef, undef, undef, undef, undef, undef, undef, undef, undef, undef, undef, undef, undef, undef, undef, undef, undef, undef, undef, undef, undef, undef, undef, undef, undef, undef, undef, undef, undef, undef, undef, undef, undef, undef], []⟩ ∧ Cp0 w w' H o C M m) (fun _ _ _ => False)) ?rest ?_
  case rest =>
    intro e a' W hq
    cases e
    case normal =>
      obtain ⟨C, M, t11, t12, t13, t14, t15, t16, t17, t18, t19, t20, t21, t22, t23, rfl, CP⟩ := hq
      show K _ _
      refine hK _ _ ?_
      clear hK K
      have CPH := Lib.hid CP
      have SW := Lib.hid CP.sz
      clear f0 f1 f2 f3 CP
      go_wp2_with (at_make; refine wpList_make_full _ rfl (.tmp 25) (.tmp 25) 34 rfl w.heap.size 28 j0 (.int .u64 0) 1 Try.underlying34 hj0 hy0 hy1 .i64 .i64 q q q rfl rfl rfl rfl (by rw [hy2]; omega) (by unfold maxLen; omega) ?c1 ?_)
      case c1 => have := SW.out; omega
      intro w1 own1 gr1
      have HB1 : Hid (Below W.heap.size W w1) := Lib.hid ⟨gr1.os, gr1.tape, gr1.output, gr1.size, fun i hi => gr1.block i hi (by simp)⟩
      have HR0 : Hid (R1 w w1 w1 H o B C M W.heap.size m (rootsF m (s0 m) (xs.take 0)).1 ((rootsF m (s0 m) (xs.take 0)).2 ++ List.replicate (q - 0) 0) q) := Lib.hid (by
        have sw := SW.out
        have hC : C < W.heap.size := (Array.getElem?_eq_some_iff.1 CPH.out.hC).1
        have hM : M < W.heap.size := (Array.getElem?_eq_some_iff.1 CPH.out.hM).1
        refine ⟨cp0_at HP.out CPH.out HB1.out, bt CPH.out.bel HB1.out, ⟨by omega, (own1.lt _ rfl).2, by omega, by omega⟩, ?_⟩
        have e : (madeCells #[.int .u64 0] q).toList = wd (List.replicate q 0) := by rw [toList_madeCells_one]; simp [wd]
        have own2 : w1.ownsRow w.heap.size 28 1 (.slice (some ⟨W.heap.size, 0, none⟩) q q) q (wd (List.replicate q 0)) := by rw [← e]; simpa using own1
        simpa [rootsF] using own2)
      have HG : Hid (w.heap.size ≤ C ∧ w.heap.size ≤ M ∧ w.heap.size ≤ w1.heap.size) := Lib.hid ⟨CPH.out.ge.1, CPH.out.ge.2, (bt CPH.out.bel HB1.out).size⟩
      obtain ⟨O, hO⟩ : ∃ O, O = W.heap.size := ⟨_, rfl⟩
      rw [← hO] at HR0 ⊢
      clear hO HB1 own1 gr1 CPH SW
      go_wp2
      go_loopw [29] (fun i wr => ∃ k : Nat, k ≤ q ∧ i = .int .i64 k ∧ Hid (R1 w w1 wr H o B C M O m (rootsF m (s0 m) (xs.take k)).1 ((rootsF m (s0 m) (xs.take k)).2 ++ List.replicate (q - k) 0) q)) (fun i _ => q - (intOf i).toNat)
      case atStart => exact ⟨0, by omega, rfl, HR0⟩
      case round =>
        obtain ⟨k, hk, rfl, HR⟩ := hrel
        clear HR0
        by_cases hlt2 : k < q
        · have hjx : k < xs.length := by have := HQ.out; omega
          obtain ⟨b, off, rfl, hb, hc⟩ := HX.out.at (by omega)
          have hkc : ∀ n, (wr.drewN n).cell? ⟨b, off + k, none⟩ = some (.int .u64 xs[k]) := fun n => (HR.out.bel.cell (p := ⟨b, off + k, none⟩) hb).trans (hc k hjx)
          have hkc0 : wr.cell? ⟨b, off + k, none⟩ = some (.int .u64 xs[k]) := hkc 0
          have hki : (k : Int) < (q : Int) := by omega
          have MV := Lib.hid (move_any HR.out.cp xs[k] (HU.out _ (List.getElem_mem hjx)))
          obtain ⟨x, hxk⟩ : ∃ x, x = xs[k] := ⟨_, rfl⟩
          rw [← hxk] at hkc0 MV
          have HXK := Lib.hid hxk
          clear hkc hxk hb hc
          go_wp2_with fail
          refine MV.out.mono ?_; rintro e w2 ⟨rfl, hcm, hfm⟩
          have HR2 := Lib.hid (HR.out.move HG.out.1 HG.out.2.1 hcm.out hfm.out)
          have ofr : w2.frozen? ⟨O, k, none⟩ = false := HR2.out.own.frozenAt k
          obtain ⟨y, ocl⟩ : ∃ y, w2.cell? ⟨O, k, none⟩ = some y := by
            have hl2 := HR2.out.own.1
            exact ⟨_, (HR2.out.own.cellAt k (by omega)).trans (List.getElem?_eq_getElem (by omega))⟩
          obtain ⟨v, hv⟩ : ∃ v, v = moveV m (rootsF m (s0 m) (xs.take k)).1 x := ⟨_, rfl⟩
          rw [← hv]
          have HV := Lib.hid hv
          clear hv hcm hfm MV hkc0 HR
          go_wp2
          go_roundw
          case rel =>
            refine ⟨k + 1, by omega, by go_num, Lib.hid ?_⟩
            have z := HR2.out.store (k := k) (fun j hj => HR_lt HP.out HR2.out.bel hj) v
            rw [roots_take hjx]
            have hl2 := roots_len m (s0 m) (xs.take k)
            rw [List.length_take_of_le (by omega)] at hl2
            rw [set_mid hl2 (by omega)] at z
            rw [← HXK.out]
            simp only [rootStep]
            rw [← HV.out]
            exact z
          case measure => simp [intOf]; omega
        · obtain rfl : k = q := by omega
          have HR3 : Hid (R1 w w1 wr H o B C M O m (rootsF m (s0 m) xs).1 (colR m xs) k) := Lib.hid (by
            have z := HR.out
            rw [Nat.sub_self, List.replicate_zero, List.append_nil, List.take_of_length_le (by have := HQ.out; omega)] at z
            exact z)
          clear HR HX hlt2
          go_wp2
          go_loopw [9] (fun i wr => ∃ (j : Nat) (s : CS), i = .int .i64 j ∧ j ≤ N ∧ Hid (R1 w w1 wr H o B C M O m s (colR m xs) k) ∧ Hid (scanF m (m.ws.length - j) j s = colS m xs)) (fun i _ => N - (intOf i).toNat)
          case atStart => exact ⟨0, _, rfl, by omega, HR3, Lib.hid rfl⟩
          case round =>
            obtain ⟨i, s, rfl, hi, HR, HS⟩ := hrel
            clear HR3
            obtain ⟨A1, c1, A2, c2, f0, f1, f2x, f3x, hw, hs⟩ := HR.out.cp.to.cells
            have f2 : wr.cell? ⟨C, 3, none⟩ = some (.slice A1 s.T.ws.length c1) := f2x
            have f3 : wr.cell? ⟨C, 4, none⟩ = some (.slice A2 s.T.ws.length c2) := f3x
            have hle := scan_len HP.out.ok HR.out.cp.inv
            obtain ⟨L, hL⟩ : ∃ L, L = s.T.ws.length := ⟨_, rfl⟩
            rw [← hL] at f2 f3 hle
            have HL := Lib.hid hL
            clear f0 f1 f2x f3x hL
            have hLN : L ≤ N := by have := HN.out; omega
            clear hle
            by_cases hiL : i < L
            · have hiL2 : i < s.T.ws.length := by have := HL.out; omega
              have hiLi : (i : Int) < (L : Int) := by omega
              obtain ⟨g2, rfl, hst⟩ := hs i hiL2
              obtain ⟨g1, rfl, hwi⟩ := hw i hiL2
              have HSS := Lib.hid (scanF_step (F := m) hiL2 (scan_len HP.out.ok HR.out.cp.inv))
              have hi2 : i < s.T.st.length := by rw [HR.out.cp.to.ok.len]; exact hiL2
              have hgd : s.T.st.getD i false = s.T.st[i] := by simp [List.getD, List.getElem?_eq_getElem hi2]
              obtain ⟨bst, hb⟩ : ∃ b, b = s.T.st[i] := ⟨_, rfl⟩
              rw [← hb] at hst hgd
              clear hb hw hs
              cases bst
              · have HGD := Lib.hid hgd
                have MV := Lib.hid (move_any HR.out.cp s.T.ws[i] (HR.out.cp.to.ok.wf _ (List.getElem_mem hiL2)))
                obtain ⟨x, hx⟩ : ∃ x, x = s.T.ws[i] := ⟨_, rfl⟩
                rw [← hx] at hwi MV
                have HX := Lib.hid hx
                clear hgd hx
                go_wp2_with fail
                refine MV.out.mono ?_; rintro e w2 ⟨rfl, hcm, hfm⟩
                have HR2 := Lib.hid (HR.out.move HG.out.1 HG.out.2.1 hcm.out hfm.out)
                have MS := Lib.hid (moveS_st (F := m) x HR.out.cp.to.ok.len hiL2)
                obtain ⟨B1, d1, B2, d2, p0, p1, p2x, p3x, hw, hs⟩ := HR2.out.cp.to.cells
                have p2 : w2.cell? ⟨C, 3, none⟩ = some (.slice B1 (moveS m s x).T.ws.length d1) := p2x
                obtain ⟨L2, hL2⟩ : ∃ L2, L2 = (moveS m s x).T.ws.length := ⟨_, rfl⟩
                have hiL3 : i < (moveS m s x).T.ws.length := by have := MS.out.2.2; omega
                obtain ⟨g3, rfl, hc3⟩ := hw i hiL3
                have fr3 : w2.frozen? ⟨g3, i, none⟩ = false := World.frozen?_of_HpAt HR2.out.cp.to p2x i
                obtain ⟨y, hc4⟩ : ∃ y, w2.cell? ⟨g3, i, none⟩ = some y := ⟨_, hc3⟩
                rw [← hL2] at p2 hiL3
                have hiL4 : (i : Int) < (L2 : Int) := by omega
                have P2X := Lib.hid p2x
                obtain ⟨v, hv⟩ : ∃ v, v = moveV m s x := ⟨_, rfl⟩
                rw [← hv]
                have HV := Lib.hid hv
                clear hv hcm hfm MV hst hwi f2 f3 hw hs p0 p1 p2x p3x hL2 hc3
                go_wp2
                go_roundw
                case rel =>
                  have hv : U64 v := by rw [HV.out]; exact moveV_u64 HR.out.cp.inv (by rw [HX.out]; exact HR.out.cp.to.ok.wf _ (List.getElem_mem hiL2))
                  refine ⟨i + 1, scanS m s i, by go_num, by omega, Lib.hid ?_, Lib.hid (HSS.out.symm.trans HS.out)⟩
                  have e : s.T.ws.getD i 0 = x := by rw [HX.out, getD_at hiL2]
                  have e2 : scanS m s i = ⟨(moveS m s x).T.setW i v, (moveS m s x).mv⟩ := by unfold scanS; rw [HGD.out, e, HV.out]; rfl
                  rw [e2]
                  exact HR2.out.setW P2X.out hv (by rw [MS.out.1]; exact HGD.out) HG.out.1 HG.out.2.1 (by have h1 := cinv_scan HP.out.ok HR.out.cp.inv hiL2; rw [e2] at h1; exact h1)
                case measure => simp [intOf]; omega
              · have e2 : scanS m s i = s := by unfold scanS; rw [if_pos hgd]
                have HE2 := Lib.hid e2
                clear e2 hgd
                go_wp2
                go_roundw
                case rel =>
                  refine ⟨i + 1, s, by go_num, by omega, HR, Lib.hid ?_⟩
                  have z := HSS.out
                  rw [HE2.out] at z
                  exact z.symm.trans HS.out
                case measure => simp [intOf]; omega
            · have hiLi : ¬ (i : Int) < (L : Int) := by omega
              have hfin : s = colS m xs := (scanF_done (by have := HL.out; omega)).symm.trans HS.out
              obtain ⟨D1, e1, D2, e2, r0, r1, r2, r3, hw2, hs2⟩ := HR.out.cp.fr.cells
              have fz : ∀ j, wr.frozen? ⟨H, j, none⟩ = false := fun j => by
                obtain ⟨cc, T, A1', c1', A2', c2', t1, t2, t3, d1, _⟩ := HR.out.cp.fr.at_
                simp [World.frozen?, d1]
              have fz1 := fz (o + 1); have fz2 := fz (o + 2); have fz3 := fz (o + 3)
              have hne : ¬ C = H := fun e => HR.out.cp.sep H (.inl rfl) |>.2.1 e.symm
              have hne2 : ¬ H = C := fun e => hne e.symm
              have ht0 := HP.out.ok.t0
              have ht1 := HP.out.ok.t1
              have OKM := Lib.hid (colM_ok HP.out.ok HU.out)
              have hS := Lib.hid hfin
              clear fz hw hs hw2 hs2 hfin
              by_cases ht : m.turns < 9223372036854775807
              · have dt := decide_eq_true ht
                have hwr : IntKind.i64.wrap (m.turns + 1) = m.turns + 1 := IntWalk.i64_in _ (by omega)
                have HT : Hid (colT m.turns = m.turns + 1) := Lib.hid (if_pos ht)
                go_wp2
                go_ret
                refine ⟨O, rfl, Lib.hid ?_⟩
                have z := OKM.out
                unfold colM at z ⊢
                rw [HT.out] at z ⊢
                rw [← hS.out] at z ⊢
                exact fin_at HP.out HG.out.2.2 HR.out f2 f3 z rfl rfl rfl rfl
              · have dt := decide_eq_false ht
                have HT : Hid (colT m.turns = m.turns) := Lib.hid (if_neg ht)
                go_wp2
                go_ret
                refine ⟨O, rfl, Lib.hid ?_⟩
                have z := OKM.out
                unfold colM at z ⊢
                rw [HT.out] at z ⊢
                rw [← hS.out] at z ⊢
                exact fin_at0 HP.out HG.out.2.2 HR.out f2 f3 z rfl rfl rfl rfl
    all_goals exact hq.elim
  refine wp_region_held_drew (S := fun w' => w'.cell? ⟨H, o, none⟩ = some (.int .i64 m.room) ∧ w'.cell? ⟨H, o + 2, none⟩ = some (.slice A1 N c1)) (by kernel_rfl) ?_ (fun hHeld => ?_)
  · (try dsimp only); go_keep
  refine wpAnyH_take (i := 0) (oi := { dst := some 11, op := Go.Op.move (Go.Operand.tmp 0), type := 23, pos := _, after := #[], guard := none }) (v := ?vp0) rfl (by kernel_rfl) (by kernel_rfl) (by kernel_rfl) (fun _ _ _ h => h) (Or.inl ⟨by rfl, ?hyp0⟩) (by assumption) ?_
  case hyp0 => (intro wz hSw; (try dsimp only at hSw); go_simp; try with_reducible rfl)
  (try simp only [Act.put, List.setIfInBounds_toArray, List.set_cons_zero, List.set_cons_succ])
  refine wpAnyH_take (i := 1) (oi := { dst := some 12, op := Go.Op.move (Go.Operand.tmp 0), type := 23, pos := _, after := #[], guard := none }) (v := ?vp1) rfl (by kernel_rfl) (by kernel_rfl) (by kernel_rfl) (fun _ _ _ h => h) (Or.inl ⟨by rfl, ?hyp1⟩) (by assumption) ?_
  case hyp1 => (intro wz hSw; (try dsimp only at hSw); go_simp; try with_reducible rfl)
  (try simp only [Act.put, List.setIfInBounds_toArray, List.set_cons_zero, List.set_cons_succ])
  refine wpAnyH_take (i := 2) (oi := { dst := some 13, op := Go.Op.nilCheck (Go.Operand.tmp 12), type := 0, pos := _, after := #[{ on := 1, ground := Go.Ground.data }], guard := none }) (v := ?vp2) rfl (by kernel_rfl) (by kernel_rfl) (by kernel_rfl) (fun _ _ _ h => h) (Or.inl ⟨by rfl, ?hyp2⟩) (by assumption) ?_
  case hyp2 => (intro wz hSw; (try dsimp only at hSw); go_simp; try with_reducible rfl)
  (try simp only [Act.put, List.setIfInBounds_toArray, List.set_cons_zero, List.set_cons_succ])
  refine wpAnyH_take (i := 3) (oi := { dst := some 14, op := Go.Op.fieldAddr 70 (Go.Operand.tmp 13) 0, type := 0, pos := _, after := #[{ on := 2, ground := Go.Ground.data }], guard := none }) (v := ?vp3) rfl (by kernel_rfl) (by kernel_rfl) (by kernel_rfl) (fun _ _ _ h => h) (Or.inl ⟨by rfl, ?hyp3⟩) (by assumption) ?_
  case hyp3 => (intro wz hSw; (try dsimp only at hSw); go_simp; try with_reducible rfl)
  (try simp only [Act.put, List.setIfInBounds_toArray, List.set_cons_zero, List.set_cons_succ])
  refine wpAnyH_take (i := 4) (oi := { dst := some 15, op := Go.Op.load 3 (Go.Operand.tmp 14), type := 3, pos := _, after := #[{ on := 3, ground := Go.Ground.data }], guard := none }) (v := ?vp4) rfl (by kernel_rfl) (by kernel_rfl) (by kernel_rfl) (fun _ _ _ h => h) (Or.inl ⟨by rfl, ?hyp4⟩) (by assumption) ?_
  case hyp4 => (intro wz hSw; (try dsimp only at hSw); go_simp; try with_reducible rfl)
  (try simp only [Act.put, List.setIfInBounds_toArray, List.set_cons_zero, List.set_cons_succ])
  refine wpAnyH_take (i := 5) (oi := { dst := some 16, op := Go.Op.build 70 #[(0, Go.Operand.tmp 15)], type := 70, pos := _, after := #[{ on := 4, ground := Go.Ground.data }], guard := none }) (v := ?vp5) rfl (by kernel_rfl) (by kernel_rfl) (by kernel_rfl) (fun _ _ _ h => h) (Or.inl ⟨by rfl, ?hyp5⟩) (by assumption) ?_
  case hyp5 => (intro wz hSw; (try dsimp only at hSw); go_simp; try with_reducible rfl)
  (try simp only [Act.put, List.setIfInBounds_toArray, List.set_cons_zero, List.set_cons_succ])
  refine wpAnyH_take (i := 6) (oi := { dst := some 17, op := Go.Op.move (Go.Operand.tmp 0), type := 23, pos := _, after := #[], guard := none }) (v := ?vp6) rfl (by kernel_rfl) (by kernel_rfl) (by kernel_rfl) (fun _ _ _ h => h) (Or.inl ⟨by rfl, ?hyp6⟩) (by assumption) ?_
  case hyp6 => (intro wz hSw; (try dsimp only at hSw); go_simp; try with_reducible rfl)
  (try simp only [Act.put, List.setIfInBounds_toArray, List.set_cons_zero, List.set_cons_succ])
  refine wpAnyH_take (i := 7) (oi := { dst := some 18, op := Go.Op.nilCheck (Go.Operand.tmp 17), type := 0, pos := _, after := #[{ on := 6, ground := Go.Ground.data }], guard := none }) (v := ?vp7) rfl (by kernel_rfl) (by kernel_rfl) (by kernel_rfl) (fun _ _ _ h => h) (Or.inl ⟨by rfl, ?hyp7⟩) (by assumption) ?_
  case hyp7 => (intro wz hSw; (try dsimp only at hSw); go_simp; try with_reducible rfl)
  (try simp only [Act.put, List.setIfInBounds_toArray, List.set_cons_zero, List.set_cons_succ])
  refine wpAnyH_take (i := 8) (oi := { dst := some 19, op := Go.Op.fieldAddr 70 (Go.Operand.tmp 18) 2, type := 0, pos := _, after := #[{ on := 7, ground := Go.Ground.data }], guard := none }) (v := ?vp8) rfl (by kernel_rfl) (by kernel_rfl) (by kernel_rfl) (fun _ _ _ h => h) (Or.inl ⟨by rfl, ?hyp8⟩) (by assumption) ?_
  case hyp8 => (intro wz hSw; (try dsimp only at hSw); go_simp; try with_reducible rfl)
  (try simp only [Act.put, List.setIfInBounds_toArray, List.set_cons_zero, List.set_cons_succ])
  refine wpAnyH_take (i := 9) (oi := { dst := some 20, op := Go.Op.load 34 (Go.Operand.tmp 19), type := 34, pos := _, after := #[{ on := 8, ground := Go.Ground.data }], guard := none }) (v := ?vp9) rfl (by kernel_rfl) (by kernel_rfl) (by kernel_rfl) (fun _ _ _ h => h) (Or.inl ⟨by rfl, ?hyp9⟩) (by assumption) ?_
  case hyp9 => (intro wz hSw; (try dsimp only at hSw); go_simp; try with_reducible rfl)
  (try simp only [Act.put, List.setIfInBounds_toArray, List.set_cons_zero, List.set_cons_succ])
  refine wpAnyH_take (i := 10) (oi := { dst := some 21, op := Go.Op.call { callee := Go.Callee.builtin Go.Builtin.len, args := #[Go.Operand.tmp 20], argTypes := #[34] }, type := 3, pos := _, after := #[{ on := 9, ground := Go.Ground.data }], guard := none }) (v := ?vp10) rfl (by kernel_rfl) (by kernel_rfl) (by kernel_rfl) (fun _ _ _ h => h) (Or.inl ⟨by rfl, ?hyp10⟩) (by assumption) ?_
  case hyp10 => (intro wz hSw; (try dsimp only at hSw); go_simp; try with_reducible rfl)
  (try simp only [Act.put, List.setIfInBounds_toArray, List.set_cons_zero, List.set_cons_succ])
  refine wpAnyH_ready (rs := [11, 13]) (by kernel_rfl) (by simp) ?_
  refine AllReadyH.cons (o := { dst := some 22, op := Go.Op.makeSlice 77 (Go.Operand.tmp 21) (Go.Operand.tmp 21), type := 77, pos := _, after := #[{ on := 10, ground := Go.Ground.data }, { on := 10, ground := Go.Ground.data }], guard := none }) rfl (fun K hK => ?_) ?_
  · rw [if_pos (by rfl)]
    refine wp_make_any (.tmp 21) (.tmp 21) 77 rfl 3 i0 (.int .i64 0) Try.underlying77 hi0 hz0 N rfl rfl (by rw [hz2]; omega) (by unfold maxLen; omega) ?_
    refine hK.out _ _ ?_ (fun hHeld => ?_)
    · (try dsimp only); go_keep
    clear hK K
    (try simp only [Act.put, List.setIfInBounds_toArray, List.set_cons_zero, List.set_cons_succ])
    refine wpAnyH_take (i := 12) (oi := { dst := some 23, op := Go.Op.build 79 #[(0, Go.Operand.tmp 11), (1, Go.Operand.tmp 16), (2, Go.Operand.tmp 22)], type := 79, pos := _, after := #[{ on := 0, ground := Go.Ground.data }, { on := 5, ground := Go.Ground.data }, { on := 11, ground := Go.Ground.data }], guard := none }) (v := ?va12) rfl (by kernel_rfl) (by kernel_rfl) (by kernel_rfl) (fun _ _ _ h => h) (Or.inl ⟨by rfl, ?hya12⟩) (by assumption) ?_
    case hya12 => (intro wz hSw; (try dsimp only at hSw); go_simp; try with_reducible rfl)
    (try simp only [Act.put, List.setIfInBounds_toArray, List.set_cons_zero, List.set_cons_succ])
    refine wpAnyH_ready (rs := [13]) (by kernel_rfl) (by simp) ?_
    refine AllReadyH.cons (o := { dst := some 5, op := Go.Op.alloc 79, type := 0, pos := _, after := #[], guard := none }) rfl (fun K hK => ?_) AllReadyH.nil
    go_simp
    refine hK.out _ _ ?_ (fun hHeld => ?_)
    · (try dsimp only); go_keep
    clear hK K
    (try simp only [Act.put, List.setIfInBounds_toArray, List.set_cons_zero, List.set_cons_succ])
    refine wpAnyH_ready (rs := [14]) (by kernel_rfl) (by simp) ?_
    refine AllReadyH.cons (o := { dst := none, op := Go.Op.store 79 (Go.Operand.tmp 5) (Go.Operand.tmp 23), type := 0, pos := _, after := #[{ on := 13, ground := Go.Ground.data }, { on := 12, ground := Go.Ground.data }, { on := 0, ground := Go.Ground.phase }, { on := 1, ground := Go.Ground.phase }, { on := 2, ground := Go.Ground.phase }, { on := 3, ground := Go.Ground.phase }, { on := 4, ground := Go.Ground.phase }, { on := 5, ground := Go.Ground.phase }, { on := 6, ground := Go.Ground.phase }, { on := 7, ground := Go.Ground.phase }, { on := 8, ground := Go.Ground.phase }, { on := 9, ground := Go.Ground.phase }, { on := 10, ground := Go.Ground.phase }, { on := 11, ground := Go.Ground.phase }, { on := 12, ground := Go.Ground.phase }, { on := 13, ground := Go.Ground.phase }], guard := none }) rfl (fun K hK => ?_) AllReadyH.nil
    go_simp
    refine hK.out _ _ ?_ (fun hHeld => ?_)
    · (try dsimp only); go_keep
    clear hK K
    (try simp only [Act.put, List.setIfInBounds_toArray, List.set_cons_zero, List.set_cons_succ])
    refine wpAnyH_done (by kernel_rfl) ?_ _
    have e := HN.out
    subst e
    exact ⟨_, _, _, _, _, _, _, _, _, _, _, _, _, _, _, rfl, cp0_A HP.out _ rfl⟩
  refine AllReadyH.cons (o := { dst := some 5, op := Go.Op.alloc 79, type := 0, pos := _, after := #[], guard := none }) rfl (fun K hK => ?_) AllReadyH.nil
  go_simp
  refine hK.out _ _ ?_ (fun hHeld => ?_)
  · (try dsimp only); go_keep
  clear hK K
  (try simp only [Act.put, List.setIfInBounds_toArray, List.set_cons_zero, List.set_cons_succ])
  refine wpAnyH_ready (rs := [11]) (by kernel_rfl) (by simp) ?_
  refine AllReadyH.cons (o := { dst := some 22, op := Go.Op.makeSlice 77 (Go.Operand.tmp 21) (Go.Operand.tmp 21), type := 77, pos := _, after := #[{ on := 10, ground := Go.Ground.data }, { on := 10, ground := Go.Ground.data }], guard := none }) rfl (fun K hK => ?_) AllReadyH.nil
  rw [if_pos (by rfl)]
  refine wp_make_any (.tmp 21) (.tmp 21) 77 rfl 3 i0 (.int .i64 0) Try.underlying77 hi0 hz0 N rfl rfl (by rw [hz2]; omega) (by unfold maxLen; omega) ?_
  refine hK.out _ _ ?_ (fun hHeld => ?_)
  · (try dsimp only); go_keep
  clear hK K
  (try simp only [Act.put, List.setIfInBounds_toArray, List.set_cons_zero, List.set_cons_succ])
  refine wpAnyH_take (i := 12) (oi := { dst := some 23, op := Go.Op.build 79 #[(0, Go.Operand.tmp 11), (1, Go.Operand.tmp 16), (2, Go.Operand.tmp 22)], type := 79, pos := _, after := #[{ on := 0, ground := Go.Ground.data }, { on := 5, ground := Go.Ground.data }, { on := 11, ground := Go.Ground.data }], guard := none }) (v := ?vb12) rfl (by kernel_rfl) (by kernel_rfl) (by kernel_rfl) (fun _ _ _ h => h) (Or.inl ⟨by rfl, ?hyb12⟩) (by assumption) ?_
  case hyb12 => (intro wz hSw; (try dsimp only at hSw); go_simp; try with_reducible rfl)
  (try simp only [Act.put, List.setIfInBounds_toArray, List.set_cons_zero, List.set_cons_succ])
  refine wpAnyH_ready (rs := [14]) (by kernel_rfl) (by simp) ?_
  refine AllReadyH.cons (o := { dst := none, op := Go.Op.store 79 (Go.Operand.tmp 5) (Go.Operand.tmp 23), type := 0, pos := _, after := #[{ on := 13, ground := Go.Ground.data }, { on := 12, ground := Go.Ground.data }, { on := 0, ground := Go.Ground.phase }, { on := 1, ground := Go.Ground.phase }, { on := 2, ground := Go.Ground.phase }, { on := 3, ground := Go.Ground.phase }, { on := 4, ground := Go.Ground.phase }, { on := 5, ground := Go.Ground.phase }, { on := 6, ground := Go.Ground.phase }, { on := 7, ground := Go.Ground.phase }, { on := 8, ground := Go.Ground.phase }, { on := 9, ground := Go.Ground.phase }, { on := 10, ground := Go.Ground.phase }, { on := 11, ground := Go.Ground.phase }, { on := 12, ground := Go.Ground.phase }, { on := 13, ground := Go.Ground.phase }], guard := none }) rfl (fun K hK => ?_) AllReadyH.nil
  go_simp
  refine hK.out _ _ ?_ (fun hHeld => ?_)
  · (try dsimp only); go_keep
  clear hK K
  (try simp only [Act.put, List.setIfInBounds_toArray, List.set_cons_zero, List.set_cons_succ])
  refine wpAnyH_done (by kernel_rfl) ?_ _
  have e := HN.out
  subst e
  exact ⟨_, _, _, _, _, _, _, _, _, _, _, _, _, _, _, rfl, cp0_B HP.out _ rfl⟩
end Go.Proofs.Ytknpgmbniohcnaa
