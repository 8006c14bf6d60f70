import Derived.Test.YtifopogkbjhkjaaGreatDoorWi
namespace Go.Proofs.YtifopogkbjhkjaaGreatDoor
open DR
open Go.ChangeShapes Go.WideShapes Go.ChangeAt Go.RowKit Go.WideMaps
set_option linter.unusedVariables false
set_option linter.unusedSimpArgs false
variable {nx : Int}
theorem field_r (x0 x1 x2 x3 : Value) (w : World) : Sem.run Tryz.prog (Instr.field 36 (.agg #[x0, x1, x2, x3]) 0) w = .ok x0 w ∧ Sem.run Tryz.prog (Instr.field 36 (.agg #[x0, x1, x2, x3]) 2) w = .ok x2 w := by
  refine ⟨?_, ?_⟩ <;> simp [Instr.field, run_underlying Tryz.underlying36, asAgg, part, isAgg, run_underlying Tryz.underlying3]
open Classical in
noncomputable def heldV (R : List TT) (all : List Int) (l : List Int) (x : Int) : List Int := if x ∈ all ∧ (resF R (varT x)).k = 7 ∧ (resF R (varT x)).vr = x then l else varsT (apvF R (varT x)) l
noncomputable def heldS (R : List TT) (all vs l : List Int) : List Int := vs.foldl (heldV R all) l
noncomputable def heldE (R : List TT) (E : List (List Int × TT)) : List Int := E.foldl (fun l e => heldS R e.1 (varsOf e.2) l) []
theorem heldS_take {R : List TT} {all vs l : List Int} {k : Nat} (h : k < vs.length) : heldS R all (vs.take (k + 1)) l = heldV R all (heldS R all (vs.take k) l) vs[k] := by
  unfold heldS; rw [List.take_succ_eq_append_getElem h, List.foldl_append]; rfl
theorem heldE_take {R : List TT} {E : List (List Int × TT)} {k : Nat} (h : k < E.length) : heldE R (E.take (k + 1)) = heldS R E[k].1 (varsOf E[k].2) (heldE R (E.take k)) := by
  unfold heldE; rw [List.take_succ_eq_append_getElem h, List.foldl_append]; rfl
theorem heldV_len {R : List TT} (h : SInv2 R) (all l : List Int) {x : Int} (h0 : 0 ≤ x) (h1 : x ≤ 1999) : (heldV R all l x).length ≤ l.length + 500 := by
  unfold heldV
  split
  · omega
  · have hv := var_nodes h h0 h1
    have hl := varsT_len (apvF R (varT x)) l
    omega
set_option maxRecDepth 100000 in
set_option maxHeartbeats 16000000 in
theorem held_any {E : List (List Int × TT)} {Ae : Option Addr} {ce rb : Nat} {P : Nat → Prop} {R : List TT} {w : World} (he : SRow w Ae E) (hE : ∀ x ∈ E, bigT 7 x.2 = false ∧ x.1.length ≤ 10 ∧ shp x.2 = true) (hl6 : E.length ≤ 6) (hst : SInv2 R) (hS : RSub nx w P rb R) :
    Calls Tryz.prog 37 #[.pointer (some ⟨rb, 0, none⟩), .slice Ae E.length ce] w (RvPost w (heldE R E)) := by
  obtain ⟨rk, hrk⟩ := hst.inv.ok
  have HRK := Lib.hid hrk
  have HST := Lib.hid hst
  have HS := Lib.hid hS
  have HE := Lib.hid he
  have HEE := Lib.hid hE
  obtain ⟨NE, hNE⟩ : ∃ N, N = E.length := ⟨_, rfl⟩
  have HNE := Lib.hid hNE
  rw [← hNE] at hl6 ⊢
  clear hrk hst hS he hE hNE
  go_enter Tryz.func37, Tryz.ntmps37
  go_wp2
  go_loopw [5, 6] (fun lv i wr => ∃ (k0 m : Nat) (Al : Option Addr) (cl : Nat), lv = .slice Al m cl ∧ k0 ≤ NE ∧ i = .int .i64 k0 ∧ m = (heldE R (E.take k0)).length ∧ m ≤ 50000 * k0 ∧ Hid (IRow wr Al (heldE R (E.take k0))) ∧ Hid (Al = none → m = 0 ∧ cl = 0) ∧ Hid (Below w.heap.size w wr)) (fun _ i _ => NE - (intOf i).toNat)
  case atStart => exact ⟨0, 0, none, 0, rfl, by omega, by first | rfl | trivial, rfl, by omega, Lib.hid (.inl rfl), Lib.hid (fun _ => ⟨rfl, rfl⟩), Lib.hid (Below.refl _ _)⟩
  case round =>
    obtain ⟨k0, m0, Al, cl, rfl, hk0, rfl, hm0, hb0, HI0, HN0, HW0⟩ := hrel
    have HM0 := Lib.hid hm0
    clear hm0
    by_cases hlt0 : k0 < NE
    · have hlti0 : (k0 : Int) < (NE : Int) := by omega
      have hlt0' : k0 < E.length := by rw [← HNE.out]; exact hlt0
      obtain ⟨be, oe, rfl, hbe, hre⟩ := (HE.out.later HW0.out).resolve_left (by rw [← HNE.out]; omega)
      obtain ⟨Aa, ca, At, ct, z0, z1, z2, z3, z4, ira, tra⟩ := hre k0 hlt0'
      have HTE := Lib.hid (heldE_take (R := R) hlt0')
      obtain ⟨he1, he2, he3⟩ := HEE.out _ (List.getElem_mem hlt0')
      have hvr := vars_in (E[k0]'hlt0').2 [] he3 (fun _ h => by cases h)
      have hvf := vars_few 6 (E[k0]'hlt0').2 [] he1 he3
      obtain ⟨X, hX⟩ : ∃ X, (E[k0]'hlt0').2 = X := ⟨_, rfl⟩
      obtain ⟨Y, hY⟩ : ∃ Y, (E[k0]'hlt0').1 = Y := ⟨_, rfl⟩
      rw [hX] at z1 z2 z3 z4 tra HTE he1 he3 hvr hvf
      rw [hY] at z0 ira HTE he2
      have CV := Lib.hid (rVars_any (v := tv X At ct) (w := wr) he1 he3 ⟨At, ct, rfl, tra⟩)
      obtain ⟨vs, hvs⟩ : ∃ vs, varsOf X = vs := ⟨_, rfl⟩
      rw [hvs] at CV HTE
      have HRG := Lib.hid (show ∀ x ∈ vs, 0 ≤ x ∧ x ≤ 1999 by rw [← hvs]; exact hvr)
      have hvl : vs.length ≤ 99 := by rw [← hvs]; unfold varsOf; simp at hvf; omega
      have HBE := Lib.hid hbe
      have CA1 := Lib.hid z0
      have IRA := Lib.hid ira
      have HYL := Lib.hid he2
      unfold tv at CV
      clear hre hX hY hvs hvr hvf he1 he2 he3 tra ira hbe hlt0'
      go_wp2_with fail
      refine CV.out.mono ?_; rintro e w3 ⟨A2, c2, rfl, ir2, -, b3⟩
      have B3 := Lib.hid b3
      have IR2 := Lib.hid ir2
      obtain ⟨l0, hl0⟩ : ∃ l, heldE R (E.take k0) = l := ⟨_, rfl⟩
      rw [hl0] at HI0 HTE HM0
      have I03 := Lib.hid (HI0.out.later b3)
      obtain ⟨N, hN⟩ : ∃ N, vs.length = N := ⟨_, rfl⟩
      have HN := Lib.hid hN
      rw [hN] at hvl ⊢
      clear b3 ir2 CV z0 z1 z2 z3 z4 hl0 hN
      go_wp2
      go_loopw [5, 8] (fun lv i wq => ∃ (k m : Nat) (Al : Option Addr) (cl : Nat), lv = .slice Al m cl ∧ k ≤ N ∧ i = .int .i64 k ∧ m = (heldS R Y (vs.take k) l0).length ∧ m ≤ m0 + 500 * k ∧ Hid (IRow wq Al (heldS R Y (vs.take k) l0)) ∧ Hid (Al = none → m = 0 ∧ cl = 0) ∧ Hid (Below w3.heap.size w3 wq)) (fun _ i _ => N - (intOf i).toNat)
      case atStart => exact ⟨0, m0, Al, cl, rfl, by omega, by first | rfl | trivial, HM0.out, by omega, I03, HN0, Lib.hid (Below.refl _ _)⟩
      case round =>
        obtain ⟨k, m, Al1, cl1, rfl, hk, rfl, hm, hb, HI, HN1, HW⟩ := hrel
        have HM := Lib.hid hm
        clear hm
        by_cases hlt : k < N
        · have hlti : (k : Int) < (N : Int) := by omega
          have hlt' : k < vs.length := by rw [HN.out]; exact hlt
          obtain ⟨b2, o2, rfl, hb2, hr2⟩ : ∃ b o, A2 = some ⟨b, o, none⟩ ∧ b < wr.heap.size ∧ ∀ j (h : j < vs.length), wr.cell? ⟨b, o + j, none⟩ = some (.int .i64 vs[j]) := (IR2.out.later HW.out).resolve_left (by rw [HN.out]; omega)
          have x0 := hr2 k hlt'
          have hrange := HRG.out _ (List.getElem_mem hlt')
          have HTK := Lib.hid (heldS_take (R := R) (all := Y) (l := l0) hlt')
          obtain ⟨x, hx⟩ : ∃ x, vs[k]'hlt' = x := ⟨_, rfl⟩
          rw [hx] at x0
          rw [hx] at hrange HTK
          have hshx : shp (varT x) = true := by
            obtain ⟨mx, hmx⟩ : ∃ mx : Nat, x = mx := ⟨x.toNat, by omega⟩
            rw [hmx]; exact shp_v (by omega)
          obtain ⟨hTs, hTn, hTb, -⟩ := var_nodes HST.out hrange.1 hrange.2
          have hHs := res_shp HRK.out (resF_res HRK.out (varT x)) hshx
          obtain ⟨wx, hwx⟩ : ∃ z, z = wr.alloc (.cells #[.int .i64 7, .string ⟨#[]⟩, .int .i64 x, .slice none 0 0] 36) := ⟨_, rfl⟩
          have BX := Lib.hid (show Below wr.heap.size wr wx by rw [hwx]; exact below_alloc _ _)
          have XX := Lib.hid (show wx.heap[wr.heap.size]? = some (.cells #[.int .i64 7, .string ⟨#[]⟩, .int .i64 x, .slice none 0 0] 36 (0, 0)) by rw [hwx]; exact heap_alloc_new wr _)
          have ZX := Lib.hid (show wr.heap.size < wx.heap.size by rw [hwx]; simp)
          have HWX := Lib.hid hwx
          have CX := Lib.hid (fun W (hW : Below wx.heap.size wx W) => cells4 ((hW.block wr.heap.size ZX.out).trans XX.out))
          have BWX := Lib.hid (show Below w.heap.size w wx from bt HW0.out (bt B3.out (bt HW.out BX.out)))
          have X0 := Lib.hid x0
          have HB2 := Lib.hid hb2
          have CV0 := Lib.hid (fun W (hW : Below wx.heap.size wx W) => ((bt BX.out hW).cell (p := ⟨b2, o2 + k, none⟩) HB2.out).trans X0.out)
          have CA0 := Lib.hid (fun W (hW : Below wx.heap.size wx W) => ((bt B3.out (bt HW.out (bt BX.out hW))).cell (p := ⟨be, oe + k0 * 5, none⟩) HBE.out).trans CA1.out)
          have CH := Lib.hid (fun W (hW : Below wx.heap.size wx W) => rhas_any (l := Y) (A := Aa) (c := ca) x (by have := HYL.out; omega) (IRA.out.later (bt B3.out (bt HW.out (bt BX.out hW)))))
          have HD := Lib.hid (fun W (hW : Below wx.heap.size wx W) => head_ok HRK.out (P := P) (V := varT x) (A := none) (c := 0) hshx (.inl rfl) (HS.out.later (bt BWX.out hW)))
          have ALL := Lib.hid (fun W (hW : Below w.heap.size w W) => rall_ok HRK.out (varT x) hshx (tv (varT x) none 0) W ⟨none, 0, rfl, .inl rfl⟩ (HS.out.later hW))
          have HVD := Lib.hid (show heldV R Y (heldS R Y (vs.take k) l0) x = if x ∈ Y ∧ (resF R (varT x)).k = 7 ∧ (resF R (varT x)).vr = x then heldS R Y (vs.take k) l0 else varsT (apvF R (varT x)) (heldS R Y (vs.take k) l0) from rfl)
          obtain ⟨T, hT⟩ : ∃ T, apvF R (varT x) = T := ⟨_, rfl⟩
          obtain ⟨HH, hHH⟩ : ∃ H, resF R (varT x) = H := ⟨_, rfl⟩
          obtain ⟨L, hL⟩ : ∃ L, heldS R Y (vs.take k) l0 = L := ⟨_, rfl⟩
          rw [hT] at ALL HVD hTs hTn hTb
          rw [hHH] at HD HVD hHs
          rw [hL] at HVD HI HM HTK
          have HLB := Lib.hid (show (varsT T L).length ≤ m0 + 500 * (k + 1) by have := varsT_len T L; have := HM.out; omega)
          have hml := HM.out
          have VRS := Lib.hid (fun W (hW : Below wr.heap.size wr W) (A8 : Option Addr) (c8 : Nat) (h : TRow W any0 A8 T.args) => rvars_any 507 T (tv T A8 c8) L Al1 cl1 W hTb hTs (by omega) ⟨A8, c8, rfl, h⟩ (HI.out.later hW) (fun e => by have := HN1.out e; omega))
          rw [← HM.out] at VRS
          unfold tv at HD ALL
          have FA0 := fun a b c d W => (field_r a b c d W).1
          have FA2 := fun a b c d W => (field_r a b c d W).2
          clear hwx hr2 hx hT hHH hL hTs hTn hTb hshx hb2 hlt' hml hHs
          rw [show (varT x).k = 7 from rfl, show (varT x).nm = ⟨#[]⟩ from rfl, show (varT x).vr = x from rfl, show (varT x).args.length = 0 from rfl] at ALL HD
          go_wp2_with fail
          try rw [← HWX.out]
          by_cases hin : x ∈ Y
          · rw [decide_eq_true hin] at CH
            by_cases h7 : HH.k = 7
            · have q7 : (HH.k == 7) = true := by rw [h7]; rfl
              have q7' : (HH.k != 7) = false := by rw [h7]; rfl
              by_cases hv : HH.vr = x
              · have HNO := Lib.hid (show heldV R Y L x = L by rw [HVD.out, if_pos ⟨hin, h7, hv⟩])
                have qv : (HH.vr == x) = true := by rw [hv]; exact beq_self_eq_true x
                have qv' : (HH.vr != x) = false := by rw [hv]; simp
                clear hin h7 hv HVD ALL VRS
                refine wp_region_D [] (fun w' => Below wx.heap.size wx w') (by kernel_rfl) (bdr wx) (fun hHeld => ?_)
                refine WDs 0 ⟨some 33, .move (.tmp 1), 46, _, #[], none⟩ ?va0 ?hya0 hHeld ?_
                case hya0 => (intro wz hSw; (try dsimp only at hSw); go_simp; try with_reducible rfl)
                (try simp only [putz])
                refine WDs 1 ⟨some 34, .move (.tmp 6), 3, _, #[], none⟩ ?va1 ?hya1 hHeld ?_
                case hya1 => (intro wz hSw; (try dsimp only at hSw); go_simp; try with_reducible rfl)
                (try simp only [putz])
                refine WDs 2 ⟨some 35, .indexAddr 46 (.tmp 33) (.tmp 34), 0, _, #[⟨0, .data⟩, ⟨1, .data⟩], none⟩ ?va2 ?hya2 hHeld ?_
                case hya2 => (intro wz hSw; (try dsimp only at hSw); go_simp; try with_reducible rfl)
                (try simp only [putz])
                refine WDs 3 ⟨some 36, .fieldAddr 48 (.tmp 35) 0, 0, _, #[⟨2, .data⟩], none⟩ ?va3 ?hya3 hHeld ?_
                case hya3 => (intro wz hSw; (try dsimp only at hSw); go_simp; try with_reducible rfl)
                (try simp only [putz])
                refine WDs 4 ⟨some 37, .load 26 (.tmp 36), 26, _, #[⟨3, .data⟩], none⟩ ?va4 ?hya4 hHeld ?_
                case hya4 => (intro wz hSw; (try dsimp only at hSw); have q0 := CA0.out _ hSw; go_simp; try with_reducible rfl)
                (try simp only [putz])
                refine WDs 5 ⟨some 38, .move (.tmp 7), 26, _, #[], none⟩ ?va5 ?hya5 hHeld ?_
                case hya5 => (intro wz hSw; (try dsimp only at hSw); go_simp; try with_reducible rfl)
                (try simp only [putz])
                refine WDs 6 ⟨some 39, .move (.tmp 8), 3, _, #[], none⟩ ?va6 ?hya6 hHeld ?_
                case hya6 => (intro wz hSw; (try dsimp only at hSw); go_simp; try with_reducible rfl)
                (try simp only [putz])
                refine WDs 7 ⟨some 40, .indexAddr 26 (.tmp 38) (.tmp 39), 0, _, #[⟨5, .data⟩, ⟨6, .data⟩], none⟩ ?va7 ?hya7 hHeld ?_
                case hya7 => (intro wz hSw; (try dsimp only at hSw); go_simp; try with_reducible rfl)
                (try simp only [putz])
                refine WDs 8 ⟨some 41, .load 3 (.tmp 40), 3, _, #[⟨7, .data⟩], none⟩ ?va8 ?hya8 hHeld ?_
                case hya8 => (intro wz hSw; (try dsimp only at hSw); have q0 := CV0.out _ hSw; go_simp; try with_reducible rfl)
                (try simp only [putz])
                refine WD_ready (rs := [9]) (by kernel_rfl) (by simp) ?_
                refine AllD.cons (o := _) rfl (fun K hK => ?_) AllD.nil
                rw [if_pos (by rfl)]
                go_simp
                refine (CH.out _ hHeld).mono ?_; rintro e w5 ⟨rfl, rfl⟩
                try go_wp2_with fail
                refine hK.out _ _ (hHeld) (fun hHeld => ?_)
                clear hK K
                (try simp only [putz])
                refine WDs 10 ⟨some 43, .unOp .not 4 (.tmp 42), 4, _, #[⟨9, .data⟩], none⟩ ?va10 ?hya10 hHeld ?_
                case hya10 => (intro wz hSw; (try dsimp only at hSw); go_simp; try with_reducible rfl)
                (try simp only [putz])
                refine WDs 11 ⟨some 44, .move (.tmp 43), 4, _, #[⟨10, .data⟩, ⟨9, .chain⟩], none⟩ ?va11 ?hya11 hHeld ?_
                case hya11 => (intro wz hSw; (try dsimp only at hSw); go_simp; try with_reducible rfl)
                (try simp only [putz])
                refine WDs 12 ⟨some 45, .move (.tmp 0), 33, _, #[⟨11, .guard⟩], some (11, false)⟩ ?va12 ?hya12 hHeld ?_
                case hya12 => (intro wz hSw; (try dsimp only at hSw); go_simp; try with_reducible rfl)
                (try simp only [putz])
                refine WDs 13 ⟨some 46, .load 36 (.tmp 9), 36, _, #[⟨11, .guard⟩], some (11, false)⟩ ?va13 ?hya13 hHeld ?_
                case hya13 => (intro wz hSw; (try dsimp only at hSw); obtain ⟨z0, z1, z2, z3⟩ := CX.out _ hSw; go_simp; try with_reducible rfl)
                (try simp only [putz])
                refine WD_ready (rs := [14]) (by kernel_rfl) (by simp) ?_
                refine AllD.cons (o := _) rfl (fun K hK => ?_) AllD.nil
                rw [if_pos (by rfl)]
                go_simp
                refine (HD.out _ hHeld).mono ?_; rintro e w6 ⟨A6, c6, rfl, r6, b6⟩
                try unfold tv
                try go_wp2_with fail
                refine hK.out _ _ (bt hHeld b6) (fun hHeld => ?_)
                clear hK K
                (try simp only [putz])
                clear r6 b6
                refine WDs 15 ⟨some 48, .field 36 (.tmp 47) 0, 3, _, #[⟨14, .data⟩, ⟨11, .guard⟩], some (11, false)⟩ ?va15 ?hya15 hHeld ?_
                case hya15 => (intro wz hSw; (try dsimp only at hSw); go_simp; try with_reducible rfl)
                (try simp only [putz])
                refine WDs 16 ⟨some 49, .binOp .neq 3 (.tmp 48) (.const (.int .i64 7)) 3, 4, _, #[⟨15, .data⟩, ⟨11, .guard⟩], some (11, false)⟩ ?va16 ?hya16 hHeld ?_
                case hya16 => (intro wz hSw; (try dsimp only at hSw); go_simp; try with_reducible rfl)
                (try simp only [putz])
                refine WDs 17 ⟨some 50, .pick (.tmp 44) (.const (.bool true)) (.tmp 49), 4, _, #[⟨11, .data⟩, ⟨16, .data⟩], none⟩ ?va17 ?hya17 hHeld ?_
                case hya17 => (intro wz hSw; (try dsimp only at hSw); go_simp; try with_reducible rfl)
                (try simp only [putz])
                refine WDs 18 ⟨some 51, .move (.tmp 50), 4, _, #[⟨17, .data⟩, ⟨14, .chain⟩], none⟩ ?va18 ?hya18 hHeld ?_
                case hya18 => (intro wz hSw; (try dsimp only at hSw); go_simp; try with_reducible rfl)
                (try simp only [putz])
                refine WDs 19 ⟨some 52, .move (.tmp 0), 33, _, #[⟨18, .guard⟩], some (18, false)⟩ ?va19 ?hya19 hHeld ?_
                case hya19 => (intro wz hSw; (try dsimp only at hSw); go_simp; try with_reducible rfl)
                (try simp only [putz])
                refine WDs 20 ⟨some 53, .load 36 (.tmp 9), 36, _, #[⟨18, .guard⟩], some (18, false)⟩ ?va20 ?hya20 hHeld ?_
                case hya20 => (intro wz hSw; (try dsimp only at hSw); obtain ⟨z0, z1, z2, z3⟩ := CX.out _ hSw; go_simp; try with_reducible rfl)
                (try simp only [putz])
                refine WDs 23 ⟨some 56, .move (.tmp 7), 26, _, #[⟨18, .guard⟩], some (18, false)⟩ ?va23 ?hya23 hHeld ?_
                case hya23 => (intro wz hSw; (try dsimp only at hSw); go_simp; try with_reducible rfl)
                (try simp only [putz])
                refine WDs 24 ⟨some 57, .move (.tmp 8), 3, _, #[⟨18, .guard⟩], some (18, false)⟩ ?va24 ?hya24 hHeld ?_
                case hya24 => (intro wz hSw; (try dsimp only at hSw); go_simp; try with_reducible rfl)
                (try simp only [putz])
                refine WDs 25 ⟨some 58, .indexAddr 26 (.tmp 56) (.tmp 57), 0, _, #[⟨23, .data⟩, ⟨24, .data⟩, ⟨18, .guard⟩], some (18, false)⟩ ?va25 ?hya25 hHeld ?_
                case hya25 => (intro wz hSw; (try dsimp only at hSw); go_simp; try with_reducible rfl)
                (try simp only [putz])
                refine WDs 26 ⟨some 59, .load 3 (.tmp 58), 3, _, #[⟨25, .data⟩, ⟨18, .guard⟩], some (18, false)⟩ ?va26 ?hya26 hHeld ?_
                case hya26 => (intro wz hSw; (try dsimp only at hSw); have q0 := CV0.out _ hSw; go_simp; try with_reducible rfl)
                (try simp only [putz])
                refine WD_ready (rs := [21]) (by kernel_rfl) (by simp) ?_
                refine AllD.cons (o := _) rfl (fun K hK => ?_) AllD.nil
                rw [if_pos (by rfl)]
                go_simp
                refine (HD.out _ hHeld).mono ?_; rintro e w7 ⟨A7, c7, rfl, r7, b7⟩
                try unfold tv
                try go_wp2_with fail
                refine hK.out _ _ (bt hHeld b7) (fun hHeld => ?_)
                clear hK K
                (try simp only [putz])
                clear r7 b7
                refine WDs 22 ⟨some 55, .field 36 (.tmp 54) 2, 3, _, #[⟨21, .data⟩, ⟨18, .guard⟩], some (18, false)⟩ ?va22 ?hya22 hHeld ?_
                case hya22 => (intro wz hSw; (try dsimp only at hSw); go_simp; try with_reducible rfl)
                (try simp only [putz])
                refine WDs 27 ⟨some 60, .binOp .neq 3 (.tmp 55) (.tmp 59) 3, 4, _, #[⟨22, .data⟩, ⟨26, .data⟩, ⟨18, .guard⟩], some (18, false)⟩ ?va27 ?hya27 hHeld ?_
                case hya27 => (intro wz hSw; (try dsimp only at hSw); go_simp; try with_reducible rfl)
                (try simp only [putz])
                refine WDs 28 ⟨some 61, .pick (.tmp 51) (.const (.bool true)) (.tmp 60), 4, _, #[⟨18, .data⟩, ⟨27, .data⟩], none⟩ ?va28 ?hya28 hHeld ?_
                case hya28 => (intro wz hSw; (try dsimp only at hSw); go_simp; try with_reducible rfl)
                (try simp only [putz])
                have H9 := Lib.hid hHeld
                clear hHeld
                refine WD_done (by kernel_rfl) ?_ _
                have BH := Lib.hid (bt BX.out H9.out)
                have HI9 := Lib.hid (HI.out.later BH.out)
                clear HD CH x0
                go_wp2
                go_roundw
                case rel => exact ⟨k + 1, m, Al1, cl1, rfl, by omega, by go_num, by rw [HTK.out, HNO.out]; exact HM.out, by omega, Lib.hid (by rw [HTK.out, HNO.out]; exact HI9.out), HN1, Lib.hid (bt HW.out BH.out)⟩
                case measure => simp [intOf]; omega
              · have HYES := Lib.hid (show heldV R Y L x = varsT T L by rw [HVD.out, if_neg (fun e => hv e.2.2)])
                have qv : (HH.vr == x) = false := beq_eq_false_iff_ne.2 hv
                have qv' : (HH.vr != x) = true := by simp [bne, qv]
                clear hin h7 hv HVD
                as_aux_lemma =>
                refine wp_region_D [] (fun w' => Below wx.heap.size wx w') (by kernel_rfl) (bdr wx) (fun hHeld => ?_)
                refine WDs 0 ⟨some 33, .move (.tmp 1), 46, _, #[], none⟩ ?vb0 ?hyb0 hHeld ?_
                case hyb0 => (intro wz hSw; (try dsimp only at hSw); go_simp; try with_reducible rfl)
                (try simp only [putz])
                refine WDs 1 ⟨some 34, .move (.tmp 6), 3, _, #[], none⟩ ?vb1 ?hyb1 hHeld ?_
                case hyb1 => (intro wz hSw; (try dsimp only at hSw); go_simp; try with_reducible rfl)
                (try simp only [putz])
                refine WDs 2 ⟨some 35, .indexAddr 46 (.tmp 33) (.tmp 34), 0, _, #[⟨0, .data⟩, ⟨1, .data⟩], none⟩ ?vb2 ?hyb2 hHeld ?_
                case hyb2 => (intro wz hSw; (try dsimp only at hSw); go_simp; try with_reducible rfl)
                (try simp only [putz])
                refine WDs 3 ⟨some 36, .fieldAddr 48 (.tmp 35) 0, 0, _, #[⟨2, .data⟩], none⟩ ?vb3 ?hyb3 hHeld ?_
                case hyb3 => (intro wz hSw; (try dsimp only at hSw); go_simp; try with_reducible rfl)
                (try simp only [putz])
                refine WDs 4 ⟨some 37, .load 26 (.tmp 36), 26, _, #[⟨3, .data⟩], none⟩ ?vb4 ?hyb4 hHeld ?_
                case hyb4 => (intro wz hSw; (try dsimp only at hSw); have q0 := CA0.out _ hSw; go_simp; try with_reducible rfl)
                (try simp only [putz])
                refine WDs 5 ⟨some 38, .move (.tmp 7), 26, _, #[], none⟩ ?vb5 ?hyb5 hHeld ?_
                case hyb5 => (intro wz hSw; (try dsimp only at hSw); go_simp; try with_reducible rfl)
                (try simp only [putz])
                refine WDs 6 ⟨some 39, .move (.tmp 8), 3, _, #[], none⟩ ?vb6 ?hyb6 hHeld ?_
                case hyb6 => (intro wz hSw; (try dsimp only at hSw); go_simp; try with_reducible rfl)
                (try simp only [putz])
                refine WDs 7 ⟨some 40, .indexAddr 26 (.tmp 38) (.tmp 39), 0, _, #[⟨5, .data⟩, ⟨6, .data⟩], none⟩ ?vb7 ?hyb7 hHeld ?_
                case hyb7 => (intro wz hSw; (try dsimp only at hSw); go_simp; try with_reducible rfl)
                (try simp only [putz])
                refine WDs 8 ⟨some 41, .load 3 (.tmp 40), 3, _, #[⟨7, .data⟩], none⟩ ?vb8 ?hyb8 hHeld ?_
                case hyb8 => (intro wz hSw; (try dsimp only at hSw); have q0 := CV0.out _ hSw; go_simp; try with_reducible rfl)
                (try simp only [putz])
                refine WD_ready (rs := [9]) (by kernel_rfl) (by simp) ?_
                refine AllD.cons (o := _) rfl (fun K hK => ?_) AllD.nil
                rw [if_pos (by rfl)]
                go_simp
                refine (CH.out _ hHeld).mono ?_; rintro e w5 ⟨rfl, rfl⟩
                try go_wp2_with fail
                refine hK.out _ _ (hHeld) (fun hHeld => ?_)
                clear hK K
                (try simp only [putz])
                refine WDs 10 ⟨some 43, .unOp .not 4 (.tmp 42), 4, _, #[⟨9, .data⟩], none⟩ ?vb10 ?hyb10 hHeld ?_
                case hyb10 => (intro wz hSw; (try dsimp only at hSw); go_simp; try with_reducible rfl)
                (try simp only [putz])
                refine WDs 11 ⟨some 44, .move (.tmp 43), 4, _, #[⟨10, .data⟩, ⟨9, .chain⟩], none⟩ ?vb11 ?hyb11 hHeld ?_
                case hyb11 => (intro wz hSw; (try dsimp only at hSw); go_simp; try with_reducible rfl)
                (try simp only [putz])
                refine WDs 12 ⟨some 45, .move (.tmp 0), 33, _, #[⟨11, .guard⟩], some (11, false)⟩ ?vb12 ?hyb12 hHeld ?_
                case hyb12 => (intro wz hSw; (try dsimp only at hSw); go_simp; try with_reducible rfl)
                (try simp only [putz])
                refine WDs 13 ⟨some 46, .load 36 (.tmp 9), 36, _, #[⟨11, .guard⟩], some (11, false)⟩ ?vb13 ?hyb13 hHeld ?_
                case hyb13 => (intro wz hSw; (try dsimp only at hSw); obtain ⟨z0, z1, z2, z3⟩ := CX.out _ hSw; go_simp; try with_reducible rfl)
                (try simp only [putz])
                refine WD_ready (rs := [14]) (by kernel_rfl) (by simp) ?_
                refine AllD.cons (o := _) rfl (fun K hK => ?_) AllD.nil
                rw [if_pos (by rfl)]
                go_simp
                refine (HD.out _ hHeld).mono ?_; rintro e w6 ⟨A6, c6, rfl, r6, b6⟩
                try unfold tv
                try go_wp2_with fail
                refine hK.out _ _ (bt hHeld b6) (fun hHeld => ?_)
                clear hK K
                (try simp only [putz])
                clear r6 b6
                refine WDs 15 ⟨some 48, .field 36 (.tmp 47) 0, 3, _, #[⟨14, .data⟩, ⟨11, .guard⟩], some (11, false)⟩ ?vb15 ?hyb15 hHeld ?_
                case hyb15 => (intro wz hSw; (try dsimp only at hSw); go_simp; try with_reducible rfl)
                (try simp only [putz])
                refine WDs 16 ⟨some 49, .binOp .neq 3 (.tmp 48) (.const (.int .i64 7)) 3, 4, _, #[⟨15, .data⟩, ⟨11, .guard⟩], some (11, false)⟩ ?vb16 ?hyb16 hHeld ?_
                case hyb16 => (intro wz hSw; (try dsimp only at hSw); go_simp; try with_reducible rfl)
                (try simp only [putz])
                refine WDs 17 ⟨some 50, .pick (.tmp 44) (.const (.bool true)) (.tmp 49), 4, _, #[⟨11, .data⟩, ⟨16, .data⟩], none⟩ ?vb17 ?hyb17 hHeld ?_
                case hyb17 => (intro wz hSw; (try dsimp only at hSw); go_simp; try with_reducible rfl)
                (try simp only [putz])
                refine WDs 18 ⟨some 51, .move (.tmp 50), 4, _, #[⟨17, .data⟩, ⟨14, .chain⟩], none⟩ ?vb18 ?hyb18 hHeld ?_
                case hyb18 => (intro wz hSw; (try dsimp only at hSw); go_simp; try with_reducible rfl)
                (try simp only [putz])
                refine WDs 19 ⟨some 52, .move (.tmp 0), 33, _, #[⟨18, .guard⟩], some (18, false)⟩ ?vb19 ?hyb19 hHeld ?_
                case hyb19 => (intro wz hSw; (try dsimp only at hSw); go_simp; try with_reducible rfl)
                (try simp only [putz])
                refine WDs 20 ⟨some 53, .load 36 (.tmp 9), 36, _, #[⟨18, .guard⟩], some (18, false)⟩ ?vb20 ?hyb20 hHeld ?_
                case hyb20 => (intro wz hSw; (try dsimp only at hSw); obtain ⟨z0, z1, z2, z3⟩ := CX.out _ hSw; go_simp; try with_reducible rfl)
                (try simp only [putz])
                refine WDs 23 ⟨some 56, .move (.tmp 7), 26, _, #[⟨18, .guard⟩], some (18, false)⟩ ?vb23 ?hyb23 hHeld ?_
                case hyb23 => (intro wz hSw; (try dsimp only at hSw); go_simp; try with_reducible rfl)
                (try simp only [putz])
                refine WDs 24 ⟨some 57, .move (.tmp 8), 3, _, #[⟨18, .guard⟩], some (18, false)⟩ ?vb24 ?hyb24 hHeld ?_
                case hyb24 => (intro wz hSw; (try dsimp only at hSw); go_simp; try with_reducible rfl)
                (try simp only [putz])
                refine WDs 25 ⟨some 58, .indexAddr 26 (.tmp 56) (.tmp 57), 0, _, #[⟨23, .data⟩, ⟨24, .data⟩, ⟨18, .guard⟩], some (18, false)⟩ ?vb25 ?hyb25 hHeld ?_
                case hyb25 => (intro wz hSw; (try dsimp only at hSw); go_simp; try with_reducible rfl)
                (try simp only [putz])
                refine WDs 26 ⟨some 59, .load 3 (.tmp 58), 3, _, #[⟨25, .data⟩, ⟨18, .guard⟩], some (18, false)⟩ ?vb26 ?hyb26 hHeld ?_
                case hyb26 => (intro wz hSw; (try dsimp only at hSw); have q0 := CV0.out _ hSw; go_simp; try with_reducible rfl)
                (try simp only [putz])
                refine WD_ready (rs := [21]) (by kernel_rfl) (by simp) ?_
                refine AllD.cons (o := _) rfl (fun K hK => ?_) AllD.nil
                rw [if_pos (by rfl)]
                go_simp
                refine (HD.out _ hHeld).mono ?_; rintro e w7 ⟨A7, c7, rfl, r7, b7⟩
                try unfold tv
                try go_wp2_with fail
                refine hK.out _ _ (bt hHeld b7) (fun hHeld => ?_)
                clear hK K
                (try simp only [putz])
                clear r7 b7
                refine WDs 22 ⟨some 55, .field 36 (.tmp 54) 2, 3, _, #[⟨21, .data⟩, ⟨18, .guard⟩], some (18, false)⟩ ?vb22 ?hyb22 hHeld ?_
                case hyb22 => (intro wz hSw; (try dsimp only at hSw); go_simp; try with_reducible rfl)
                (try simp only [putz])
                refine WDs 27 ⟨some 60, .binOp .neq 3 (.tmp 55) (.tmp 59) 3, 4, _, #[⟨22, .data⟩, ⟨26, .data⟩, ⟨18, .guard⟩], some (18, false)⟩ ?vb27 ?hyb27 hHeld ?_
                case hyb27 => (intro wz hSw; (try dsimp only at hSw); go_simp; try with_reducible rfl)
                (try simp only [putz])
                refine WDs 28 ⟨some 61, .pick (.tmp 51) (.const (.bool true)) (.tmp 60), 4, _, #[⟨18, .data⟩, ⟨27, .data⟩], none⟩ ?vb28 ?hyb28 hHeld ?_
                case hyb28 => (intro wz hSw; (try dsimp only at hSw); go_simp; try with_reducible rfl)
                (try simp only [putz])
                have H9 := Lib.hid hHeld
                clear hHeld
                refine WD_done (by kernel_rfl) ?_ _
                obtain ⟨z0, z1, z2, z3⟩ := CX.out _ H9.out
                have AL := Lib.hid (ALL.out _ (bt BWX.out H9.out))
                have BH := Lib.hid (bt BX.out H9.out)
                clear HD CH
                go_wp2_with fail
                refine AL.out.mono ?_; rintro e w8 ⟨A8, c8, rfl, r8, b8⟩
                have B8 := Lib.hid (bt BH.out b8)
                have VR := Lib.hid (VRS.out w8 B8.out A8 c8 (r8.weak (fun _ _ _ => trivial)))
                clear r8 b8 AL z0 z1 z2 z3
                unfold tv at VR ⊢
                go_wp2_with fail
                refine VR.out.mono ?_; rintro e w9 ⟨A9, c9, rfl, ir9, hn9, b9⟩
                have B9 := Lib.hid (bt B8.out b9)
                have I9 := Lib.hid (show IRow w9 A9 (heldS R Y (vs.take (k + 1)) l0) by rw [HTK.out, HYES.out]; exact ir9)
                have N9 := Lib.hid hn9
                clear ir9 hn9 b9 VR
                go_wp2
                go_roundw
                case rel => exact ⟨k + 1, _, A9, c9, rfl, by omega, by go_num, by rw [HTK.out, HYES.out], by have := HLB.out; omega, I9, N9, Lib.hid (bt HW.out B9.out)⟩
                case measure => simp [intOf]; omega
            · have HYES := Lib.hid (show heldV R Y L x = varsT T L by rw [HVD.out, if_neg (fun e => h7 e.2.1)])
              have q7 : (HH.k == 7) = false := beq_eq_false_iff_ne.2 h7
              have q7' : (HH.k != 7) = true := by simp [bne, q7]
              clear hin h7 HVD
              as_aux_lemma =>
              refine wp_region_D [] (fun w' => Below wx.heap.size wx w') (by kernel_rfl) (bdr wx) (fun hHeld => ?_)
              refine WDs 0 ⟨some 33, .move (.tmp 1), 46, _, #[], none⟩ ?vc0 ?hyc0 hHeld ?_
              case hyc0 => (intro wz hSw; (try dsimp only at hSw); go_simp; try with_reducible rfl)
              (try simp only [putz])
              refine WDs 1 ⟨some 34, .move (.tmp 6), 3, _, #[], none⟩ ?vc1 ?hyc1 hHeld ?_
              case hyc1 => (intro wz hSw; (try dsimp only at hSw); go_simp; try with_reducible rfl)
              (try simp only [putz])
              refine WDs 2 ⟨some 35, .indexAddr 46 (.tmp 33) (.tmp 34), 0, _, #[⟨0, .data⟩, ⟨1, .data⟩], none⟩ ?vc2 ?hyc2 hHeld ?_
              case hyc2 => (intro wz hSw; (try dsimp only at hSw); go_simp; try with_reducible rfl)
              (try simp only [putz])
              refine WDs 3 ⟨some 36, .fieldAddr 48 (.tmp 35) 0, 0, _, #[⟨2, .data⟩], none⟩ ?vc3 ?hyc3 hHeld ?_
              case hyc3 => (intro wz hSw; (try dsimp only at hSw); go_simp; try with_reducible rfl)
              (try simp only [putz])
              refine WDs 4 ⟨some 37, .load 26 (.tmp 36), 26, _, #[⟨3, .data⟩], none⟩ ?vc4 ?hyc4 hHeld ?_
              case hyc4 => (intro wz hSw; (try dsimp only at hSw); have q0 := CA0.out _ hSw; go_simp; try with_reducible rfl)
              (try simp only [putz])
              refine WDs 5 ⟨some 38, .move (.tmp 7), 26, _, #[], none⟩ ?vc5 ?hyc5 hHeld ?_
              case hyc5 => (intro wz hSw; (try dsimp only at hSw); go_simp; try with_reducible rfl)
              (try simp only [putz])
              refine WDs 6 ⟨some 39, .move (.tmp 8), 3, _, #[], none⟩ ?vc6 ?hyc6 hHeld ?_
              case hyc6 => (intro wz hSw; (try dsimp only at hSw); go_simp; try with_reducible rfl)
              (try simp only [putz])
              refine WDs 7 ⟨some 40, .indexAddr 26 (.tmp 38) (.tmp 39), 0, _, #[⟨5, .data⟩, ⟨6, .data⟩], none⟩ ?vc7 ?hyc7 hHeld ?_
              case hyc7 => (intro wz hSw; (try dsimp only at hSw); go_simp; try with_reducible rfl)
              (try simp only [putz])
              refine WDs 8 ⟨some 41, .load 3 (.tmp 40), 3, _, #[⟨7, .data⟩], none⟩ ?vc8 ?hyc8 hHeld ?_
              case hyc8 => (intro wz hSw; (try dsimp only at hSw); have q0 := CV0.out _ hSw; go_simp; try with_reducible rfl)
              (try simp only [putz])
              refine WD_ready (rs := [9]) (by kernel_rfl) (by simp) ?_
              refine AllD.cons (o := _) rfl (fun K hK => ?_) AllD.nil
              rw [if_pos (by rfl)]
              go_simp
              refine (CH.out _ hHeld).mono ?_; rintro e w5 ⟨rfl, rfl⟩
              try go_wp2_with fail
              refine hK.out _ _ (hHeld) (fun hHeld => ?_)
              clear hK K
              (try simp only [putz])
              refine WDs 10 ⟨some 43, .unOp .not 4 (.tmp 42), 4, _, #[⟨9, .data⟩], none⟩ ?vc10 ?hyc10 hHeld ?_
              case hyc10 => (intro wz hSw; (try dsimp only at hSw); go_simp; try with_reducible rfl)
              (try simp only [putz])
              refine WDs 11 ⟨some 44, .move (.tmp 43), 4, _, #[⟨10, .data⟩, ⟨9, .chain⟩], none⟩ ?vc11 ?hyc11 hHeld ?_
              case hyc11 => (intro wz hSw; (try dsimp only at hSw); go_simp; try with_reducible rfl)
              (try simp only [putz])
              refine WDs 12 ⟨some 45, .move (.tmp 0), 33, _, #[⟨11, .guard⟩], some (11, false)⟩ ?vc12 ?hyc12 hHeld ?_
              case hyc12 => (intro wz hSw; (try dsimp only at hSw); go_simp; try with_reducible rfl)
              (try simp only [putz])
              refine WDs 13 ⟨some 46, .load 36 (.tmp 9), 36, _, #[⟨11, .guard⟩], some (11, false)⟩ ?vc13 ?hyc13 hHeld ?_
              case hyc13 => (intro wz hSw; (try dsimp only at hSw); obtain ⟨z0, z1, z2, z3⟩ := CX.out _ hSw; go_simp; try with_reducible rfl)
              (try simp only [putz])
              refine WD_ready (rs := [14]) (by kernel_rfl) (by simp) ?_
              refine AllD.cons (o := _) rfl (fun K hK => ?_) AllD.nil
              rw [if_pos (by rfl)]
              go_simp
              refine (HD.out _ hHeld).mono ?_; rintro e w6 ⟨A6, c6, rfl, r6, b6⟩
              try unfold tv
              try go_wp2_with fail
              refine hK.out _ _ (bt hHeld b6) (fun hHeld => ?_)
              clear hK K
              (try simp only [putz])
              clear r6 b6
              refine WDs 15 ⟨some 48, .field 36 (.tmp 47) 0, 3, _, #[⟨14, .data⟩, ⟨11, .guard⟩], some (11, false)⟩ ?vc15 ?hyc15 hHeld ?_
              case hyc15 => (intro wz hSw; (try dsimp only at hSw); go_simp; try with_reducible rfl)
              (try simp only [putz])
              refine WDs 16 ⟨some 49, .binOp .neq 3 (.tmp 48) (.const (.int .i64 7)) 3, 4, _, #[⟨15, .data⟩, ⟨11, .guard⟩], some (11, false)⟩ ?vc16 ?hyc16 hHeld ?_
              case hyc16 => (intro wz hSw; (try dsimp only at hSw); go_simp; try with_reducible rfl)
              (try simp only [putz])
              refine WDs 17 ⟨some 50, .pick (.tmp 44) (.const (.bool true)) (.tmp 49), 4, _, #[⟨11, .data⟩, ⟨16, .data⟩], none⟩ ?vc17 ?hyc17 hHeld ?_
              case hyc17 => (intro wz hSw; (try dsimp only at hSw); go_simp; try with_reducible rfl)
              (try simp only [putz])
              refine WDs 18 ⟨some 51, .move (.tmp 50), 4, _, #[⟨17, .data⟩, ⟨14, .chain⟩], none⟩ ?vc18 ?hyc18 hHeld ?_
              case hyc18 => (intro wz hSw; (try dsimp only at hSw); go_simp; try with_reducible rfl)
              (try simp only [putz])
              refine WDk 19 ⟨some 52, .move (.tmp 0), 33, _, #[⟨18, .guard⟩], some (18, false)⟩ hHeld ?_
              (try simp only [putz])
              refine WDk 20 ⟨some 53, .load 36 (.tmp 9), 36, _, #[⟨18, .guard⟩], some (18, false)⟩ hHeld ?_
              (try simp only [putz])
              refine WDk 23 ⟨some 56, .move (.tmp 7), 26, _, #[⟨18, .guard⟩], some (18, false)⟩ hHeld ?_
              (try simp only [putz])
              refine WDk 24 ⟨some 57, .move (.tmp 8), 3, _, #[⟨18, .guard⟩], some (18, false)⟩ hHeld ?_
              (try simp only [putz])
              refine WDk 25 ⟨some 58, .indexAddr 26 (.tmp 56) (.tmp 57), 0, _, #[⟨23, .data⟩, ⟨24, .data⟩, ⟨18, .guard⟩], some (18, false)⟩ hHeld ?_
              (try simp only [putz])
              refine WDk 26 ⟨some 59, .load 3 (.tmp 58), 3, _, #[⟨25, .data⟩, ⟨18, .guard⟩], some (18, false)⟩ hHeld ?_
              (try simp only [putz])
              refine WD_ready (rs := [21]) (by kernel_rfl) (by simp) ?_
              refine AllD.cons (o := ⟨some 54, .call { callee := .value (.func 54), args := #[.tmp 52, .tmp 53], argTypes := #[33, 36] }, 36, _, #[⟨19, .data⟩, ⟨20, .data⟩, ⟨18, .chain⟩, ⟨18, .guard⟩], some (18, false)⟩) rfl (fun K hK => ?_) AllD.nil
              rw [if_neg (fun h => nomatch h)]
              refine hK.out _ _ hHeld (fun hHeld => ?_)
              clear hK K
              (try simp only [putz])
              refine WDk 22 ⟨some 55, .field 36 (.tmp 54) 2, 3, _, #[⟨21, .data⟩, ⟨18, .guard⟩], some (18, false)⟩ hHeld ?_
              (try simp only [putz])
              refine WDk 27 ⟨some 60, .binOp .neq 3 (.tmp 55) (.tmp 59) 3, 4, _, #[⟨22, .data⟩, ⟨26, .data⟩, ⟨18, .guard⟩], some (18, false)⟩ hHeld ?_
              (try simp only [putz])
              refine WDs 28 ⟨some 61, .pick (.tmp 51) (.const (.bool true)) (.tmp 60), 4, _, #[⟨18, .data⟩, ⟨27, .data⟩], none⟩ ?vc28 ?hyc28 hHeld ?_
              case hyc28 => (intro wz hSw; (try dsimp only at hSw); go_simp; try with_reducible rfl)
              (try simp only [putz])
              have H9 := Lib.hid hHeld
              clear hHeld
              refine WD_done (by kernel_rfl) ?_ _
              obtain ⟨z0, z1, z2, z3⟩ := CX.out _ H9.out
              have AL := Lib.hid (ALL.out _ (bt BWX.out H9.out))
              have BH := Lib.hid (bt BX.out H9.out)
              clear HD CH
              go_wp2_with fail
              refine AL.out.mono ?_; rintro e w8 ⟨A8, c8, rfl, r8, b8⟩
              have B8 := Lib.hid (bt BH.out b8)
              have VR := Lib.hid (VRS.out w8 B8.out A8 c8 (r8.weak (fun _ _ _ => trivial)))
              clear r8 b8 AL z0 z1 z2 z3
              unfold tv at VR ⊢
              go_wp2_with fail
              refine VR.out.mono ?_; rintro e w9 ⟨A9, c9, rfl, ir9, hn9, b9⟩
              have B9 := Lib.hid (bt B8.out b9)
              have I9 := Lib.hid (show IRow w9 A9 (heldS R Y (vs.take (k + 1)) l0) by rw [HTK.out, HYES.out]; exact ir9)
              have N9 := Lib.hid hn9
              clear ir9 hn9 b9 VR
              go_wp2
              go_roundw
              case rel => exact ⟨k + 1, _, A9, c9, rfl, by omega, by go_num, by rw [HTK.out, HYES.out], by have := HLB.out; omega, I9, N9, Lib.hid (bt HW.out B9.out)⟩
              case measure => simp [intOf]; omega
          · rw [decide_eq_false hin] at CH
            have HYES := Lib.hid (show heldV R Y L x = varsT T L by rw [HVD.out, if_neg (fun e => hin e.1)])
            clear hin HVD
            as_aux_lemma =>
            refine wp_region_D [] (fun w' => Below wx.heap.size wx w') (by kernel_rfl) (bdr wx) (fun hHeld => ?_)
            refine WDs 0 ⟨some 33, .move (.tmp 1), 46, _, #[], none⟩ ?vd0 ?hyd0 hHeld ?_
            case hyd0 => (intro wz hSw; (try dsimp only at hSw); go_simp; try with_reducible rfl)
            (try simp only [putz])
            refine WDs 1 ⟨some 34, .move (.tmp 6), 3, _, #[], none⟩ ?vd1 ?hyd1 hHeld ?_
            case hyd1 => (intro wz hSw; (try dsimp only at hSw); go_simp; try with_reducible rfl)
            (try simp only [putz])
            refine WDs 2 ⟨some 35, .indexAddr 46 (.tmp 33) (.tmp 34), 0, _, #[⟨0, .data⟩, ⟨1, .data⟩], none⟩ ?vd2 ?hyd2 hHeld ?_
            case hyd2 => (intro wz hSw; (try dsimp only at hSw); go_simp; try with_reducible rfl)
            (try simp only [putz])
            refine WDs 3 ⟨some 36, .fieldAddr 48 (.tmp 35) 0, 0, _, #[⟨2, .data⟩], none⟩ ?vd3 ?hyd3 hHeld ?_
            case hyd3 => (intro wz hSw; (try dsimp only at hSw); go_simp; try with_reducible rfl)
            (try simp only [putz])
            refine WDs 4 ⟨some 37, .load 26 (.tmp 36), 26, _, #[⟨3, .data⟩], none⟩ ?vd4 ?hyd4 hHeld ?_
            case hyd4 => (intro wz hSw; (try dsimp only at hSw); have q0 := CA0.out _ hSw; go_simp; try with_reducible rfl)
            (try simp only [putz])
            refine WDs 5 ⟨some 38, .move (.tmp 7), 26, _, #[], none⟩ ?vd5 ?hyd5 hHeld ?_
            case hyd5 => (intro wz hSw; (try dsimp only at hSw); go_simp; try with_reducible rfl)
            (try simp only [putz])
            refine WDs 6 ⟨some 39, .move (.tmp 8), 3, _, #[], none⟩ ?vd6 ?hyd6 hHeld ?_
            case hyd6 => (intro wz hSw; (try dsimp only at hSw); go_simp; try with_reducible rfl)
            (try simp only [putz])
            refine WDs 7 ⟨some 40, .indexAddr 26 (.tmp 38) (.tmp 39), 0, _, #[⟨5, .data⟩, ⟨6, .data⟩], none⟩ ?vd7 ?hyd7 hHeld ?_
            case hyd7 => (intro wz hSw; (try dsimp only at hSw); go_simp; try with_reducible rfl)
            (try simp only [putz])
            refine WDs 8 ⟨some 41, .load 3 (.tmp 40), 3, _, #[⟨7, .data⟩], none⟩ ?vd8 ?hyd8 hHeld ?_
            case hyd8 => (intro wz hSw; (try dsimp only at hSw); have q0 := CV0.out _ hSw; go_simp; try with_reducible rfl)
            (try simp only [putz])
            refine WD_ready (rs := [9]) (by kernel_rfl) (by simp) ?_
            refine AllD.cons (o := _) rfl (fun K hK => ?_) AllD.nil
            rw [if_pos (by rfl)]
            go_simp
            refine (CH.out _ hHeld).mono ?_; rintro e w5 ⟨rfl, rfl⟩
            try go_wp2_with fail
            refine hK.out _ _ (hHeld) (fun hHeld => ?_)
            clear hK K
            (try simp only [putz])
            refine WDs 10 ⟨some 43, .unOp .not 4 (.tmp 42), 4, _, #[⟨9, .data⟩], none⟩ ?vd10 ?hyd10 hHeld ?_
            case hyd10 => (intro wz hSw; (try dsimp only at hSw); go_simp; try with_reducible rfl)
            (try simp only [putz])
            refine WDs 11 ⟨some 44, .move (.tmp 43), 4, _, #[⟨10, .data⟩, ⟨9, .chain⟩], none⟩ ?vd11 ?hyd11 hHeld ?_
            case hyd11 => (intro wz hSw; (try dsimp only at hSw); go_simp; try with_reducible rfl)
            (try simp only [putz])
            refine WDk 12 ⟨some 45, .move (.tmp 0), 33, _, #[⟨11, .guard⟩], some (11, false)⟩ hHeld ?_
            (try simp only [putz])
            refine WDk 13 ⟨some 46, .load 36 (.tmp 9), 36, _, #[⟨11, .guard⟩], some (11, false)⟩ hHeld ?_
            (try simp only [putz])
            refine WD_ready (rs := [14]) (by kernel_rfl) (by simp) ?_
            refine AllD.cons (o := ⟨some 47, .call { callee := .value (.func 54), args := #[.tmp 45, .tmp 46], argTypes := #[33, 36] }, 36, _, #[⟨12, .data⟩, ⟨13, .data⟩, ⟨11, .chain⟩, ⟨11, .guard⟩], some (11, false)⟩) rfl (fun K hK => ?_) AllD.nil
            rw [if_neg (fun h => nomatch h)]
            refine hK.out _ _ hHeld (fun hHeld => ?_)
            clear hK K
            (try simp only [putz])
            refine WDk 15 ⟨some 48, .field 36 (.tmp 47) 0, 3, _, #[⟨14, .data⟩, ⟨11, .guard⟩], some (11, false)⟩ hHeld ?_
            (try simp only [putz])
            refine WDk 16 ⟨some 49, .binOp .neq 3 (.tmp 48) (.const (.int .i64 7)) 3, 4, _, #[⟨15, .data⟩, ⟨11, .guard⟩], some (11, false)⟩ hHeld ?_
            (try simp only [putz])
            refine WDs 17 ⟨some 50, .pick (.tmp 44) (.const (.bool true)) (.tmp 49), 4, _, #[⟨11, .data⟩, ⟨16, .data⟩], none⟩ ?vd17 ?hyd17 hHeld ?_
            case hyd17 => (intro wz hSw; (try dsimp only at hSw); go_simp; try with_reducible rfl)
            (try simp only [putz])
            refine WDs 18 ⟨some 51, .move (.tmp 50), 4, _, #[⟨17, .data⟩, ⟨14, .chain⟩], none⟩ ?vd18 ?hyd18 hHeld ?_
            case hyd18 => (intro wz hSw; (try dsimp only at hSw); go_simp; try with_reducible rfl)
            (try simp only [putz])
            refine WDk 19 ⟨some 52, .move (.tmp 0), 33, _, #[⟨18, .guard⟩], some (18, false)⟩ hHeld ?_
            (try simp only [putz])
            refine WDk 20 ⟨some 53, .load 36 (.tmp 9), 36, _, #[⟨18, .guard⟩], some (18, false)⟩ hHeld ?_
            (try simp only [putz])
            refine WDk 23 ⟨some 56, .move (.tmp 7), 26, _, #[⟨18, .guard⟩], some (18, false)⟩ hHeld ?_
            (try simp only [putz])
            refine WDk 24 ⟨some 57, .move (.tmp 8), 3, _, #[⟨18, .guard⟩], some (18, false)⟩ hHeld ?_
            (try simp only [putz])
            refine WDk 25 ⟨some 58, .indexAddr 26 (.tmp 56) (.tmp 57), 0, _, #[⟨23, .data⟩, ⟨24, .data⟩, ⟨18, .guard⟩], some (18, false)⟩ hHeld ?_
            (try simp only [putz])
            refine WDk 26 ⟨some 59, .load 3 (.tmp 58), 3, _, #[⟨25, .data⟩, ⟨18, .guard⟩], some (18, false)⟩ hHeld ?_
            (try simp only [putz])
            refine WD_ready (rs := [21]) (by kernel_rfl) (by simp) ?_
            refine AllD.cons (o := ⟨some 54, .call { callee := .value (.func 54), args := #[.tmp 52, .tmp 53], argTypes := #[33, 36] }, 36, _, #[⟨19, .data⟩, ⟨20, .data⟩, ⟨18, .chain⟩, ⟨18, .guard⟩], some (18, false)⟩) rfl (fun K hK => ?_) AllD.nil
            rw [if_neg (fun h => nomatch h)]
            refine hK.out _ _ hHeld (fun hHeld => ?_)
            clear hK K
            (try simp only [putz])
            refine WDk 22 ⟨some 55, .field 36 (.tmp 54) 2, 3, _, #[⟨21, .data⟩, ⟨18, .guard⟩], some (18, false)⟩ hHeld ?_
            (try simp only [putz])
            refine WDk 27 ⟨some 60, .binOp .neq 3 (.tmp 55) (.tmp 59) 3, 4, _, #[⟨22, .data⟩, ⟨26, .data⟩, ⟨18, .guard⟩], some (18, false)⟩ hHeld ?_
            (try simp only [putz])
            refine WDs 28 ⟨some 61, .pick (.tmp 51) (.const (.bool true)) (.tmp 60), 4, _, #[⟨18, .data⟩, ⟨27, .data⟩], none⟩ ?vd28 ?hyd28 hHeld ?_
            case hyd28 => (intro wz hSw; (try dsimp only at hSw); go_simp; try with_reducible rfl)
            (try simp only [putz])
            have H9 := Lib.hid hHeld
            clear hHeld
            refine WD_done (by kernel_rfl) ?_ _
            obtain ⟨z0, z1, z2, z3⟩ := CX.out _ H9.out
            have AL := Lib.hid (ALL.out _ (bt BWX.out H9.out))
            have BH := Lib.hid (bt BX.out H9.out)
            clear HD CH
            go_wp2_with fail
            refine AL.out.mono ?_; rintro e w8 ⟨A8, c8, rfl, r8, b8⟩
            have B8 := Lib.hid (bt BH.out b8)
            have VR := Lib.hid (VRS.out w8 B8.out A8 c8 (r8.weak (fun _ _ _ => trivial)))
            clear r8 b8 AL z0 z1 z2 z3
            unfold tv at VR ⊢
            go_wp2_with fail
            refine VR.out.mono ?_; rintro e w9 ⟨A9, c9, rfl, ir9, hn9, b9⟩
            have B9 := Lib.hid (bt B8.out b9)
            have I9 := Lib.hid (show IRow w9 A9 (heldS R Y (vs.take (k + 1)) l0) by rw [HTK.out, HYES.out]; exact ir9)
            have N9 := Lib.hid hn9
            clear ir9 hn9 b9 VR
            go_wp2
            go_roundw
            case rel => exact ⟨k + 1, _, A9, c9, rfl, by omega, by go_num, by rw [HTK.out, HYES.out], by have := HLB.out; omega, I9, N9, Lib.hid (bt HW.out B9.out)⟩
            case measure => simp [intOf]; omega
        · obtain rfl : k = N := by omega
          have hge : ¬ (k : Int) < (k : Int) := by omega
          have e9 : vs.take k = vs := by rw [← HN.out]; exact List.take_length
          have HIF := HI.out
          have HMF := HM.out
          rw [e9, ← HTE.out] at HIF HMF
          have HIF := Lib.hid HIF
          have HMF := Lib.hid HMF
          clear e9
          go_wp2
          go_roundw
          case rel => exact ⟨k0 + 1, m, Al1, cl1, rfl, by omega, by go_num, HMF.out, by omega, HIF, HN1, Lib.hid (bt HW0.out (bt B3.out HW.out))⟩
          case measure => simp [intOf]; omega
    · obtain rfl : k0 = NE := by omega
      have hge : ¬ (k0 : Int) < (k0 : Int) := by omega
      have e9 : E.take k0 = E := by rw [HNE.out]; exact List.take_length
      have HIF := HI0.out
      have HMF := HM0.out
      rw [e9] at HIF HMF
      subst HMF
      have HIF := Lib.hid HIF
      go_wp2
      go_ret
      exact ⟨Al, cl, rfl, HIF.out, HN0.out, HW0.out⟩
end Go.Proofs.YtifopogkbjhkjaaGreatDoor
