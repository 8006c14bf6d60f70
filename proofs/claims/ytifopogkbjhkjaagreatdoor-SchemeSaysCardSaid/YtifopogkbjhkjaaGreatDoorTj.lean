import Derived.Test.YtifopogkbjhkjaaGreatDoorTh
namespace Go.Proofs.YtifopogkbjhkjaaGreatDoor
open Go.ChangeShapes Go.WideShapes Go.ChangeAt Go.RowKit
set_option linter.unusedVariables false
/-- Good. -/
def goodT (V : TT) : Bool := decide (sizeT V ≤ 500) && shp V
set_option maxRecDepth 100000 in
set_option maxHeartbeats 2000000 in
theorem good_any {d : Nat} {V : TT} {v : Value} {w : World} (hd : d ≤ 7) (hbg : bigT d V = false) (h : TIn w any0 V v) : Calls Tryz.prog 21 #[v] w fun e w' => e = .returned (.bool (goodT V)) ∧ Below w.heap.size w w' := by
  have SZ := Lib.hid (fun W (hW : Below w.heap.size w W) => size_any hd hbg (h.later hW))
  have SH := Lib.hid (fun W (hW : Below w.heap.size w W) => shaped_any d V v W hbg (h.later hW))
  obtain ⟨A, c, rfl, -⟩ := h
  unfold goodT
  obtain ⟨Z, hZ⟩ : ∃ z, z = sizeT V := ⟨_, rfl⟩
  obtain ⟨S, hS⟩ : ∃ z, z = shp V := ⟨_, rfl⟩
  rw [← hZ] at SZ ⊢
  rw [← hS] at SH ⊢
  unfold tv at SZ SH ⊢
  have HB0 := Lib.hid (below_alloc w (.cells #[.int .i64 V.k, .string V.nm, .int .i64 V.vr, .slice A V.args.length c] 24))
  have HBX := Lib.hid (box4 w V A c V.args.length 24)
  clear hZ hS hbg
  by_cases h5 : Z ≤ 500
  · have d5 := decide_eq_true h5
    rw [d5]
    clear h5
    go_enter Tryz.func21, Tryz.ntmps21
    go_wp2_with fail
    refine (SZ.out _ HB0.out).mono ?_; rintro e w1 ⟨rfl, hb1⟩
    have B1 := Lib.hid (bt HB0.out hb1)
    have zc := cell4 ((hb1.block w.heap.size (by simp)).trans HBX.out)
    have z0 := zc.1; have z1 := zc.2.1; have z2 := zc.2.2.1; have z3 := zc.2.2.2
    clear zc hb1 SZ
    go_wp2_with fail
    refine (SH.out _ B1.out).mono ?_; rintro e w2 ⟨rfl, hb2⟩
    have B2 := Lib.hid (bt B1.out hb2)
    clear hb2 SH
    go_wp2
    go_ret
    exact ⟨by first | rfl | (cases S <;> rfl), B2.out⟩
  · have d5 := decide_eq_false h5
    rw [d5]
    clear h5
    go_enter Tryz.func21, Tryz.ntmps21
    go_wp2_with fail
    refine (SZ.out _ HB0.out).mono ?_; rintro e w1 ⟨rfl, hb1⟩
    have B1 := Lib.hid (bt HB0.out hb1)
    clear hb1 SZ
    go_wp2
    go_ret
    exact ⟨by first | rfl | (cases S <;> rfl), B1.out⟩
/-- what a good type is. -/
theorem good_head {V : TT} (h : goodT V = true) : headOk V = true ∧ ∀ a ∈ V.args, shp a = true := by
  unfold goodT at h
  rw [Bool.and_eq_true, shp_eq, Bool.and_eq_true] at h
  exact ⟨h.2.1, (shpL_all _).1 h.2.2⟩
theorem head_var {V : TT} (h : headOk V = true) : 0 ≤ V.vr ∧ V.vr ≤ 1999 ∧ 1 ≤ V.k ∧ V.k ≤ 7 ∧ (V.args.length : Int) = arT V.k := by
  unfold headOk at h
  simp only [Bool.and_eq_true, decide_eq_true_eq] at h
  omega
end Go.Proofs.YtifopogkbjhkjaaGreatDoor
namespace Go.Proofs.YtifopogkbjhkjaaGreatDoor
open Go.ChangeShapes Go.WideShapes Go.ChangeAt Go.RowKit
set_option linter.unusedVariables false
theorem two_box {w : World} (X Y : Obj) : ((w.alloc X).alloc Y).heap[w.heap.size]? = some X ∧ ((w.alloc X).alloc Y).heap[w.heap.size + 1]? = some Y := by
  refine ⟨((below_alloc (w.alloc X) Y).block w.heap.size (by simp)).trans (heap_alloc_new w X), ?_⟩
  have := heap_alloc_new (w.alloc X) Y
  simpa using this
set_option maxRecDepth 100000 in
set_option maxHeartbeats 4000000 in
theorem same_self : ∀ (d : Nat) (V : TT) (v u : Value) (q : Int) (w : World), bigT d V = false → 0 ≤ q → q + d ≤ 1000 → TIn w any0 V v → TIn w any0 V u → Calls Tryz.prog 73 #[v, u, .int .i64 q] w fun e w' => e = .returned (.bool true) ∧ Below w.heap.size w w' := by
  intro d
  induction d with
  | zero => intro V v u q w h; cases h
  | succ d ih =>
  intro V v u q w hbg hq0 hq1 ⟨A, c, hv, hA⟩ ⟨A2, c2, hu, hA2⟩
  obtain ⟨hl4, -, b3⟩ := bigT_parts hbg
  subst hv hu
  have HI := Lib.hid ih
  have HBG := Lib.hid b3
  unfold tv
  obtain ⟨args, ha⟩ : ∃ l, l = V.args := ⟨_, rfl⟩
  rw [← ha] at hA hA2 HBG hl4 ⊢
  have HA := Lib.hid hA
  have HA2 := Lib.hid hA2
  have dq : decide (131072 < q) = false := decide_eq_false (by omega)
  have BX := Lib.hid (two_box (w := w) (.cells #[.int .i64 V.k, .string V.nm, .int .i64 V.vr, .slice A args.length c] 24) (.cells #[.int .i64 V.k, .string V.nm, .int .i64 V.vr, .slice A2 args.length c2] 24))
  have HB : Hid (Below w.heap.size w ((w.alloc (.cells #[.int .i64 V.k, .string V.nm, .int .i64 V.vr, .slice A args.length c] 24)).alloc (.cells #[.int .i64 V.k, .string V.nm, .int .i64 V.vr, .slice A2 args.length c2] 24))) := Lib.hid (bt (below_alloc w _) (below_alloc _ _))
  have hz : ((w.alloc (.cells #[.int .i64 V.k, .string V.nm, .int .i64 V.vr, .slice A args.length c] 24)).alloc (.cells #[.int .i64 V.k, .string V.nm, .int .i64 V.vr, .slice A2 args.length c2] 24)).heap.size = w.heap.size + 2 := by simp
  have HZ := Lib.hid hz
  clear ih hbg b3 ha hA hA2 hz
  go_enter Tryz.func73, Tryz.ntmps73
  go_wp2
  go_loopw [43] (fun i wr => ∃ k : Nat, k ≤ args.length ∧ i = .int .i64 k ∧ Hid (Below w.heap.size w wr) ∧ Hid (w.heap.size + 2 ≤ wr.heap.size ∧ wr.heap[w.heap.size]? = some (.cells #[.int .i64 V.k, .string V.nm, .int .i64 V.vr, .slice A args.length c] 24 (0, 0)) ∧ wr.heap[w.heap.size + 1]? = some (.cells #[.int .i64 V.k, .string V.nm, .int .i64 V.vr, .slice A2 args.length c2] 24 (0, 0)))) (fun i _ => args.length - (intOf i).toNat)
  case atStart => exact ⟨0, by omega, rfl, HB, Lib.hid ⟨by rw [HZ.out]; exact Nat.le_refl _, BX.out.1, BX.out.2⟩⟩
  case round =>
    obtain ⟨k, hk, rfl, HW, HX⟩ := hrel
    by_cases hlt : k < args.length
    · have hlti : (k : Int) < (args.length : Int) := by omega
      obtain ⟨b, o, rfl, hb, hr⟩ := HA.out.at (by omega)
      obtain ⟨b2, o2, rfl, hb2, hr2⟩ := HA2.out.at (by omega)
      obtain ⟨A', c', x0, x1, x2, x3, hin⟩ := hr wr HW.out k hlt
      obtain ⟨A2', c2', y0, y1, y2, y3, hin2⟩ := hr2 wr HW.out k hlt
      have z0 := (cell4 HX.out.2.1).2.2.2
      have z1 := (cell4 HX.out.2.2).2.2.2
      have hbl : b < wr.heap.size := Nat.lt_of_lt_of_le hb HW.out.size
      have hbl2 : b2 < wr.heap.size := Nat.lt_of_lt_of_le hb2 HW.out.size
      have wq : IntKind.i64.wrap (q + 1) = q + 1 := IntWalk.i64_in _ (by omega)
      have CALL : Hid (∀ W, Below wr.heap.size wr W → Calls Tryz.prog 73 #[.agg #[.int .i64 args[k].k, .string args[k].nm, .int .i64 args[k].vr, .slice A' args[k].args.length c'], .agg #[.int .i64 args[k].k, .string args[k].nm, .int .i64 args[k].vr, .slice A2' args[k].args.length c2'], .int .i64 (q + 1)] W fun e w' => e = .returned (.bool true) ∧ Below W.heap.size W w') := Lib.hid (fun W hW => HI.out args[k] _ _ (q + 1) W (HBG.out _ (List.getElem_mem hlt)) (by omega) (by omega) (hin.later hW) (hin2.later hW))
      clear hr hr2 hin hin2 HI
      go_wp2_with fail
      refine wp_region_held_drew (S := fun w' => w'.cell? ⟨w.heap.size, 3, none⟩ = some (.slice (some ⟨b, o, none⟩) args.length c) ∧ w'.cell? ⟨w.heap.size + 1, 3, none⟩ = some (.slice (some ⟨b2, o2, none⟩) args.length c2) ∧ w'.cell? ⟨b, o + k * 4, none⟩ = some (.int .i64 args[k].k) ∧ w'.cell? ⟨b, o + k * 4 + 1, none⟩ = some (.string args[k].nm) ∧ w'.cell? ⟨b, o + k * 4 + 2, none⟩ = some (.int .i64 args[k].vr) ∧ w'.cell? ⟨b, o + k * 4 + 3, none⟩ = some (.slice A' args[k].args.length c') ∧ w'.cell? ⟨b2, o2 + k * 4, none⟩ = some (.int .i64 args[k].k) ∧ w'.cell? ⟨b2, o2 + k * 4 + 1, none⟩ = some (.string args[k].nm) ∧ w'.cell? ⟨b2, o2 + k * 4 + 2, none⟩ = some (.int .i64 args[k].vr) ∧ w'.cell? ⟨b2, o2 + k * 4 + 3, none⟩ = some (.slice A2' args[k].args.length c2')) (by kernel_rfl) ?_ (fun hHeld => ?_)
      · exact ⟨z0, z1, x0, x1, x2, x3, y0, y1, y2, y3⟩
      refine WHt 0 ⟨some 46, .fieldAddr 24 (.tmp 3) 3, 0, _, #[], none⟩ (v := ?va0) rfl (by kernel_rfl) (fun _ _ _ h => h) (Or.inl ⟨by rfl, ?hya0⟩) (by assumption) ?_
      case hya0 => (intro wz hSw; (try dsimp only at hSw); go_simp; try with_reducible rfl)
      (try simp only [putz])
      refine WHt 1 ⟨some 47, .load 22 (.tmp 46), 22, _, #[⟨0, .data⟩], none⟩ (v := ?va1) rfl (by kernel_rfl) (fun _ _ _ h => h) (Or.inl ⟨by rfl, ?hya1⟩) (by assumption) ?_
      case hya1 => (intro wz hSw; (try dsimp only at hSw); go_simp; try with_reducible rfl)
      (try simp only [putz])
      refine WHt 2 ⟨some 48, .move (.tmp 7), 3, _, #[], none⟩ (v := ?va2) rfl (by kernel_rfl) (fun _ _ _ h => h) (Or.inl ⟨by rfl, ?hya2⟩) (by assumption) ?_
      case hya2 => (intro wz hSw; (try dsimp only at hSw); go_simp; try with_reducible rfl)
      (try simp only [putz])
      refine WHt 3 ⟨some 49, .indexAddr 22 (.tmp 47) (.tmp 48), 0, _, #[⟨1, .data⟩, ⟨2, .data⟩], none⟩ (v := ?va3) rfl (by kernel_rfl) (fun _ _ _ h => h) (Or.inl ⟨by rfl, ?hya3⟩) (by assumption) ?_
      case hya3 => (intro wz hSw; (try dsimp only at hSw); go_simp; try with_reducible rfl)
      (try simp only [putz])
      refine WHt 4 ⟨some 50, .load 24 (.tmp 49), 24, _, #[⟨3, .data⟩], none⟩ (v := ?va4) rfl (by kernel_rfl) (fun _ _ _ h => h) (Or.inl ⟨by rfl, ?hya4⟩) (by assumption) ?_
      case hya4 => (intro wz hSw; (try dsimp only at hSw); go_simp; try with_reducible rfl)
      (try simp only [putz])
      refine WHt 5 ⟨some 51, .fieldAddr 24 (.tmp 4) 3, 0, _, #[], none⟩ (v := ?va5) rfl (by kernel_rfl) (fun _ _ _ h => h) (Or.inl ⟨by rfl, ?hya5⟩) (by assumption) ?_
      case hya5 => (intro wz hSw; (try dsimp only at hSw); go_simp; try with_reducible rfl)
      (try simp only [putz])
      refine WHt 6 ⟨some 52, .load 22 (.tmp 51), 22, _, #[⟨5, .data⟩], none⟩ (v := ?va6) rfl (by kernel_rfl) (fun _ _ _ h => h) (Or.inl ⟨by rfl, ?hya6⟩) (by assumption) ?_
      case hya6 => (intro wz hSw; (try dsimp only at hSw); go_simp; try with_reducible rfl)
      (try simp only [putz])
      refine WHt 7 ⟨some 53, .move (.tmp 7), 3, _, #[], none⟩ (v := ?va7) rfl (by kernel_rfl) (fun _ _ _ h => h) (Or.inl ⟨by rfl, ?hya7⟩) (by assumption) ?_
      case hya7 => (intro wz hSw; (try dsimp only at hSw); go_simp; try with_reducible rfl)
      (try simp only [putz])
      refine WHt 8 ⟨some 54, .indexAddr 22 (.tmp 52) (.tmp 53), 0, _, #[⟨6, .data⟩, ⟨7, .data⟩], none⟩ (v := ?va8) rfl (by kernel_rfl) (fun _ _ _ h => h) (Or.inl ⟨by rfl, ?hya8⟩) (by assumption) ?_
      case hya8 => (intro wz hSw; (try dsimp only at hSw); go_simp; try with_reducible rfl)
      (try simp only [putz])
      refine WHt 9 ⟨some 55, .load 24 (.tmp 54), 24, _, #[⟨8, .data⟩], none⟩ (v := ?va9) rfl (by kernel_rfl) (fun _ _ _ h => h) (Or.inl ⟨by rfl, ?hya9⟩) (by assumption) ?_
      case hya9 => (intro wz hSw; (try dsimp only at hSw); go_simp; try with_reducible rfl)
      (try simp only [putz])
      refine WHt 10 ⟨some 56, .move (.tmp 2), 3, _, #[], none⟩ (v := ?va10) rfl (by kernel_rfl) (fun _ _ _ h => h) (Or.inl ⟨by rfl, ?hya10⟩) (by assumption) ?_
      case hya10 => (intro wz hSw; (try dsimp only at hSw); go_simp; try with_reducible rfl)
      (try simp only [putz])
      refine WHt 11 ⟨some 57, .binOp .add 3 (.tmp 56) (.const (.int .i64 1)) 3, 3, _, #[⟨10, .data⟩], none⟩ (v := ?va11) rfl (by kernel_rfl) (fun _ _ _ h => h) (Or.inl ⟨by rfl, ?hya11⟩) (by assumption) ?_
      case hya11 => (intro wz hSw; (try dsimp only at hSw); go_simp; try with_reducible rfl)
      (try simp only [putz])
      refine wpAnyH_ready (rs := [12]) (by kernel_rfl) (by simp) ?_
      refine AllReadyH.cons (o := ⟨some 58, .call { callee := .value (.func 73), args := #[.tmp 50, .tmp 55, .tmp 57], argTypes := #[24, 24, 3] }, 4, _, #[⟨4, .data⟩, ⟨9, .data⟩, ⟨11, .data⟩], none⟩) rfl (fun K hK => ?_) AllReadyH.nil
      go_simp
      refine (CALL.out _ (bdr wr)).mono ?_; rintro e w1 ⟨rfl, hb1⟩
      have hb1' := bt (bdr wr) hb1
      go_wp2_with fail
      refine hK.out _ _ ?_ (fun hHeld => ?_)
      · exact ⟨(hb1'.cell (p := ⟨w.heap.size, 3, none⟩) (by have := HX.out.1; show w.heap.size < _; omega)).trans z0, (hb1'.cell (p := ⟨w.heap.size + 1, 3, none⟩) (by have := HX.out.1; show w.heap.size + 1 < _; omega)).trans z1, (hb1'.cell (p := ⟨b, _, none⟩) hbl).trans x0, (hb1'.cell (p := ⟨b, _, none⟩) hbl).trans x1, (hb1'.cell (p := ⟨b, _, none⟩) hbl).trans x2, (hb1'.cell (p := ⟨b, _, none⟩) hbl).trans x3, (hb1'.cell (p := ⟨b2, _, none⟩) hbl2).trans y0, (hb1'.cell (p := ⟨b2, _, none⟩) hbl2).trans y1, (hb1'.cell (p := ⟨b2, _, none⟩) hbl2).trans y2, (hb1'.cell (p := ⟨b2, _, none⟩) hbl2).trans y3⟩
      clear hK K
      (try simp only [putz])
      refine WHt 13 ⟨some 59, .unOp .not 4 (.tmp 58), 4, _, #[⟨12, .data⟩], none⟩ (v := ?va13) rfl (by kernel_rfl) (fun _ _ _ h => h) (Or.inl ⟨by rfl, ?hya13⟩) (by assumption) ?_
      case hya13 => (intro wz hSw; (try dsimp only at hSw); go_simp; try with_reducible rfl)
      (try simp only [putz])
      refine wpAnyH_done (by kernel_rfl) ?_ _
      have HW1 := Lib.hid (bt HW.out hb1')
      have HX1 := Lib.hid (And.intro (Nat.le_trans HX.out.1 hb1'.size) (And.intro ((hb1'.block w.heap.size (by have := HX.out.1; omega)).trans HX.out.2.1) ((hb1'.block (w.heap.size + 1) (by have := HX.out.1; omega)).trans HX.out.2.2)))
      clear hb1 hb1' CALL x0 x1 x2 x3 y0 y1 y2 y3 z0 z1 wq hHeld
      go_wp2
      go_roundw
      case rel => exact ⟨k + 1, by omega, by go_num, HW1, HX1⟩
      case measure => simp [intOf]; omega
    · have hge : ¬ (k : Int) < (args.length : Int) := by omega
      go_wp2
      go_ret
      exact ⟨rfl, HW.out⟩
set_option maxRecDepth 100000 in
set_option maxHeartbeats 1000000 in
theorem Same_self {d : Nat} {V : TT} {v u : Value} {w : World} (hd : d ≤ 500) (hbg : bigT d V = false) (h : TIn w any0 V v) (h2 : TIn w any0 V u) : Calls Tryz.prog 58 #[v, u] w fun e w' => e = .returned (.bool true) ∧ Below w.heap.size w w' := by
  have SM := Lib.hid (fun W (hW : Below w.heap.size w W) => same_self d V v u 0 W hbg (by omega) (by omega) (h.later hW) (h2.later hW))
  obtain ⟨A, c, rfl, -⟩ := h
  obtain ⟨A2, c2, rfl, -⟩ := h2
  unfold tv at SM ⊢
  have HB := Lib.hid (bt (below_alloc w (.cells #[.int .i64 V.k, .string V.nm, .int .i64 V.vr, .slice A V.args.length c] 24)) (below_alloc _ (.cells #[.int .i64 V.k, .string V.nm, .int .i64 V.vr, .slice A2 V.args.length c2] 24)))
  clear hbg
  go_enter Tryz.func58, Tryz.ntmps58
  go_wp2_with fail
  refine (SM.out _ HB.out).mono ?_; rintro e w1 ⟨rfl, hb1⟩
  have B1 := Lib.hid (bt HB.out hb1)
  clear hb1 SM
  go_wp2
  go_ret
  exact ⟨rfl, B1.out⟩
end Go.Proofs.YtifopogkbjhkjaaGreatDoor
