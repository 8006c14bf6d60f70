import Derived.Test.YtdkfimejabanlaaDoorRx
namespace Go.Proofs.YtdkfimejabanlaaDoor
open DR
open Go.ChangeShapes Go.WideShapes Go.ChangeAt Go.RowKit Go.WideMaps
set_option linter.unusedVariables false
set_option linter.unusedSimpArgs false
theorem posV_at : ∀ {p : List Int} {x : Int} {r : List Int} {k : Nat}, x ∉ p → p.length = k → posV (p ++ (x :: r)) x = k
  | [], x, r, k, _, h => by subst h; simp [posV]
  | a :: p, x, r, k, hn, h => by
    have h1 : ¬ a = x := fun e => hn (by simp [e])
    have h2 : x ∉ p := fun e => hn (List.mem_cons_of_mem _ e)
    simp only [List.cons_append, posV, if_neg h1]
    rw [posV_at h2 rfl]
    simpa using h
set_option maxRecDepth 100000 in
set_option maxHeartbeats 16000000 in
theorem rshow_any : ∀ (d : Nat) (V : TT) (v : Value) (l L : List Int) (Al : Option Addr) (ca : Nat) (w : World), d ≤ 7 → bigT d V = false → shp V = true → (∀ x ∈ varsT V l, x ∈ L) → L.length ≤ 99 → TIn w any0 V v → IRow w Al L →
    Calls Tryd.prog 44 #[v, .slice Al L.length ca] w fun e w' => e = .returned (.string (rtxt L V)) ∧ Below w.heap.size w w' := by
  intro d
  induction d with
  | zero => intro V v l L Al ca w _ h; cases h
  | succ d ih =>
  intro V v l L Al ca w hd hbg hsh hin hL ⟨A, c, hv, hA⟩ hir
  obtain ⟨hl4, hl60, b3⟩ := bigT_parts hbg
  have hp7 : (3 : Nat) ^ d ≤ 729 := Nat.le_trans (Nat.pow_le_pow_right (by omega) (show d ≤ 6 by omega)) (by decide)
  have hbg7 : ∀ {W : TT}, bigT d W = false → True := fun _ => trivial
  subst hv
  have hs := hsh
  rw [shp_eq, Bool.and_eq_true] at hs
  have hhl := head_len hsh
  have HRE := Lib.hid (rtxt_eq L V)
  have h5a := fun h5 => argsTwo (V := V) hsh h5
  have h6a := fun h6 => argsOne (V := V) hsh h6
  have h7a := fun h7 => (shp_var (V := V) hsh h7).1
  have HVE := Lib.hid (varsT_eq V l)
  have HI : Hid (∀ (V : TT) (v : Value) (l L : List Int) (Al : Option Addr) (ca : Nat) (w : World), bigT d V = false → shp V = true → (∀ x ∈ varsT V l, x ∈ L) → L.length ≤ 99 → TIn w any0 V v → IRow w Al L → Calls Tryd.prog 44 #[v, .slice Al L.length ca] w fun e w' => e = .returned (.string (rtxt L V)) ∧ Below w.heap.size w w') := Lib.hid (fun V v l L Al ca w => ih V v l L Al ca w (by omega))
  have HIN := Lib.hid hin
  have HIR := Lib.hid hir
  unfold tv
  obtain ⟨args, ha⟩ : ∃ x, x = V.args := ⟨_, rfl⟩
  obtain ⟨nm, hn⟩ : ∃ x, x = V.nm := ⟨_, rfl⟩
  obtain ⟨k0, hk0⟩ : ∃ x, x = V.k := ⟨_, rfl⟩
  obtain ⟨vr, hvr⟩ : ∃ x, x = V.vr := ⟨_, rfl⟩
  rw [← ha] at hA b3 HRE h5a h6a h7a hhl HVE ⊢
  rw [← hn] at HRE ⊢
  rw [← hk0] at HRE h5a h6a h7a hhl HVE ⊢
  rw [← hvr] at HRE HVE ⊢
  have hs2 : shpL args = true := by rw [ha]; exact hs.2
  obtain ⟨N, hN⟩ : ∃ n, n = args.length := ⟨_, rfl⟩
  rw [← hN] at ⊢
  have HN := Lib.hid hN
  clear hN
  obtain ⟨ans, hans⟩ : ∃ b, b = rtxt L V := ⟨_, rfl⟩
  rw [← hans] at HRE ⊢
  obtain ⟨NL, hNL⟩ : ∃ n, n = L.length := ⟨_, rfl⟩
  have HNL := Lib.hid hNL
  rw [← hNL] at hL ⊢
  have HL99 := Lib.hid (show L.length ≤ 99 by rw [← HNL.out]; exact hL)
  have HA := Lib.hid hA
  obtain ⟨wA, hwA⟩ : ∃ z, z = w.alloc (.cells #[.int .i64 k0, .string nm, .int .i64 vr, .slice A N c] 44) := ⟨_, rfl⟩
  have BA := Lib.hid (show Below w.heap.size w wA by rw [hwA]; exact below_alloc w _)
  have HX := Lib.hid (show wA.heap[w.heap.size]? = some (.cells #[.int .i64 k0, .string nm, .int .i64 vr, .slice A N c] 44 (0, 0)) by rw [hwA]; exact heap_alloc_new w _)
  have HZ := Lib.hid (show w.heap.size < wA.heap.size by rw [hwA]; simp)
  have HWA := Lib.hid hwA
  have IRA := Lib.hid (HIR.out.later BA.out)
  obtain ⟨x0, x1, x2, x3⟩ := cells4 HX.out
  have hcs : k0 = 1 ∨ k0 = 2 ∨ k0 = 3 ∨ k0 = 4 ∨ k0 = 5 ∨ k0 = 6 ∨ k0 = 7 := by omega
  clear ih hbg hsh hin ha hn hk0 hvr hans hNL hA hwA hir hs hbg7 hhl
  rcases hcs with rfl | rfl | rfl | rfl | rfl | rfl | rfl
  · have RES := Lib.hid (show ans = ⟨#[105, 110, 116]⟩ from HRE.out.trans (by rfl))
    clear HRE h5a h6a h7a HVE
    go_enter Tryd.func44, Tryd.ntmps44
    go_wp2
    go_ret
    exact ⟨by rw [RES.out]; rfl, by first | exact BA.out | exact below_alloc _ _⟩
  · have RES := Lib.hid (show ans = ⟨#[98, 111, 111, 108]⟩ from HRE.out.trans (by rfl))
    clear HRE h5a h6a h7a HVE
    go_enter Tryd.func44, Tryd.ntmps44
    go_wp2
    go_ret
    exact ⟨by rw [RES.out]; rfl, by first | exact BA.out | exact below_alloc _ _⟩
  · have RES := Lib.hid (show ans = ⟨#[117, 110, 105, 116]⟩ from HRE.out.trans (by rfl))
    clear HRE h5a h6a h7a HVE
    go_enter Tryd.func44, Tryd.ntmps44
    go_wp2
    go_ret
    exact ⟨by rw [RES.out]; rfl, by first | exact BA.out | exact below_alloc _ _⟩
  · have RES := Lib.hid (show ans = nm from HRE.out.trans (by rfl))
    clear HRE h5a h6a h7a HVE
    go_enter Tryd.func44, Tryd.ntmps44
    go_wp2
    go_ret
    exact ⟨by rw [RES.out]; rfl, by first | exact BA.out | exact below_alloc _ _⟩
  · obtain ⟨a, b9, rfl⟩ := h5a rfl
    obtain rfl : N = 2 := HN.out
    have hbd := b3 a (by simp)
    have hbd2 := b3 b9 (by simp)
    rw [shpL, shpL, Bool.and_eq_true, Bool.and_eq_true] at hs2
    have hv5 : varsT V l = varsT b9 (varsT a l) := by rw [HVE.out, if_neg (by omega), varsL, varsL, varsL]
    have hina : ∀ x ∈ varsT a l, x ∈ L := fun x hx => HIN.out x (by rw [hv5]; exact varsT_sub b9 _ x hx)
    have hinb : ∀ x ∈ varsT b9 (varsT a l), x ∈ L := fun x hx => HIN.out x (by rw [hv5]; exact hx)
    have za := rtxt_size HL99.out d a l hbd hs2.1 hina
    have zb := rtxt_size HL99.out d b9 _ hbd2 hs2.2.1 hinb
    obtain ⟨b, o, rfl, hb, hr⟩ := HA.out.at (by simp)
    obtain ⟨A0, c0, y0, y1, y2, y3, hi0⟩ := hr _ BA.out 0 (by simp)
    obtain ⟨A1, c1, z0, z1, z2, z3, hi1⟩ := hr _ BA.out 1 (by simp)
    simp only [List.getElem_cons_zero, List.getElem_cons_succ, Nat.zero_mul, Nat.add_zero, Nat.one_mul] at y0 y1 y2 y3 hi0 z0 z1 z2 z3 hi1
    have hbl : b < wA.heap.size := Nat.lt_of_lt_of_le hb BA.out.size
    have CA := Lib.hid (fun W (hW : Below wA.heap.size wA W) => HI.out a _ l L Al ca W hbd hs2.1 hina HL99.out (hi0.later hW) (IRA.out.later hW))
    have CB := Lib.hid (fun W (hW : Below wA.heap.size wA W) => HI.out b9 _ (varsT a l) L Al ca W hbd2 hs2.2.1 hinb HL99.out (hi1.later hW) (IRA.out.later hW))
    have hres : ans = comb5 [rtxt L a, rtxt L b9] := HRE.out.trans (by rfl)
    obtain ⟨sa, hsa⟩ : ∃ s, s = rtxt L a := ⟨_, rfl⟩
    obtain ⟨sb, hsb⟩ : ∃ s, s = rtxt L b9 := ⟨_, rfl⟩
    rw [← hsa] at za CA hres
    rw [← hsb] at zb CB hres
    rw [← HNL.out] at CA CB
    obtain ⟨t1, ht1⟩ : ∃ t : ByteArray, t = ⟨#[40]⟩ ++ sa := ⟨_, rfl⟩
    obtain ⟨t2, ht2⟩ : ∃ t : ByteArray, t = t1 ++ ⟨#[32, 45, 62, 32]⟩ := ⟨_, rfl⟩
    obtain ⟨t3, ht3⟩ : ∃ t : ByteArray, t = t2 ++ sb := ⟨_, rfl⟩
    obtain ⟨t4, ht4⟩ : ∃ t : ByteArray, t = t3 ++ ⟨#[41]⟩ := ⟨_, rfl⟩
    have RES := Lib.hid (show ans = t4 by rw [hres, ht4, ht3, ht2, ht1]; rfl)
    have s1 : t1.size ≤ 100000 := by rw [ht1, ByteArray.size_append]; show 1 + sa.size ≤ _; omega
    have s2 : t2.size ≤ 100004 := by rw [ht2, ByteArray.size_append]; show t1.size + 4 ≤ _; omega
    have s3 : t3.size ≤ 300004 := by rw [ht3, ByteArray.size_append]; omega
    have ad1 := add_str ht1.symm (by show 1 ≤ _; omega) (by omega)
    have ad2 := add_str ht2.symm (by omega) (by show 4 ≤ _; omega)
    have ad3 := add_str ht3.symm (by omega) (by omega)
    have ad4 := add_str ht4.symm (by omega) (by show 1 ≤ _; omega)
    unfold tv at CA CB
    clear HRE h5a h6a h7a HVE hr hb hi0 hi1 hbd hbd2 hs2 hv5 hina hinb za zb hres hsa hsb ht1 ht2 ht3 ht4 s1 s2 s3 HI b3
    go_enter Tryd.func44, Tryd.ntmps44
    go_wp2_with fail
    rw [← HWA.out]
    try go_wp2_with fail
    refine wp_region_D [13] (fun w' => Below wA.heap.size wA w') (by kernel_rfl) (bdr wA) (fun hHeld => ?_)
    refine WD_take (i := 0) (oi := { dst := some 24, op := Go.Op.fieldAddr 44 (Go.Operand.tmp 2) 3, type := 0, pos := _, after := #[], guard := none }) (v := ?va0) rfl (by kernel_rfl) (by kernel_rfl) (by kernel_rfl) (by kernel_rfl) (fun _ _ _ h => h) (Or.inl ⟨by rfl, ?hya0⟩) hHeld ?_
    case hya0 => (intro wz hSw; (try dsimp only at hSw); go_simp; try with_reducible rfl)
    (try simp only [Act.put, List.setIfInBounds_toArray, List.set_cons_zero, List.set_cons_succ])
    refine WD_take (i := 1) (oi := { dst := some 25, op := Go.Op.load 42 (Go.Operand.tmp 24), type := 42, pos := _, after := #[{ on := 0, ground := Go.Ground.data }], guard := none }) (v := ?va1) rfl (by kernel_rfl) (by kernel_rfl) (by kernel_rfl) (by kernel_rfl) (fun _ _ _ h => h) (Or.inl ⟨by rfl, ?hya1⟩) hHeld ?_
    case hya1 => (intro wz hSw; (try dsimp only at hSw); have q0 := (hSw.cell (p := ⟨w.heap.size, 3, none⟩) (by have := HZ.out; show w.heap.size < _; omega)).trans x3; go_simp; try with_reducible rfl)
    (try simp only [Act.put, List.setIfInBounds_toArray, List.set_cons_zero, List.set_cons_succ])
    refine WD_take (i := 2) (oi := { dst := some 26, op := Go.Op.indexAddr 42 (Go.Operand.tmp 25) (Go.Operand.const (Go.Value.int Go.IntKind.i64 0)), type := 0, pos := _, after := #[{ on := 1, ground := Go.Ground.data }], guard := none }) (v := ?va2) rfl (by kernel_rfl) (by kernel_rfl) (by kernel_rfl) (by kernel_rfl) (fun _ _ _ h => h) (Or.inl ⟨by rfl, ?hya2⟩) hHeld ?_
    case hya2 => (intro wz hSw; (try dsimp only at hSw); go_simp; try with_reducible rfl)
    (try simp only [Act.put, List.setIfInBounds_toArray, List.set_cons_zero, List.set_cons_succ])
    refine WD_take (i := 3) (oi := { dst := some 27, op := Go.Op.load 44 (Go.Operand.tmp 26), type := 44, pos := _, after := #[{ on := 2, ground := Go.Ground.data }], guard := none }) (v := ?va3) rfl (by kernel_rfl) (by kernel_rfl) (by kernel_rfl) (by kernel_rfl) (fun _ _ _ h => h) (Or.inl ⟨by rfl, ?hya3⟩) hHeld ?_
    case hya3 => (intro wz hSw; (try dsimp only at hSw); have q0 := (hSw.cell (p := ⟨b, _, none⟩) hbl).trans y0; have q1 := (hSw.cell (p := ⟨b, _, none⟩) hbl).trans y1; have q2 := (hSw.cell (p := ⟨b, _, none⟩) hbl).trans y2; have q3 := (hSw.cell (p := ⟨b, _, none⟩) hbl).trans y3; go_simp; try with_reducible rfl)
    (try simp only [Act.put, List.setIfInBounds_toArray, List.set_cons_zero, List.set_cons_succ])
    refine WD_take (i := 4) (oi := { dst := some 28, op := Go.Op.move (Go.Operand.tmp 1), type := 38, pos := _, after := #[], guard := none }) (v := ?va4) rfl (by kernel_rfl) (by kernel_rfl) (by kernel_rfl) (by kernel_rfl) (fun _ _ _ h => h) (Or.inl ⟨by rfl, ?hya4⟩) hHeld ?_
    case hya4 => (intro wz hSw; (try dsimp only at hSw); go_simp; try with_reducible rfl)
    (try simp only [Act.put, List.setIfInBounds_toArray, List.set_cons_zero, List.set_cons_succ])
    refine WD_take (i := 8) (oi := { dst := some 32, op := Go.Op.fieldAddr 44 (Go.Operand.tmp 2) 3, type := 0, pos := _, after := #[], guard := none }) (v := ?va8) rfl (by kernel_rfl) (by kernel_rfl) (by kernel_rfl) (by kernel_rfl) (fun _ _ _ h => h) (Or.inl ⟨by rfl, ?hya8⟩) hHeld ?_
    case hya8 => (intro wz hSw; (try dsimp only at hSw); go_simp; try with_reducible rfl)
    (try simp only [Act.put, List.setIfInBounds_toArray, List.set_cons_zero, List.set_cons_succ])
    refine WD_take (i := 9) (oi := { dst := some 33, op := Go.Op.load 42 (Go.Operand.tmp 32), type := 42, pos := _, after := #[{ on := 8, ground := Go.Ground.data }], guard := none }) (v := ?va9) rfl (by kernel_rfl) (by kernel_rfl) (by kernel_rfl) (by kernel_rfl) (fun _ _ _ h => h) (Or.inl ⟨by rfl, ?hya9⟩) hHeld ?_
    case hya9 => (intro wz hSw; (try dsimp only at hSw); have q0 := (hSw.cell (p := ⟨w.heap.size, 3, none⟩) (by have := HZ.out; show w.heap.size < _; omega)).trans x3; go_simp; try with_reducible rfl)
    (try simp only [Act.put, List.setIfInBounds_toArray, List.set_cons_zero, List.set_cons_succ])
    refine WD_take (i := 10) (oi := { dst := some 34, op := Go.Op.indexAddr 42 (Go.Operand.tmp 33) (Go.Operand.const (Go.Value.int Go.IntKind.i64 1)), type := 0, pos := _, after := #[{ on := 9, ground := Go.Ground.data }], guard := none }) (v := ?va10) rfl (by kernel_rfl) (by kernel_rfl) (by kernel_rfl) (by kernel_rfl) (fun _ _ _ h => h) (Or.inl ⟨by rfl, ?hya10⟩) hHeld ?_
    case hya10 => (intro wz hSw; (try dsimp only at hSw); go_simp; try with_reducible rfl)
    (try simp only [Act.put, List.setIfInBounds_toArray, List.set_cons_zero, List.set_cons_succ])
    refine WD_take (i := 11) (oi := { dst := some 35, op := Go.Op.load 44 (Go.Operand.tmp 34), type := 44, pos := _, after := #[{ on := 10, ground := Go.Ground.data }], guard := none }) (v := ?va11) rfl (by kernel_rfl) (by kernel_rfl) (by kernel_rfl) (by kernel_rfl) (fun _ _ _ h => h) (Or.inl ⟨by rfl, ?hya11⟩) hHeld ?_
    case hya11 => (intro wz hSw; (try dsimp only at hSw); have q0 := (hSw.cell (p := ⟨b, _, none⟩) hbl).trans z0; have q1 := (hSw.cell (p := ⟨b, _, none⟩) hbl).trans z1; have q2 := (hSw.cell (p := ⟨b, _, none⟩) hbl).trans z2; have q3 := (hSw.cell (p := ⟨b, _, none⟩) hbl).trans z3; go_simp; try with_reducible rfl)
    (try simp only [Act.put, List.setIfInBounds_toArray, List.set_cons_zero, List.set_cons_succ])
    refine WD_take (i := 12) (oi := { dst := some 36, op := Go.Op.move (Go.Operand.tmp 1), type := 38, pos := _, after := #[], guard := none }) (v := ?va12) rfl (by kernel_rfl) (by kernel_rfl) (by kernel_rfl) (by kernel_rfl) (fun _ _ _ h => h) (Or.inl ⟨by rfl, ?hya12⟩) hHeld ?_
    case hya12 => (intro wz hSw; (try dsimp only at hSw); go_simp; try with_reducible rfl)
    (try simp only [Act.put, List.setIfInBounds_toArray, List.set_cons_zero, List.set_cons_succ])
    refine WD_ready (rs := [5]) (by kernel_rfl) (by simp) ?_
    refine AllD.cons (o := _) rfl (fun K hK => ?_) AllD.nil
    rw [if_pos (by rfl)]
    go_simp
    refine (CA.out _ hHeld).mono ?_; rintro e w5 ⟨rfl, b5⟩
    try go_wp2_with fail
    refine hK.out _ _ (bt hHeld b5) (fun hHeld => ?_)
    clear hK K
    (try simp only [Act.put, List.setIfInBounds_toArray, List.set_cons_zero, List.set_cons_succ])
    clear b5
    refine WD_take0 (i := 6) (oi := { dst := some 30, op := Go.Op.binOp Go.BinOp.add 9 (Go.Operand.const (Go.Value.string { data := #[40] })) (Go.Operand.tmp 29) 9, type := 9, pos := _, after := #[{ on := 5, ground := Go.Ground.data }], guard := none }) (v := ?va6) rfl (by kernel_rfl) (by kernel_rfl) (by kernel_rfl) (by kernel_rfl) (fun _ _ _ h => h) (Or.inl ⟨by rfl, ?hya6⟩) hHeld ?_
    case hya6 => (intro wz _; go_simp; try with_reducible rfl)
    (try simp only [Act.put, List.setIfInBounds_toArray, List.set_cons_zero, List.set_cons_succ])
    refine WD_take0 (i := 7) (oi := { dst := some 31, op := Go.Op.binOp Go.BinOp.add 9 (Go.Operand.tmp 30) (Go.Operand.const (Go.Value.string { data := #[32, 45, 62, 32] })) 9, type := 9, pos := _, after := #[{ on := 6, ground := Go.Ground.data }], guard := none }) (v := ?va7) rfl (by kernel_rfl) (by kernel_rfl) (by kernel_rfl) (by kernel_rfl) (fun _ _ _ h => h) (Or.inl ⟨by rfl, ?hya7⟩) hHeld ?_
    case hya7 => (intro wz _; go_simp; try with_reducible rfl)
    (try simp only [Act.put, List.setIfInBounds_toArray, List.set_cons_zero, List.set_cons_succ])
    have H13 := Lib.hid hHeld
    clear hHeld
    refine WD_ready (rs := [13]) (by kernel_rfl) (by simp) ?_
    refine AllD.last (o := _) rfl (by kernel_rfl) (fun K hK => ?_) AllD.nil
    rw [if_pos (by rfl)]
    go_simp
    refine (CB.out _ H13.out).mono ?_; rintro e w6 ⟨rfl, b6⟩
    try go_wp2_with fail
    refine hK.out _ _ ?_
    clear hK K
    (try simp only [Act.put, List.setIfInBounds_toArray, List.set_cons_zero, List.set_cons_succ])
    refine WD_takeAny (i := 14) (oi := { dst := some 38, op := Go.Op.binOp Go.BinOp.add 9 (Go.Operand.tmp 31) (Go.Operand.tmp 37) 9, type := 9, pos := _, after := #[{ on := 7, ground := Go.Ground.data }, { on := 13, ground := Go.Ground.data }], guard := none }) (v := ?va14) rfl (by kernel_rfl) (by kernel_rfl) (by kernel_rfl) (by kernel_rfl) (fun _ _ _ h => h) (Or.inl ⟨by rfl, ?hya14⟩) ?_
    case hya14 => (intro wz _; go_simp; try with_reducible rfl)
    (try simp only [Act.put, List.setIfInBounds_toArray, List.set_cons_zero, List.set_cons_succ])
    refine WD_takeAny (i := 15) (oi := { dst := some 39, op := Go.Op.binOp Go.BinOp.add 9 (Go.Operand.tmp 38) (Go.Operand.const (Go.Value.string { data := #[41] })) 9, type := 9, pos := _, after := #[{ on := 14, ground := Go.Ground.data }], guard := none }) (v := ?va15) rfl (by kernel_rfl) (by kernel_rfl) (by kernel_rfl) (by kernel_rfl) (fun _ _ _ h => h) (Or.inl ⟨by rfl, ?hya15⟩) ?_
    case hya15 => (intro wz _; go_simp; try with_reducible rfl)
    (try simp only [Act.put, List.setIfInBounds_toArray, List.set_cons_zero, List.set_cons_succ])
    refine WD_takeAny (i := 16) (oi := { dst := some 4, op := Go.Op.assign (Go.Operand.tmp 39), type := 9, pos := _, after := #[{ on := 15, ground := Go.Ground.data }, { on := 13, ground := Go.Ground.chain }, { on := 0, ground := Go.Ground.phase }, { on := 1, ground := Go.Ground.phase }, { on := 2, ground := Go.Ground.phase }, { on := 3, ground := Go.Ground.phase }, { on := 4, ground := Go.Ground.phase }, { on := 5, ground := Go.Ground.phase }, { on := 6, ground := Go.Ground.phase }, { on := 7, ground := Go.Ground.phase }, { on := 8, ground := Go.Ground.phase }, { on := 9, ground := Go.Ground.phase }, { on := 10, ground := Go.Ground.phase }, { on := 11, ground := Go.Ground.phase }, { on := 12, ground := Go.Ground.phase }, { on := 13, ground := Go.Ground.phase }, { on := 14, ground := Go.Ground.phase }, { on := 15, ground := Go.Ground.phase }], guard := none }) (v := ?va16) rfl (by kernel_rfl) (by kernel_rfl) (by kernel_rfl) (by kernel_rfl) (fun _ _ _ h => h) (Or.inl ⟨by rfl, ?hya16⟩) ?_
    case hya16 => (intro wz _; go_simp; try with_reducible rfl)
    (try simp only [Act.put, List.setIfInBounds_toArray, List.set_cons_zero, List.set_cons_succ])
    refine WD_done (by kernel_rfl) ?_ _
    have FIN := Lib.hid (bt BA.out (bt H13.out b6))
    clear b6 H13
    go_wp2
    go_ret
    exact ⟨by rw [RES.out]; rfl, FIN.out⟩
  · obtain ⟨a, rfl⟩ := h6a rfl
    obtain rfl : N = 1 := HN.out
    have hbd := b3 a (by simp)
    rw [shpL, Bool.and_eq_true] at hs2
    have hv5 : varsT V l = varsT a l := by rw [HVE.out, if_neg (by omega), varsL, varsL]
    have hina : ∀ x ∈ varsT a l, x ∈ L := fun x hx => HIN.out x (by rw [hv5]; exact hx)
    have za := rtxt_size HL99.out d a l hbd hs2.1 hina
    obtain ⟨b, o, rfl, hb, hr⟩ := HA.out.at (by simp)
    obtain ⟨A0, c0, y0, y1, y2, y3, hi0⟩ := hr _ BA.out 0 (by simp)
    simp only [List.getElem_cons_zero, Nat.zero_mul, Nat.add_zero] at y0 y1 y2 y3 hi0
    have CA := Lib.hid (fun W (hW : Below wA.heap.size wA W) => HI.out a _ l L Al ca W hbd hs2.1 hina HL99.out (hi0.later hW) (IRA.out.later hW))
    have hres : ans = comb6 [rtxt L a] := HRE.out.trans (by rfl)
    obtain ⟨sa, hsa⟩ : ∃ s, s = rtxt L a := ⟨_, rfl⟩
    rw [← hsa] at za CA hres
    rw [← HNL.out] at CA
    obtain ⟨t1, ht1⟩ : ∃ t : ByteArray, t = ⟨#[40]⟩ ++ sa := ⟨_, rfl⟩
    obtain ⟨t2, ht2⟩ : ∃ t : ByteArray, t = t1 ++ ⟨#[32, 114, 101, 102, 41]⟩ := ⟨_, rfl⟩
    have RES := Lib.hid (show ans = t2 by rw [hres, ht2, ht1]; rfl)
    have s1 : t1.size ≤ 100000 := by rw [ht1, ByteArray.size_append]; show 1 + sa.size ≤ _; omega
    have ad1 := add_str ht1.symm (by show 1 ≤ _; omega) (by omega)
    have ad2 := add_str ht2.symm (by omega) (by show 5 ≤ _; omega)
    unfold tv at CA
    rw [HWA.out] at y0 y1 y2 y3
    clear HRE h5a h6a h7a HVE hr hb hi0 hbd hs2 hv5 hina za hres hsa ht1 ht2 s1 HI b3
    go_enter Tryd.func44, Tryd.ntmps44
    go_wp2_with fail
    rw [← HWA.out]
    try go_wp2_with fail
    refine (CA.out _ (Below.refl _ _)).mono ?_; rintro e w5 ⟨rfl, b5⟩
    have FIN := Lib.hid (bt BA.out b5)
    clear b5 CA
    go_wp2
    go_ret
    exact ⟨by rw [RES.out]; rfl, FIN.out⟩
  · have ha0 := h7a rfl
    have hmem : vr ∈ L := HIN.out vr (by rw [HVE.out, if_pos rfl]; exact varsL_sub _ _ _ addV_mem)
    have hres : ans = letT (posV L vr + 1) := HRE.out.trans (by rfl)
    have HMEM := Lib.hid hmem
    have HRES := Lib.hid hres
    have HPL := Lib.hid (posV_lt hmem)
    clear HRE h5a h6a h7a HVE hs2 HI b3 ha0 hmem hres
    go_enter Tryd.func44, Tryd.ntmps44
    go_wp2
    try rw [← HWA.out]
    go_loopw [5] (fun i wr => ∃ k : Nat, k ≤ NL ∧ i = .int .i64 k ∧ Hid (vr ∉ L.take k) ∧ Hid (Below wA.heap.size wA wr)) (fun i _ => NL - (intOf i).toNat)
    case atStart => exact ⟨0, by omega, by first | rfl | trivial, Lib.hid (by simp), Lib.hid (Below.refl _ _)⟩
    case round =>
      obtain ⟨k, hk, rfl, HT, HW⟩ := hrel
      by_cases hlt : k < NL
      · have hlti : (k : Int) < (NL : Int) := by omega
        have hlt' : k < L.length := by rw [← HNL.out]; exact hlt
        obtain ⟨b, o, rfl, hb, hr⟩ : ∃ b o, Al = some ⟨b, o, none⟩ ∧ b < _ ∧ ∀ j (h : j < L.length), wr.cell? ⟨b, o + j, none⟩ = some (.int .i64 L[j]) := (IRA.out.later HW.out).resolve_left (by rw [← HNL.out]; omega)
        have DRN := Lib.hid (fun n => bt HW.out (bdn wr n))
        have c1 := fun n => ((bdn wr n).cell (p := ⟨b, o + k, none⟩) hb).trans (hr k hlt')
        have d1 := fun n => ((DRN.out n).cell (p := ⟨w.heap.size, 2, none⟩) HZ.out).trans x2
        have HT2 := Lib.hid (show L[k] ≠ vr → vr ∉ L.take (k + 1) from fun h => notin_take hlt' HT.out h)
        have HPK := Lib.hid (show L[k] = vr → posV L vr = k from fun h => by
          have e1 : L = L.take k ++ (L[k] :: L.drop (k + 1)) := by rw [← List.drop_eq_getElem_cons hlt', List.take_append_drop]
          rw [e1, h]
          exact posV_at HT.out (by simp; omega))
        obtain ⟨x, hx⟩ : ∃ x, x = L[k] := ⟨_, rfl⟩
        rw [← hx] at c1 HT2 HPK
        have c0 := c1 0
        have d0 := d1 0
        clear hr hx hb
        by_cases hxv : x = vr
        · have qx : (x == vr) = true := by rw [hxv]; exact beq_self_eq_true vr
          have hpk := HPK.out hxv
          by_cases h26 : k < 26
          · have d26 : decide ((k : Int) < 26) = true := decide_eq_true (by omega)
            have d26n : decide (k < 26) = true := decide_eq_true h26
            have RES := Lib.hid (show ans = letT (k + 1) by rw [HRES.out, hpk])
            have w97 : IntKind.i64.wrap (97 + (k : Int)) = 97 + (k : Int) := IntWalk.i64_in _ (by omega)
            obtain ⟨PB, hPB⟩ : ∃ P : Nat, (97 : Int) + (k : Int) = P := ⟨97 + k, by omega⟩
            have hcat := letT_cat k h26
            have cv : ∀ nq : Nat, (convert 67 9 (.slice (some ⟨wr.heap.size, 0, none⟩) 1 1)).run Tryd.prog ((wr.drewN nq).alloc (.cells #[.int .u8 PB] 5)) = .ok (.string ⟨#[UInt8.ofNat (97 + k)]⟩) ((wr.drewN nq).alloc (.cells #[.int .u8 PB] 5)) := fun nq => conv_one (wr.drewN nq) PB _ (by rw [UInt8.toNat_ofNat']; omega)
            have hPB5 : PB ≤ 122 := by omega
            obtain ⟨bb, hbb⟩ : ∃ z : ByteArray, z = ⟨#[UInt8.ofNat (97 + k)]⟩ := ⟨_, rfl⟩
            obtain ⟨lt, hlt9⟩ : ∃ z : ByteArray, z = letT (k + 1) := ⟨_, rfl⟩
            rw [← hbb] at cv hcat
            rw [← hlt9] at hcat RES
            have ad1 := add_str hcat (by show 1 ≤ _; omega) (by rw [hbb]; show 1 ≤ _; omega)
            clear hbb hlt9 hcat hxv hpk HPK HT2 h26
            have BF := Lib.hid (bt BA.out HW.out)
            go_wp2
            go_quiet (fail)
            go_wp2
            go_ret
            exact ⟨by rw [RES.out]; rfl, bt BF.out (by first | exact below_alloc _ _ | exact bt (bdn _ _) (below_alloc _ _) | exact bt (bdr _) (below_alloc _ _))⟩
          · have d26 : decide ((k : Int) < 26) = false := decide_eq_false (by omega)
            have d26n : decide (k < 26) = false := decide_eq_false h26
            have RES := Lib.hid (show ans = letT (k + 1) by rw [HRES.out, hpk])
            have w1k : IntKind.i64.wrap ((k : Int) + 1) = (k : Int) + 1 := IntWalk.i64_in _ (by omega)
            have hcat := letT_dig k h26
            have CD := Lib.hid (fun W : World => rdig_small (w := W) (k + 1) (by have := HL99.out; omega))
            obtain ⟨bb, hbb⟩ : ∃ z : ByteArray, z = ⟨(Lib.decDigits (k + 1)).toArray⟩ := ⟨_, rfl⟩
            obtain ⟨lt, hlt9⟩ : ∃ z : ByteArray, z = letT (k + 1) := ⟨_, rfl⟩
            have hbs : bb.size ≤ 2 := by
              rw [hbb]
              show (Lib.decDigits (k + 1)).toArray.size ≤ 2
              by_cases h10 : k + 1 < 10
              · rw [Lib.decDigits_one h10]; simp
              · rw [Lib.decDigits_two (by omega) (by have := HL99.out; omega)]; simp
            rw [← hbb] at hcat CD
            rw [← hlt9] at hcat RES
            have ad1 := add_str hcat (by show 1 ≤ _; omega) (by omega)
            clear hbb hlt9 hcat hxv hpk HPK HT2 h26 hbs
            have BF := Lib.hid (bt BA.out HW.out)
            go_wp2
            go_quiet (fail)
            go_wp2_with fail
            refine (CD.out _).mono ?_; rintro e w6 ⟨rfl, b6⟩
            have B6 := Lib.hid (bt BF.out (by first | exact b6 | exact bt (bdn _ _) b6 | exact bt (bdr _) b6))
            clear b6 CD
            go_wp2
            go_ret
            exact ⟨by rw [RES.out]; rfl, B6.out⟩
        · have qx : (x == vr) = false := beq_eq_false_iff_ne.2 hxv
          have HT3 := Lib.hid (HT2.out hxv)
          clear hxv HPK HT2
          go_wp2
          go_quiet (fail)
          go_wp2
          go_roundw
          case rel => exact ⟨k + 1, by omega, by go_num, HT3, Lib.hid (by first | exact DRN.out _ | exact HW.out | exact bt HW.out (bdr _))⟩
          case measure => simp [intOf]; omega
      · exfalso
        have := HT.out
        rw [List.take_of_length_le (by rw [← HNL.out]; omega)] at this
        exact this HMEM.out
end Go.Proofs.YtdkfimejabanlaaDoor
