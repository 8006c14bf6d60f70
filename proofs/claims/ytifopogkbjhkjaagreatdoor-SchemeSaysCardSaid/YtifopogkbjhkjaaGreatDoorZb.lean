import Derived.Test.YtifopogkbjhkjaaGreatDoorYg
namespace Go.Proofs.YtifopogkbjhkjaaGreatDoor
open DR
open Go.ChangeShapes Go.WideShapes Go.ChangeAt Go.RowKit Go.WideMaps
set_option linter.unusedVariables false
set_option linter.unusedSimpArgs false
variable {nx : Int}
abbrev RSy : TypeId := 39
theorem kids_len {w : World} {P : Nat → Prop} : ∀ {l : List TT} {xs : List Value}, KidsT w P l xs → xs.length = 4 * l.length
  | [], _, h => by rw [show _ = _ from h]; rfl
  | v :: l, _, ⟨A, c, ys, h1, _, h4⟩ => by
    subst h1
    have := kids_len h4
    rw [List.length_append, this]
    simp [kidT]; omega
/-- the reference's substitution in memory: 2000 types flat, and what is never read. -/
def RSub (nx : Int) (w : World) (P : Nat → Prop) (rb : Nat) (R : List TT) : Prop := ∃ xs : List Value, w.heap[rb]? = some (.cells (xs ++ [Value.int .i64 nx]).toArray RSy (0, 0)) ∧ KidsT w P R xs ∧ R.length = 2000
theorem RSub.lt {w : World} {P : Nat → Prop} {rb : Nat} {R : List TT} (h : RSub nx w P rb R) : rb < w.heap.size := by
  obtain ⟨xs, h, _⟩ := h; exact (Array.getElem?_eq_some_iff.1 h).1
theorem RSub.moveP {w w' : World} {P P' : Nat → Prop} {rb : Nat} {R : List TT} (h : RSub nx w P rb R) (e : w'.heap[rb]? = w.heap[rb]?) (hk : ∀ b, b < w.heap.size → P b → w'.heap[b]? = w.heap[b]? ∧ P' b) (hs : w.heap.size ≤ w'.heap.size) : RSub nx w' P' rb R := by
  obtain ⟨xs, h1, h2, h3⟩ := h
  exact ⟨xs, e.trans h1, h2.move hk hs, h3⟩
theorem RSub.later {w w' : World} {P : Nat → Prop} {rb : Nat} {R : List TT} (h : RSub nx w P rb R) (hb : Below w.heap.size w w') : RSub nx w' P rb R :=
  h.moveP (hb.block rb h.lt) (fun b hl hp => ⟨hb.block b hl, hp⟩) hb.size
theorem RSub.cell {w : World} {P : Nat → Prop} {rb : Nat} {R : List TT} (h : RSub nx w P rb R) : okTL w P R rb 0 := by
  obtain ⟨xs, h1, h2, h3⟩ := h
  refine KidsT.row h2 (fun j hj => ?_)
  rw [Nat.zero_add]
  simp [World.cell?, h1, List.getElem?_append_left hj]
theorem RSub.at {w : World} {P : Nat → Prop} {rb : Nat} {R : List TT} (h : RSub nx w P rb R) {x : Nat} (hx : x < 2000) : ∃ A c, w.cell? ⟨rb, x * 4, none⟩ = some (.int .i64 (stA R x).k) ∧ w.cell? ⟨rb, x * 4 + 1, none⟩ = some (.string (stA R x).nm) ∧ w.cell? ⟨rb, x * 4 + 2, none⟩ = some (.int .i64 (stA R x).vr) ∧ w.cell? ⟨rb, x * 4 + 3, none⟩ = some (.slice A (stA R x).args.length c) ∧ TRow w P A (stA R x).args := by
  have hl : x < R.length := by obtain ⟨_, _, _, h3⟩ := h; omega
  have ha := okTL_at h.cell x hl
  rw [Nat.zero_add] at ha
  rw [stA_at hl]
  obtain ⟨c0, c1, c2, A, c, c3, hr⟩ := (okT_eq _ _ _ _ _).1 ha
  exact ⟨A, c, c0, c1, c2, c3, hr⟩
theorem shp_vr2 {V : TT} (h : shp V = true) : 0 ≤ V.vr ∧ V.vr ≤ 1999 := by
  rw [shp_eq, Bool.and_eq_true] at h
  have := head_var h.1
  omega
set_option maxRecDepth 100000 in
set_option maxHeartbeats 4000000 in
theorem head_ok {P : Nat → Prop} {St : List TT} {rk : Int → Nat} (hst : StOk St rk) {V : TT} {A : Option Addr} {c rb : Nat} {w : World} (hsh : shp V = true) (hV : TRow w P A V.args) (hs : RSub nx w P rb St) :
    Calls Tryz.prog 54 #[.pointer (some ⟨rb, 0, none⟩), tv V A c] w fun e w' => ∃ A' c', e = .returned (tv (resF St V) A' c') ∧ TRow w P A' (resF St V).args ∧ Below w.heap.size w w' := by
  have HRF := Lib.hid (resF_res hst V)
  obtain ⟨FV, hFV⟩ : ∃ z, z = resF St V := ⟨_, rfl⟩
  rw [← hFV] at HRF ⊢
  clear hFV
  unfold tv
  obtain ⟨wB, hwB⟩ : ∃ z, z = (w.alloc (.cells #[.int .i64 V.k, .string V.nm, .int .i64 V.vr, .slice A V.args.length c] 36)).alloc (.cells #[.int .i64 0, .string ⟨#[]⟩, .int .i64 0, .slice none 0 0] 36) := ⟨_, rfl⟩
  have BX := two_box (w := w) (.cells #[.int .i64 V.k, .string V.nm, .int .i64 V.vr, .slice A V.args.length c] 36) (.cells #[.int .i64 0, .string ⟨#[]⟩, .int .i64 0, .slice none 0 0] 36)
  have HB : Hid (Below w.heap.size w wB) := Lib.hid (by rw [hwB]; exact bt (below_alloc w _) (below_alloc _ _))
  have HZ := Lib.hid (show wB.heap.size = w.heap.size + 2 by rw [hwB]; simp)
  rw [← hwB] at BX
  have HX0 := Lib.hid BX.1
  have HY0 := Lib.hid BX.2
  have HWB := Lib.hid hwB
  have HS := Lib.hid hs
  have HV := Lib.hid hV
  have HSH := Lib.hid hsh
  have HST := Lib.hid hst
  clear BX hwB hs hV hsh hst
  go_enter Tryz.func54, Tryz.ntmps54
  go_wp2
  try rw [← HWB.out]
  go_loopg [] (rkT rk V) (fun gk wr => ∃ (C : TT) (AC : Option Addr) (cc : Nat), Hid (rkT rk C ≤ gk) ∧ Hid (wr.heap[w.heap.size]? = some (.cells #[.int .i64 C.k, .string C.nm, .int .i64 C.vr, .slice AC C.args.length cc] 36 (0, 0))) ∧ Hid (Frm wB wr (· = w.heap.size)) ∧ Hid (TRow w P AC C.args) ∧ Hid (∀ T, Res St C T → Res St V T) ∧ Hid (shp C = true))
  case atStart => exact ⟨V, A, c, Lib.hid (Nat.le_refl _), HX0, Lib.hid (Frm.refl _ _), HV, Lib.hid (fun _ h => h), HSH⟩
  case round =>
    obtain ⟨C, AC, cc, HG, HX, HF, HR, HRS, HC0⟩ := hrel
    have hz := HZ.out
    have hBr : Below w.heap.size w wr := HB.out.trans (HF.out.below (fun q hq => by have : q = w.heap.size := hq; omega) (by omega))
    have HY := Lib.hid ((HF.out.block (w.heap.size + 1) (by omega) (by show ¬ w.heap.size + 1 = w.heap.size; omega)).trans HY0.out)
    have HSZ := Lib.hid (show w.heap.size + 2 ≤ wr.heap.size by have := HF.out.size; omega)
    have HBR := Lib.hid hBr
    have FIN : Hid (¬ bnd St C → C = FV ∧ ∀ w', w' = (((wr.setCell ⟨w.heap.size + 1, 0, none⟩ (.int .i64 C.k)).setCell ⟨w.heap.size + 1, 1, none⟩ (.string C.nm)).setCell ⟨w.heap.size + 1, 2, none⟩ (.int .i64 C.vr)).setCell ⟨w.heap.size + 1, 3, none⟩ (.slice AC C.args.length cc) → Below w.heap.size w w'.drew ∧ Below w.heap.size w w') := Lib.hid (by
      intro hnb
      refine ⟨res_fun (HRS.out _ (.stop hnb)) HRF.out, ?_⟩
      rintro w' rfl
      have := (hBr.trans ((frm4 wr (w.heap.size + 1) (.int .i64 C.k) (.string C.nm) (.int .i64 C.vr) (.slice AC C.args.length cc)).below (B := w.heap.size) (fun q hq => by have : q = w.heap.size + 1 := hq; omega) (by have := HSZ.out; omega)))
      exact ⟨this.drew, this⟩)
    obtain ⟨y0, y1, y2, y3⟩ := cells4 HY.out
    obtain ⟨k0, k1, k2, k3⟩ := froz4 HY.out
    obtain ⟨x0, x1, x2, x3⟩ := cells4 HX.out
    obtain ⟨t0, t1, t2, t3⟩ := cells4 (cells_all (.int .i64 C.k) (.string C.nm) (.int .i64 C.vr) (.slice AC C.args.length cc) HY.out)
    clear hz hBr HB HX0 HY0 HWB HV
    by_cases h7 : C.k = 7
    · have q7 : (C.k == 7) = true := by rw [h7]; rfl
      have hcr := shp_vr2 HC0.out
      obtain ⟨x, hx⟩ : ∃ x : Nat, C.vr = x := ⟨C.vr.toNat, by omega⟩
      have hx2 : x < 2000 := by omega
      have hx2i : (x : Int) < 2000 := by omega
      have H7 := Lib.hid h7
      have HXV := Lib.hid hx
      rw [hx] at HX x2 t0 t1 t2 t3 FIN
      clear h7 hx hcr
      obtain ⟨A', c', e0, e1, e2, e3, hin⟩ := HS.out.at hx2
      obtain ⟨E, hE⟩ : ∃ E, E = stA St x := ⟨_, rfl⟩
      have HSTV := Lib.hid (show stA St C.vr = E by rw [HXV.out, hE])
      rw [← hE] at e0 e1 e2 e3 hin
      have hb := HS.out.lt
      have E0 := Lib.hid ((HBR.out.cell (p := ⟨rb, _, none⟩) hb).trans e0)
      have E1 := Lib.hid ((HBR.out.cell (p := ⟨rb, _, none⟩) hb).trans e1)
      have E2 := Lib.hid ((HBR.out.cell (p := ⟨rb, _, none⟩) hb).trans e2)
      have E3 := Lib.hid ((HBR.out.cell (p := ⟨rb, _, none⟩) hb).trans e3)
      have HIN := Lib.hid hin
      clear hin e0 e1 e2 e3 hE hb
      by_cases hk : E.k = 0
      · have HK := Lib.hid hk
        have qk : (E.k == 0) = true := by rw [hk]; rfl
        have qk2 : (E.k != 0) = false := by rw [hk]; rfl
        clear hk
        have NB : Hid (¬ bnd St C) := Lib.hid (fun h => h.2 (by rw [HSTV.out]; exact HK.out))
        go_wp2_with fail
        refine wp_region_held_drew (S := fun w' => w'.heap[w.heap.size]? = some (.cells #[.int .i64 C.k, .string C.nm, .int .i64 (x : Int), .slice AC C.args.length cc] 36 (0, 0)) ∧ w'.cell? ⟨rb, x * 4, none⟩ = some (.int .i64 E.k)) (by kernel_rfl) ?_ (fun hHeld => ?_)
        · exact ⟨HX.out, E0.out⟩
        refine WHt 0 ⟨some 5, .fieldAddr 36 (.tmp 3) 0, 0, _, #[], none⟩ (v := ?va0) rfl (by kernel_rfl) (fun _ _ _ h => h) (Or.inl ⟨by rfl, ?hya0⟩) (by assumption) ?_
        case hya0 => (intro wz hSw; (try dsimp only at hSw); obtain ⟨z0, z1, z2, z3⟩ := cells4 hSw.1; have z4 := hSw.2; go_simp; try with_reducible rfl)
        (try simp only [putz])
        refine WHt 1 ⟨some 6, .load 3 (.tmp 5), 3, _, #[⟨0, .data⟩], none⟩ (v := ?va1) rfl (by kernel_rfl) (fun _ _ _ h => h) (Or.inl ⟨by rfl, ?hya1⟩) (by assumption) ?_
        case hya1 => (intro wz hSw; (try dsimp only at hSw); obtain ⟨z0, z1, z2, z3⟩ := cells4 hSw.1; have z4 := hSw.2; go_simp; try with_reducible rfl)
        (try simp only [putz])
        refine WHt 2 ⟨some 7, .binOp .eql 3 (.tmp 6) (.const (.int .i64 7)) 3, 4, _, #[⟨1, .data⟩], none⟩ (v := ?va2) rfl (by kernel_rfl) (fun _ _ _ h => h) (Or.inl ⟨by rfl, ?hya2⟩) (by assumption) ?_
        case hya2 => (intro wz hSw; (try dsimp only at hSw); obtain ⟨z0, z1, z2, z3⟩ := cells4 hSw.1; have z4 := hSw.2; go_simp; try with_reducible rfl)
        (try simp only [putz])
        refine WHt 3 ⟨some 8, .move (.tmp 7), 4, _, #[⟨2, .data⟩], none⟩ (v := ?va3) rfl (by kernel_rfl) (fun _ _ _ h => h) (Or.inl ⟨by rfl, ?hya3⟩) (by assumption) ?_
        case hya3 => (intro wz hSw; (try dsimp only at hSw); obtain ⟨z0, z1, z2, z3⟩ := cells4 hSw.1; have z4 := hSw.2; go_simp; try with_reducible rfl)
        (try simp only [putz])
        refine WHt 4 ⟨some 9, .move (.tmp 0), 33, _, #[⟨3, .guard⟩], some (3, true)⟩ (v := ?va4) rfl (by kernel_rfl) (fun _ _ _ h => h) (Or.inl ⟨by rfl, ?hya4⟩) (by assumption) ?_
        case hya4 => (intro wz hSw; (try dsimp only at hSw); obtain ⟨z0, z1, z2, z3⟩ := cells4 hSw.1; have z4 := hSw.2; go_simp; try with_reducible rfl)
        (try simp only [putz])
        refine WHt 5 ⟨some 10, .fieldAddr 36 (.tmp 3) 2, 0, _, #[⟨3, .guard⟩], some (3, true)⟩ (v := ?va5) rfl (by kernel_rfl) (fun _ _ _ h => h) (Or.inl ⟨by rfl, ?hya5⟩) (by assumption) ?_
        case hya5 => (intro wz hSw; (try dsimp only at hSw); obtain ⟨z0, z1, z2, z3⟩ := cells4 hSw.1; have z4 := hSw.2; go_simp; try with_reducible rfl)
        (try simp only [putz])
        refine WHt 6 ⟨some 11, .load 3 (.tmp 10), 3, _, #[⟨5, .data⟩, ⟨3, .guard⟩], some (3, true)⟩ (v := ?va6) rfl (by kernel_rfl) (fun _ _ _ h => h) (Or.inl ⟨by rfl, ?hya6⟩) (by assumption) ?_
        case hya6 => (intro wz hSw; (try dsimp only at hSw); obtain ⟨z0, z1, z2, z3⟩ := cells4 hSw.1; have z4 := hSw.2; go_simp; try with_reducible rfl)
        (try simp only [putz])
        refine WHt 7 ⟨some 12, .nilCheck (.tmp 9), 0, _, #[⟨4, .data⟩, ⟨3, .guard⟩], some (3, true)⟩ (v := ?va7) rfl (by kernel_rfl) (fun _ _ _ h => h) (Or.inl ⟨by rfl, ?hya7⟩) (by assumption) ?_
        case hya7 => (intro wz hSw; (try dsimp only at hSw); obtain ⟨z0, z1, z2, z3⟩ := cells4 hSw.1; have z4 := hSw.2; go_simp; try with_reducible rfl)
        (try simp only [putz])
        refine WHt 8 ⟨some 13, .fieldAddr 39 (.tmp 12) 0, 0, _, #[⟨7, .data⟩, ⟨3, .guard⟩], some (3, true)⟩ (v := ?va8) rfl (by kernel_rfl) (fun _ _ _ h => h) (Or.inl ⟨by rfl, ?hya8⟩) (by assumption) ?_
        case hya8 => (intro wz hSw; (try dsimp only at hSw); obtain ⟨z0, z1, z2, z3⟩ := cells4 hSw.1; have z4 := hSw.2; go_simp; try with_reducible rfl)
        (try simp only [putz])
        refine WHt 9 ⟨some 14, .indexAddr 37 (.tmp 13) (.tmp 11), 0, _, #[⟨8, .data⟩, ⟨6, .data⟩, ⟨3, .guard⟩], some (3, true)⟩ (v := ?va9) rfl (by kernel_rfl) (fun _ _ _ h => h) (Or.inl ⟨by rfl, ?hya9⟩) (by assumption) ?_
        case hya9 => (intro wz hSw; (try dsimp only at hSw); obtain ⟨z0, z1, z2, z3⟩ := cells4 hSw.1; have z4 := hSw.2; go_simp; try with_reducible rfl)
        (try simp only [putz])
        refine WHt 10 ⟨some 15, .fieldAddr 36 (.tmp 14) 0, 0, _, #[⟨9, .data⟩, ⟨3, .guard⟩], some (3, true)⟩ (v := ?va10) rfl (by kernel_rfl) (fun _ _ _ h => h) (Or.inl ⟨by rfl, ?hya10⟩) (by assumption) ?_
        case hya10 => (intro wz hSw; (try dsimp only at hSw); obtain ⟨z0, z1, z2, z3⟩ := cells4 hSw.1; have z4 := hSw.2; go_simp; try with_reducible rfl)
        (try simp only [putz])
        refine WHt 11 ⟨some 16, .load 3 (.tmp 15), 3, _, #[⟨10, .data⟩, ⟨3, .guard⟩], some (3, true)⟩ (v := ?va11) rfl (by kernel_rfl) (fun _ _ _ h => h) (Or.inl ⟨by rfl, ?hya11⟩) (by assumption) ?_
        case hya11 => (intro wz hSw; (try dsimp only at hSw); obtain ⟨z0, z1, z2, z3⟩ := cells4 hSw.1; have z4 := hSw.2; go_simp; try with_reducible rfl)
        (try simp only [putz])
        refine WHt 12 ⟨some 17, .binOp .neq 3 (.tmp 16) (.const (.int .i64 0)) 3, 4, _, #[⟨11, .data⟩, ⟨3, .guard⟩], some (3, true)⟩ (v := ?va12) rfl (by kernel_rfl) (fun _ _ _ h => h) (Or.inl ⟨by rfl, ?hya12⟩) (by assumption) ?_
        case hya12 => (intro wz hSw; (try dsimp only at hSw); obtain ⟨z0, z1, z2, z3⟩ := cells4 hSw.1; have z4 := hSw.2; go_simp; try with_reducible rfl)
        (try simp only [putz])
        refine WHt 13 ⟨some 18, .pick (.tmp 8) (.tmp 17) (.const (.bool false)), 4, _, #[⟨3, .data⟩, ⟨12, .data⟩], none⟩ (v := ?va13) rfl (by kernel_rfl) (fun _ _ _ h => h) (Or.inl ⟨by rfl, ?hya13⟩) (by assumption) ?_
        case hya13 => (intro wz hSw; (try dsimp only at hSw); obtain ⟨z0, z1, z2, z3⟩ := cells4 hSw.1; have z4 := hSw.2; go_simp; try with_reducible rfl)
        (try simp only [putz])
        refine wpAnyH_done (by kernel_rfl) ?_ _
        go_wp2
        (try simp only [Exit.inBlock, Exit.then])
        refine bodyPost_ret (by simp [results, Tryz.results54, go_sem, t0, t1, t2, t3]; try rfl) rfl ?_
        obtain ⟨hcf, hfb⟩ := FIN.out NB.out
        exact ⟨AC, cc, by rw [← hcf, HXV.out], by rw [← hcf]; exact HR.out, by first | exact (hfb _ rfl).1 | exact (hfb _ rfl).2⟩
      · have HK := Lib.hid hk
        have qk : (E.k == 0) = false := beq_eq_false_iff_ne.2 hk
        have qk2 : (E.k != 0) = true := by simp [bne, qk]
        clear hk
        have BN : Hid (bnd St C) := Lib.hid ⟨H7.out, by rw [HSTV.out]; exact HK.out⟩
        obtain ⟨f0, f1, f2, f3⟩ := froz4 HX.out
        go_wp2_with fail
        refine wp_region_held_drew (S := fun w' => w'.heap[w.heap.size]? = some (.cells #[.int .i64 C.k, .string C.nm, .int .i64 (x : Int), .slice AC C.args.length cc] 36 (0, 0)) ∧ w'.cell? ⟨rb, x * 4, none⟩ = some (.int .i64 E.k)) (by kernel_rfl) ?_ (fun hHeld => ?_)
        · exact ⟨HX.out, E0.out⟩
        refine WHt 0 ⟨some 5, .fieldAddr 36 (.tmp 3) 0, 0, _, #[], none⟩ (v := ?vb0) rfl (by kernel_rfl) (fun _ _ _ h => h) (Or.inl ⟨by rfl, ?hyb0⟩) (by assumption) ?_
        case hyb0 => (intro wz hSw; (try dsimp only at hSw); obtain ⟨z0, z1, z2, z3⟩ := cells4 hSw.1; have z4 := hSw.2; go_simp; try with_reducible rfl)
        (try simp only [putz])
        refine WHt 1 ⟨some 6, .load 3 (.tmp 5), 3, _, #[⟨0, .data⟩], none⟩ (v := ?vb1) rfl (by kernel_rfl) (fun _ _ _ h => h) (Or.inl ⟨by rfl, ?hyb1⟩) (by assumption) ?_
        case hyb1 => (intro wz hSw; (try dsimp only at hSw); obtain ⟨z0, z1, z2, z3⟩ := cells4 hSw.1; have z4 := hSw.2; go_simp; try with_reducible rfl)
        (try simp only [putz])
        refine WHt 2 ⟨some 7, .binOp .eql 3 (.tmp 6) (.const (.int .i64 7)) 3, 4, _, #[⟨1, .data⟩], none⟩ (v := ?vb2) rfl (by kernel_rfl) (fun _ _ _ h => h) (Or.inl ⟨by rfl, ?hyb2⟩) (by assumption) ?_
        case hyb2 => (intro wz hSw; (try dsimp only at hSw); obtain ⟨z0, z1, z2, z3⟩ := cells4 hSw.1; have z4 := hSw.2; go_simp; try with_reducible rfl)
        (try simp only [putz])
        refine WHt 3 ⟨some 8, .move (.tmp 7), 4, _, #[⟨2, .data⟩], none⟩ (v := ?vb3) rfl (by kernel_rfl) (fun _ _ _ h => h) (Or.inl ⟨by rfl, ?hyb3⟩) (by assumption) ?_
        case hyb3 => (intro wz hSw; (try dsimp only at hSw); obtain ⟨z0, z1, z2, z3⟩ := cells4 hSw.1; have z4 := hSw.2; go_simp; try with_reducible rfl)
        (try simp only [putz])
        refine WHt 4 ⟨some 9, .move (.tmp 0), 33, _, #[⟨3, .guard⟩], some (3, true)⟩ (v := ?vb4) rfl (by kernel_rfl) (fun _ _ _ h => h) (Or.inl ⟨by rfl, ?hyb4⟩) (by assumption) ?_
        case hyb4 => (intro wz hSw; (try dsimp only at hSw); obtain ⟨z0, z1, z2, z3⟩ := cells4 hSw.1; have z4 := hSw.2; go_simp; try with_reducible rfl)
        (try simp only [putz])
        refine WHt 5 ⟨some 10, .fieldAddr 36 (.tmp 3) 2, 0, _, #[⟨3, .guard⟩], some (3, true)⟩ (v := ?vb5) rfl (by kernel_rfl) (fun _ _ _ h => h) (Or.inl ⟨by rfl, ?hyb5⟩) (by assumption) ?_
        case hyb5 => (intro wz hSw; (try dsimp only at hSw); obtain ⟨z0, z1, z2, z3⟩ := cells4 hSw.1; have z4 := hSw.2; go_simp; try with_reducible rfl)
        (try simp only [putz])
        refine WHt 6 ⟨some 11, .load 3 (.tmp 10), 3, _, #[⟨5, .data⟩, ⟨3, .guard⟩], some (3, true)⟩ (v := ?vb6) rfl (by kernel_rfl) (fun _ _ _ h => h) (Or.inl ⟨by rfl, ?hyb6⟩) (by assumption) ?_
        case hyb6 => (intro wz hSw; (try dsimp only at hSw); obtain ⟨z0, z1, z2, z3⟩ := cells4 hSw.1; have z4 := hSw.2; go_simp; try with_reducible rfl)
        (try simp only [putz])
        refine WHt 7 ⟨some 12, .nilCheck (.tmp 9), 0, _, #[⟨4, .data⟩, ⟨3, .guard⟩], some (3, true)⟩ (v := ?vb7) rfl (by kernel_rfl) (fun _ _ _ h => h) (Or.inl ⟨by rfl, ?hyb7⟩) (by assumption) ?_
        case hyb7 => (intro wz hSw; (try dsimp only at hSw); obtain ⟨z0, z1, z2, z3⟩ := cells4 hSw.1; have z4 := hSw.2; go_simp; try with_reducible rfl)
        (try simp only [putz])
        refine WHt 8 ⟨some 13, .fieldAddr 39 (.tmp 12) 0, 0, _, #[⟨7, .data⟩, ⟨3, .guard⟩], some (3, true)⟩ (v := ?vb8) rfl (by kernel_rfl) (fun _ _ _ h => h) (Or.inl ⟨by rfl, ?hyb8⟩) (by assumption) ?_
        case hyb8 => (intro wz hSw; (try dsimp only at hSw); obtain ⟨z0, z1, z2, z3⟩ := cells4 hSw.1; have z4 := hSw.2; go_simp; try with_reducible rfl)
        (try simp only [putz])
        refine WHt 9 ⟨some 14, .indexAddr 37 (.tmp 13) (.tmp 11), 0, _, #[⟨8, .data⟩, ⟨6, .data⟩, ⟨3, .guard⟩], some (3, true)⟩ (v := ?vb9) rfl (by kernel_rfl) (fun _ _ _ h => h) (Or.inl ⟨by rfl, ?hyb9⟩) (by assumption) ?_
        case hyb9 => (intro wz hSw; (try dsimp only at hSw); obtain ⟨z0, z1, z2, z3⟩ := cells4 hSw.1; have z4 := hSw.2; go_simp; try with_reducible rfl)
        (try simp only [putz])
        refine WHt 10 ⟨some 15, .fieldAddr 36 (.tmp 14) 0, 0, _, #[⟨9, .data⟩, ⟨3, .guard⟩], some (3, true)⟩ (v := ?vb10) rfl (by kernel_rfl) (fun _ _ _ h => h) (Or.inl ⟨by rfl, ?hyb10⟩) (by assumption) ?_
        case hyb10 => (intro wz hSw; (try dsimp only at hSw); obtain ⟨z0, z1, z2, z3⟩ := cells4 hSw.1; have z4 := hSw.2; go_simp; try with_reducible rfl)
        (try simp only [putz])
        refine WHt 11 ⟨some 16, .load 3 (.tmp 15), 3, _, #[⟨10, .data⟩, ⟨3, .guard⟩], some (3, true)⟩ (v := ?vb11) rfl (by kernel_rfl) (fun _ _ _ h => h) (Or.inl ⟨by rfl, ?hyb11⟩) (by assumption) ?_
        case hyb11 => (intro wz hSw; (try dsimp only at hSw); obtain ⟨z0, z1, z2, z3⟩ := cells4 hSw.1; have z4 := hSw.2; go_simp; try with_reducible rfl)
        (try simp only [putz])
        refine WHt 12 ⟨some 17, .binOp .neq 3 (.tmp 16) (.const (.int .i64 0)) 3, 4, _, #[⟨11, .data⟩, ⟨3, .guard⟩], some (3, true)⟩ (v := ?vb12) rfl (by kernel_rfl) (fun _ _ _ h => h) (Or.inl ⟨by rfl, ?hyb12⟩) (by assumption) ?_
        case hyb12 => (intro wz hSw; (try dsimp only at hSw); obtain ⟨z0, z1, z2, z3⟩ := cells4 hSw.1; have z4 := hSw.2; go_simp; try with_reducible rfl)
        (try simp only [putz])
        refine WHt 13 ⟨some 18, .pick (.tmp 8) (.tmp 17) (.const (.bool false)), 4, _, #[⟨3, .data⟩, ⟨12, .data⟩], none⟩ (v := ?vb13) rfl (by kernel_rfl) (fun _ _ _ h => h) (Or.inl ⟨by rfl, ?hyb13⟩) (by assumption) ?_
        case hyb13 => (intro wz hSw; (try dsimp only at hSw); obtain ⟨z0, z1, z2, z3⟩ := cells4 hSw.1; have z4 := hSw.2; go_simp; try with_reducible rfl)
        (try simp only [putz])
        refine wpAnyH_done (by kernel_rfl) ?_ _
        go_wp2_with fail
        refine wp_region_D [7] (fun w' => w'.heap[w.heap.size]? = some (.cells #[.int .i64 C.k, .string C.nm, .int .i64 (x : Int), .slice AC C.args.length cc] 36 (0, 0)) ∧ w'.cell? ⟨rb, x * 4, none⟩ = some (.int .i64 E.k) ∧ w'.cell? ⟨rb, x * 4 + 1, none⟩ = some (.string E.nm) ∧ w'.cell? ⟨rb, x * 4 + 2, none⟩ = some (.int .i64 E.vr) ∧ w'.cell? ⟨rb, x * 4 + 3, none⟩ = some (.slice A' E.args.length c')) (by kernel_rfl) (⟨HX.out, E0.out, E1.out, E2.out, E3.out⟩) (fun hHeld => ?_)
        refine WDs 0 ⟨some 19, .move (.tmp 0), 33, _, #[], none⟩ ?vc0 ?hyc0 hHeld ?_
        case hyc0 => (intro wz hSw; (try dsimp only at hSw); obtain ⟨z0, z1, z2, z3⟩ := cells4 hSw.1; have z5 := hSw.2.1; have z6 := hSw.2.2.1; have z7 := hSw.2.2.2.1; have z8 := hSw.2.2.2.2; go_simp; try with_reducible rfl)
        (try simp only [putz])
        refine WDs 1 ⟨some 20, .fieldAddr 36 (.tmp 3) 2, 0, _, #[], none⟩ ?vc1 ?hyc1 hHeld ?_
        case hyc1 => (intro wz hSw; (try dsimp only at hSw); obtain ⟨z0, z1, z2, z3⟩ := cells4 hSw.1; have z5 := hSw.2.1; have z6 := hSw.2.2.1; have z7 := hSw.2.2.2.1; have z8 := hSw.2.2.2.2; go_simp; try with_reducible rfl)
        (try simp only [putz])
        refine WDs 2 ⟨some 21, .load 3 (.tmp 20), 3, _, #[⟨1, .data⟩], none⟩ ?vc2 ?hyc2 hHeld ?_
        case hyc2 => (intro wz hSw; (try dsimp only at hSw); obtain ⟨z0, z1, z2, z3⟩ := cells4 hSw.1; have z5 := hSw.2.1; have z6 := hSw.2.2.1; have z7 := hSw.2.2.2.1; have z8 := hSw.2.2.2.2; go_simp; try with_reducible rfl)
        (try simp only [putz])
        refine WDs 3 ⟨some 22, .nilCheck (.tmp 19), 0, _, #[⟨0, .data⟩], none⟩ ?vc3 ?hyc3 hHeld ?_
        case hyc3 => (intro wz hSw; (try dsimp only at hSw); obtain ⟨z0, z1, z2, z3⟩ := cells4 hSw.1; have z5 := hSw.2.1; have z6 := hSw.2.2.1; have z7 := hSw.2.2.2.1; have z8 := hSw.2.2.2.2; go_simp; try with_reducible rfl)
        (try simp only [putz])
        refine WDs 4 ⟨some 23, .fieldAddr 39 (.tmp 22) 0, 0, _, #[⟨3, .data⟩], none⟩ ?vc4 ?hyc4 hHeld ?_
        case hyc4 => (intro wz hSw; (try dsimp only at hSw); obtain ⟨z0, z1, z2, z3⟩ := cells4 hSw.1; have z5 := hSw.2.1; have z6 := hSw.2.2.1; have z7 := hSw.2.2.2.1; have z8 := hSw.2.2.2.2; go_simp; try with_reducible rfl)
        (try simp only [putz])
        refine WDs 5 ⟨some 24, .indexAddr 37 (.tmp 23) (.tmp 21), 0, _, #[⟨4, .data⟩, ⟨2, .data⟩], none⟩ ?vc5 ?hyc5 hHeld ?_
        case hyc5 => (intro wz hSw; (try dsimp only at hSw); obtain ⟨z0, z1, z2, z3⟩ := cells4 hSw.1; have z5 := hSw.2.1; have z6 := hSw.2.2.1; have z7 := hSw.2.2.2.1; have z8 := hSw.2.2.2.2; go_simp; try with_reducible rfl)
        (try simp only [putz])
        refine WDs 6 ⟨some 25, .load 36 (.tmp 24), 36, _, #[⟨5, .data⟩], none⟩ ?vc6 ?hyc6 hHeld ?_
        case hyc6 => (intro wz hSw; (try dsimp only at hSw); obtain ⟨z0, z1, z2, z3⟩ := cells4 hSw.1; have z5 := hSw.2.1; have z6 := hSw.2.2.1; have z7 := hSw.2.2.2.1; have z8 := hSw.2.2.2.2; go_simp; try with_reducible rfl)
        (try simp only [putz])
        refine WD_ready (rs := [7]) (by kernel_rfl) (by simp) ?_
        refine AllD.last (o := _) rfl (by kernel_rfl) (fun K hK => ?_) AllD.nil
        rw [if_pos (by rfl)]
        go_simp
        refine hK.out _ _ ?_
        clear hK K
        (try simp only [putz])
        refine WD_done (by kernel_rfl) ?_ _
        go_wp2
        go_roundg (rkT rk E)
        case measure => exact Nat.lt_of_lt_of_le (by have := rk_step HST.out BN.out; rw [HSTV.out] at this; exact this) HG.out
        case rel => exact ⟨E, A', c', Lib.hid (Nat.le_refl _), Lib.hid (cells_all (.int .i64 E.k) (.string E.nm) (.int .i64 E.vr) (.slice A' E.args.length c') HX.out), Lib.hid (HF.out.trans (have f := frm4 wr w.heap.size (.int .i64 E.k) (.string E.nm) (.int .i64 E.vr) (.slice A' E.args.length c'); ⟨f.os, f.tape, f.output, f.size, f.block⟩)), HIN, Lib.hid (fun T hT => HRS.out T (.step BN.out (by rw [HSTV.out]; exact hT))), Lib.hid (by have := HST.out.shp _ BN.out.2; rw [HSTV.out] at this; exact this)⟩
    · have q7 : (C.k == 7) = false := beq_eq_false_iff_ne.2 h7
      have NB : Hid (¬ bnd St C) := Lib.hid (fun h => h7 h.1)
      clear h7
      go_wp2_with fail
      refine wp_region_held_drew (S := fun w' => w'.heap[w.heap.size]? = some (.cells #[.int .i64 C.k, .string C.nm, .int .i64 C.vr, .slice AC C.args.length cc] 36 (0, 0))) (by kernel_rfl) ?_ (fun hHeld => ?_)
      · exact HX.out
      refine WHt 0 ⟨some 5, .fieldAddr 36 (.tmp 3) 0, 0, _, #[], none⟩ (v := ?ve0) rfl (by kernel_rfl) (fun _ _ _ h => h) (Or.inl ⟨by rfl, ?hye0⟩) (by assumption) ?_
      case hye0 => (intro wz hSw; (try dsimp only at hSw); obtain ⟨z0, z1, z2, z3⟩ := cells4 hSw; go_simp; try with_reducible rfl)
      (try simp only [putz])
      refine WHt 1 ⟨some 6, .load 3 (.tmp 5), 3, _, #[⟨0, .data⟩], none⟩ (v := ?ve1) rfl (by kernel_rfl) (fun _ _ _ h => h) (Or.inl ⟨by rfl, ?hye1⟩) (by assumption) ?_
      case hye1 => (intro wz hSw; (try dsimp only at hSw); obtain ⟨z0, z1, z2, z3⟩ := cells4 hSw; go_simp; try with_reducible rfl)
      (try simp only [putz])
      refine WHt 2 ⟨some 7, .binOp .eql 3 (.tmp 6) (.const (.int .i64 7)) 3, 4, _, #[⟨1, .data⟩], none⟩ (v := ?ve2) rfl (by kernel_rfl) (fun _ _ _ h => h) (Or.inl ⟨by rfl, ?hye2⟩) (by assumption) ?_
      case hye2 => (intro wz hSw; (try dsimp only at hSw); obtain ⟨z0, z1, z2, z3⟩ := cells4 hSw; go_simp; try with_reducible rfl)
      (try simp only [putz])
      refine WHt 3 ⟨some 8, .move (.tmp 7), 4, _, #[⟨2, .data⟩], none⟩ (v := ?ve3) rfl (by kernel_rfl) (fun _ _ _ h => h) (Or.inl ⟨by rfl, ?hye3⟩) (by assumption) ?_
      case hye3 => (intro wz hSw; (try dsimp only at hSw); obtain ⟨z0, z1, z2, z3⟩ := cells4 hSw; go_simp; try with_reducible rfl)
      (try simp only [putz])
      refine WHt 4 ⟨some 9, .move (.tmp 0), 33, _, #[⟨3, .guard⟩], some (3, true)⟩ (v := undef) rfl (by kernel_rfl) (fun _ _ _ h => h) (Or.inr ⟨by rfl, rfl⟩) (by assumption) ?_
      (try simp only [putz])
      refine WHt 5 ⟨some 10, .fieldAddr 36 (.tmp 3) 2, 0, _, #[⟨3, .guard⟩], some (3, true)⟩ (v := undef) rfl (by kernel_rfl) (fun _ _ _ h => h) (Or.inr ⟨by rfl, rfl⟩) (by assumption) ?_
      (try simp only [putz])
      refine WHt 6 ⟨some 11, .load 3 (.tmp 10), 3, _, #[⟨5, .data⟩, ⟨3, .guard⟩], some (3, true)⟩ (v := undef) rfl (by kernel_rfl) (fun _ _ _ h => h) (Or.inr ⟨by rfl, rfl⟩) (by assumption) ?_
      (try simp only [putz])
      refine WHt 7 ⟨some 12, .nilCheck (.tmp 9), 0, _, #[⟨4, .data⟩, ⟨3, .guard⟩], some (3, true)⟩ (v := undef) rfl (by kernel_rfl) (fun _ _ _ h => h) (Or.inr ⟨by rfl, rfl⟩) (by assumption) ?_
      (try simp only [putz])
      refine WHt 8 ⟨some 13, .fieldAddr 39 (.tmp 12) 0, 0, _, #[⟨7, .data⟩, ⟨3, .guard⟩], some (3, true)⟩ (v := undef) rfl (by kernel_rfl) (fun _ _ _ h => h) (Or.inr ⟨by rfl, rfl⟩) (by assumption) ?_
      (try simp only [putz])
      refine WHt 9 ⟨some 14, .indexAddr 37 (.tmp 13) (.tmp 11), 0, _, #[⟨8, .data⟩, ⟨6, .data⟩, ⟨3, .guard⟩], some (3, true)⟩ (v := undef) rfl (by kernel_rfl) (fun _ _ _ h => h) (Or.inr ⟨by rfl, rfl⟩) (by assumption) ?_
      (try simp only [putz])
      refine WHt 10 ⟨some 15, .fieldAddr 36 (.tmp 14) 0, 0, _, #[⟨9, .data⟩, ⟨3, .guard⟩], some (3, true)⟩ (v := undef) rfl (by kernel_rfl) (fun _ _ _ h => h) (Or.inr ⟨by rfl, rfl⟩) (by assumption) ?_
      (try simp only [putz])
      refine WHt 11 ⟨some 16, .load 3 (.tmp 15), 3, _, #[⟨10, .data⟩, ⟨3, .guard⟩], some (3, true)⟩ (v := undef) rfl (by kernel_rfl) (fun _ _ _ h => h) (Or.inr ⟨by rfl, rfl⟩) (by assumption) ?_
      (try simp only [putz])
      refine WHt 12 ⟨some 17, .binOp .neq 3 (.tmp 16) (.const (.int .i64 0)) 3, 4, _, #[⟨11, .data⟩, ⟨3, .guard⟩], some (3, true)⟩ (v := undef) rfl (by kernel_rfl) (fun _ _ _ h => h) (Or.inr ⟨by rfl, rfl⟩) (by assumption) ?_
      (try simp only [putz])
      refine WHt 13 ⟨some 18, .pick (.tmp 8) (.tmp 17) (.const (.bool false)), 4, _, #[⟨3, .data⟩, ⟨12, .data⟩], none⟩ (v := ?ve13) rfl (by kernel_rfl) (fun _ _ _ h => h) (Or.inl ⟨by rfl, ?hye13⟩) (by assumption) ?_
      case hye13 => (intro wz hSw; (try dsimp only at hSw); obtain ⟨z0, z1, z2, z3⟩ := cells4 hSw; go_simp; try with_reducible rfl)
      (try simp only [putz])
      refine wpAnyH_done (by kernel_rfl) ?_ _
      go_wp2
      (try simp only [Exit.inBlock, Exit.then])
      refine bodyPost_ret (by simp [results, Tryz.results54, go_sem, t0, t1, t2, t3]; try rfl) rfl ?_
      obtain ⟨hcf, hfb⟩ := FIN.out NB.out
      exact ⟨AC, cc, by rw [← hcf], by rw [← hcf]; exact HR.out, by first | exact (hfb _ rfl).1 | exact (hfb _ rfl).2⟩
end Go.Proofs.YtifopogkbjhkjaaGreatDoor
namespace Go.Proofs.YtifopogkbjhkjaaGreatDoor
open DR
open Go.ChangeShapes Go.WideShapes Go.ChangeAt Go.RowKit Go.WideMaps
set_option linter.unusedVariables false
set_option linter.unusedSimpArgs false
variable {nx : Int}
theorem sumL_take (g : TT → Nat) (l : List TT) (k : Nat) (h : k < l.length) : sumL g (l.take (k + 1)) = sumL g (l.take k) + g l[k] := by
  induction l generalizing k with
  | nil => simp at h
  | cons a l ih =>
    cases k with
    | zero => simp [sumL]
    | succ k =>
      simp only [List.take_succ_cons, sumL, List.getElem_cons_succ]
      rw [ih k (by simpa using h)]; omega
theorem sumL_take_le (g : TT → Nat) (l : List TT) (k : Nat) : sumL g (l.take k) ≤ sumL g l := by
  induction l generalizing k with
  | nil => simp
  | cons a l ih =>
    cases k with
    | zero => simp [sumL]
    | succ k => simp only [List.take_succ_cons, sumL]; have := ih k; omega
set_option maxRecDepth 100000 in
set_option maxHeartbeats 4000000 in
theorem rsz_ok {P : Nat → Prop} {St : List TT} {rk : Int → Nat} (hst : StOk St rk) {rb : Nat} : ∀ V : TT, shp V = true → ∀ (x : Value) (w : World), TIn w any0 V x → RSub nx w P rb St → Calls Tryz.prog 55 #[.pointer (some ⟨rb, 0, none⟩), x] w fun e w' => e = .returned (.int .i64 (min (fsz St V : Int) 501)) ∧ Below w.heap.size w w' := by
  refine res_ind hst ?_
  intro V hsh ih x w ⟨A, c, hv, hA⟩ hu
  subst hv
  have hR := resF_res hst V
  have HND := Lib.hid (fsz_eq hst hsh)
  have RS := Lib.hid (fun W (hW : Below w.heap.size w W) => head_ok hst (P := (· < w.heap.size)) (c := c) hsh ((hA.weak fun b hb _ => hb).later hW) ((hu.moveP rfl (P' := (· < w.heap.size)) (fun b hb _ => ⟨rfl, hb⟩) (Nat.le_refl _)).later hW))
  have HSH := Lib.hid (shp_head (res_shp hst hR hsh)).2.2
  have hl2 := (shp_head (res_shp hst hR hsh)).2.1
  have HI := Lib.hid ih
  obtain ⟨T, hT⟩ : ∃ T, T = resF St V := ⟨_, rfl⟩
  rw [← hT] at RS HSH hl2 HND HI
  have HU := Lib.hid hu
  unfold tv at RS ⊢
  obtain ⟨wA, hwA⟩ : ∃ z, z = w.alloc (.cells #[.int .i64 V.k, .string V.nm, .int .i64 V.vr, .slice A V.args.length c] 36) := ⟨_, rfl⟩
  have BA := Lib.hid (show Below w.heap.size w wA by rw [hwA]; exact below_alloc w _)
  have HX := Lib.hid (show wA.heap[w.heap.size]? = some (.cells #[.int .i64 V.k, .string V.nm, .int .i64 V.vr, .slice A V.args.length c] 36 (0, 0)) by rw [hwA]; exact heap_alloc_new w _)
  have HZ := Lib.hid (show wA.heap.size = w.heap.size + 1 by rw [hwA]; simp)
  have HWA := Lib.hid hwA
  obtain ⟨R, hR2⟩ : ∃ r : Int, r = min (fsz St V : Int) 501 := ⟨_, rfl⟩
  have HR := Lib.hid hR2
  rw [← hR2]
  clear ih hT hA hsh hR hwA hst hR2 hu
  go_enter Tryz.func55, Tryz.ntmps55
  obtain ⟨e0, e1, e2, e3⟩ := cells4 HX.out
  go_wp2_with fail
  try rw [← HWA.out]
  refine (RS.out _ BA.out).mono ?_; rintro e w1 ⟨A1, c1, rfl, hr1, hb1⟩
  have H1 := Lib.hid hb1
  have R1 := Lib.hid (hr1.later hb1)
  have X1 := Lib.hid ((hb1.block w.heap.size (by have := HZ.out; omega)).trans HX.out)
  clear e0 e1 e2 e3
  obtain ⟨f0, f1, f2, f3⟩ := froz4 X1.out
  obtain ⟨t0, t1, t2, t3⟩ := cells4 (cells_all (.int .i64 T.k) (.string T.nm) (.int .i64 T.vr) (.slice A1 T.args.length c1) X1.out)
  obtain ⟨g0, g1, g2, g3⟩ := cells4 X1.out
  clear hr1 hb1
  go_wp2
  obtain ⟨wS, hwS⟩ : ∃ z, z = (((w1.setCell ⟨w.heap.size, 0, none⟩ (.int .i64 T.k)).setCell ⟨w.heap.size, 1, none⟩ (.string T.nm)).setCell ⟨w.heap.size, 2, none⟩ (.int .i64 T.vr)).setCell ⟨w.heap.size, 3, none⟩ (.slice A1 T.args.length c1) := ⟨_, rfl⟩
  have FS := Lib.hid (show Frm w1 wS (· = w.heap.size) by rw [hwS]; exact frm4 w1 w.heap.size _ _ _ _)
  have XS := Lib.hid (show wS.heap[w.heap.size]? = some (.cells #[.int .i64 T.k, .string T.nm, .int .i64 T.vr, .slice A1 T.args.length c1] 36 (0, 0)) by rw [hwS]; exact cells_all _ _ _ _ X1.out)
  rw [← hwS]
  clear hwS g0 g1 g2 g3 f0 f1 f2 f3 t0 t1 t2 t3
  have BS : Hid (Below w.heap.size w wS) := Lib.hid ((bt BA.out H1.out).trans (FS.out.below (fun q hq => by have : q = w.heap.size := hq; omega) (by have := H1.out.size; have := HZ.out; omega)))
  have HA := Lib.hid (R1.out.move (w' := wS) (P' := any0) (fun b hb (hp : b < w.heap.size) => ⟨FS.out.block b hb (by show ¬ b = w.heap.size; omega), trivial⟩) FS.out.size)
  have HZS := Lib.hid (show w.heap.size < wS.heap.size by have := FS.out.size; have := H1.out.size; have := HZ.out; omega)
  obtain ⟨args, ha⟩ : ∃ l, l = T.args := ⟨_, rfl⟩
  rw [← ha] at HA HSH hl2 HND XS HI
  obtain ⟨g0, g1, g2, g3⟩ := cells4 XS.out
  clear ha g0 g1 g2 g3
  go_loopw [5, 6] (fun nv i wr => ∃ (k : Nat) (q : Int), k ≤ args.length ∧ nv = .int .i64 q ∧ i = .int .i64 k ∧ 1 ≤ q ∧ q ≤ 1001 ∧ Hid (min q 501 = min (1 + (sumL (fsz St) (args.take k) : Int)) 501) ∧ Hid (Below wS.heap.size wS wr)) (fun _ i _ => args.length - (intOf i).toNat)
  case atStart => exact ⟨0, 1, by omega, by first | rfl | trivial, by first | rfl | trivial, by omega, by omega, Lib.hid (by rw [List.take_zero, sumL]; rfl), Lib.hid (Below.refl _ _)⟩
  case round =>
    obtain ⟨k, q, hk, rfl, rfl, hq1, hq2, HQ, HW⟩ := hrel
    have HBW := Lib.hid (bt BS.out HW.out)
    obtain ⟨e0, e1, e2, e3⟩ := cells4 ((HW.out.block w.heap.size HZS.out).trans XS.out)
    by_cases hlt : k < args.length
    · have hlti : (k : Int) < (args.length : Int) := by omega
      by_cases h5 : q ≤ 500
      · have d5 : decide (q ≤ 500) = true := decide_eq_true h5
        obtain ⟨b, o, rfl, hb, hr⟩ := HA.out.at (by omega)
        obtain ⟨A', c', y0, y1, y2, y3, hin⟩ := hr _ HW.out k hlt
        have CALL := Lib.hid (HI.out args[k] (List.getElem_mem hlt) _ wr hin (HU.out.later HBW.out))
        have htk := sumL_take (fsz St) args k hlt
        have hq9 := HQ.out
        obtain ⟨s, hs⟩ : ∃ s : Int, s = min (fsz St args[k] : Int) 501 := ⟨_, rfl⟩
        rw [← hs] at CALL
        have HN := Lib.hid (show min (q + s) 501 = min (1 + (sumL (fsz St) (args.take (k + 1)) : Int)) 501 by rw [hs]; omega)
        have hs1 : 0 ≤ s := by omega
        have hs2 : s ≤ 501 := by omega
        have wq : IntKind.i64.wrap (q + s) = q + s := IntWalk.i64_in _ (by omega)
        obtain ⟨E, hE⟩ : ∃ E, E = args[k] := ⟨_, rfl⟩
        rw [← hE] at y0 y1 y2 y3 CALL
        unfold tv at CALL
        have h9 : q + s ≤ 1001 := by omega
        have h8 : 1 ≤ q + s := by omega
        clear hr hin hb HI hE htk hq9 hs HQ
        go_wp2_with fail
        refine CALL.out.mono ?_; rintro e w5 ⟨rfl, b5⟩
        have B5 := Lib.hid (bt HW.out b5)
        clear b5 CALL e0 e1 e2 e3 y0 y1 y2 y3
        go_wp2
        go_roundw
        case rel => exact ⟨k + 1, q + s, by omega, by first | rfl | go_num, by go_num, h8, h9, HN, B5⟩
        case measure => simp [intOf]; omega
      · have d5 : decide (q ≤ 500) = false := decide_eq_false h5
        have hle := sumL_take_le (fsz St) args k
        have hq9 := HQ.out
        have hnd := HND.out
        by_cases h6 : 501 < q
        · have d6 : decide (501 < q) = true := decide_eq_true h6
          have RES := Lib.hid (show R = 501 by rw [HR.out]; omega)
          clear hle hq9 hnd HQ
          go_wp2
          go_ret
          exact ⟨by rw [RES.out]; rfl, HBW.out⟩
        · have d6 : decide (501 < q) = false := decide_eq_false h6
          have RES := Lib.hid (show R = q by rw [HR.out]; omega)
          clear hle hq9 hnd HQ
          go_wp2
          go_ret
          exact ⟨by rw [RES.out]; rfl, HBW.out⟩
    · obtain rfl : args.length = k := by omega
      have hge : ¬ (args.length : Int) < (args.length : Int) := by omega
      have hq9 := HQ.out
      rw [List.take_length] at hq9
      have hnd := HND.out
      by_cases h6 : 501 < q
      · have d6 : decide (501 < q) = true := decide_eq_true h6
        have RES := Lib.hid (show R = 501 by rw [HR.out]; omega)
        clear hq9 hnd HQ
        go_wp2
        go_ret
        exact ⟨by rw [RES.out]; rfl, HBW.out⟩
      · have d6 : decide (501 < q) = false := decide_eq_false h6
        have RES := Lib.hid (show R = q by rw [HR.out]; omega)
        clear hq9 hnd HQ
        go_wp2
        go_ret
        exact ⟨by rw [RES.out]; rfl, HBW.out⟩
open Classical in
set_option maxRecDepth 100000 in
set_option maxHeartbeats 4000000 in
theorem within_ok {P : Nat → Prop} {St : List TT} {rk : Int → Nat} (hst : StOk St rk) {rb : Nat} {v : Int} : ∀ V : TT, shp V = true → ∀ (x : Value) (w : World), TIn w any0 V x → RSub nx w P rb St → Calls Tryz.prog 56 #[.pointer (some ⟨rb, 0, none⟩), .int .i64 v, x] w fun e w' => e = .returned (.bool (decide (Occ St v V))) ∧ Below w.heap.size w w' := by
  refine res_ind hst ?_
  intro V hsh ih x w ⟨A, c, hv, hA⟩ hu
  subst hv
  have hR := resF_res hst V
  have OR := Lib.hid (show Occ St v V ↔ Occ St v (resF St V) from occ_res hR)
  have NB := Lib.hid (res_stop hR)
  have RS := Lib.hid (fun W (hW : Below w.heap.size w W) => head_ok hst (P := (· < w.heap.size)) (c := c) hsh ((hA.weak fun b hb _ => hb).later hW) ((hu.moveP rfl (P' := (· < w.heap.size)) (fun b hb _ => ⟨rfl, hb⟩) (Nat.le_refl _)).later hW))
  have HSH := Lib.hid (shp_head (res_shp hst hR hsh)).2.2
  have hl2 := (shp_head (res_shp hst hR hsh)).2.1
  have HI := Lib.hid ih
  obtain ⟨T, hT⟩ : ∃ T, T = resF St V := ⟨_, rfl⟩
  rw [← hT] at RS HSH hl2 OR NB HI
  have HU := Lib.hid hu
  unfold tv at RS ⊢
  obtain ⟨wA, hwA⟩ : ∃ z, z = w.alloc (.cells #[.int .i64 V.k, .string V.nm, .int .i64 V.vr, .slice A V.args.length c] 36) := ⟨_, rfl⟩
  have BA := Lib.hid (show Below w.heap.size w wA by rw [hwA]; exact below_alloc w _)
  have HX := Lib.hid (show wA.heap[w.heap.size]? = some (.cells #[.int .i64 V.k, .string V.nm, .int .i64 V.vr, .slice A V.args.length c] 36 (0, 0)) by rw [hwA]; exact heap_alloc_new w _)
  have HZ := Lib.hid (show wA.heap.size = w.heap.size + 1 by rw [hwA]; simp)
  have HWA := Lib.hid hwA
  clear ih hT hA hsh hR hwA hst hu
  go_enter Tryz.func56, Tryz.ntmps56
  obtain ⟨e0, e1, e2, e3⟩ := cells4 HX.out
  go_wp2_with fail
  try rw [← HWA.out]
  refine (RS.out _ BA.out).mono ?_; rintro e w1 ⟨A1, c1, rfl, hr1, hb1⟩
  have H1 := Lib.hid hb1
  have R1 := Lib.hid (hr1.later hb1)
  have X1 := Lib.hid ((hb1.block w.heap.size (by have := HZ.out; omega)).trans HX.out)
  clear e0 e1 e2 e3
  obtain ⟨f0, f1, f2, f3⟩ := froz4 X1.out
  obtain ⟨t0, t1, t2, t3⟩ := cells4 (cells_all (.int .i64 T.k) (.string T.nm) (.int .i64 T.vr) (.slice A1 T.args.length c1) X1.out)
  obtain ⟨g0, g1, g2, g3⟩ := cells4 X1.out
  clear hr1 hb1
  by_cases h7 : T.k = 7
  · have q7 : (T.k == 7) = true := by rw [h7]; rfl
    have RES : Hid (decide (Occ St v V) = (T.vr == v)) := Lib.hid (by rw [decide_eq_decide.2 (OR.out.trans (occ_var NB.out h7))]; rfl)
    clear h7
    go_wp2
    obtain ⟨wS, hwS⟩ : ∃ z, z = (((w1.setCell ⟨w.heap.size, 0, none⟩ (.int .i64 T.k)).setCell ⟨w.heap.size, 1, none⟩ (.string T.nm)).setCell ⟨w.heap.size, 2, none⟩ (.int .i64 T.vr)).setCell ⟨w.heap.size, 3, none⟩ (.slice A1 T.args.length c1) := ⟨_, rfl⟩
    have FS := Lib.hid (show Frm w1 wS (· = w.heap.size) by rw [hwS]; exact frm4 w1 w.heap.size _ _ _ _)
    have XS := Lib.hid (show wS.heap[w.heap.size]? = some (.cells #[.int .i64 T.k, .string T.nm, .int .i64 T.vr, .slice A1 T.args.length c1] 36 (0, 0)) by rw [hwS]; exact cells_all _ _ _ _ X1.out)
    rw [← hwS]
    clear hwS g0 g1 g2 g3 f0 f1 f2 f3 t0 t1 t2 t3
    have BS : Hid (Below w.heap.size w wS) := Lib.hid ((bt BA.out H1.out).trans (FS.out.below (fun q hq => by have : q = w.heap.size := hq; omega) (by have := H1.out.size; have := HZ.out; omega)))
    have HA := Lib.hid (R1.out.move (w' := wS) (P' := any0) (fun b hb (hp : b < w.heap.size) => ⟨FS.out.block b hb (by show ¬ b = w.heap.size; omega), trivial⟩) FS.out.size)
    have HZS := Lib.hid (show w.heap.size < wS.heap.size by have := FS.out.size; have := H1.out.size; have := HZ.out; omega)
    go_ret
    exact ⟨by rw [RES.out]; rfl, BS.out⟩
  · have q7 : (T.k == 7) = false := beq_eq_false_iff_ne.2 h7
    have OA := Lib.hid (OR.out.trans (occ_args (v := v) h7))
    clear h7
    go_wp2
    obtain ⟨wS, hwS⟩ : ∃ z, z = (((w1.setCell ⟨w.heap.size, 0, none⟩ (.int .i64 T.k)).setCell ⟨w.heap.size, 1, none⟩ (.string T.nm)).setCell ⟨w.heap.size, 2, none⟩ (.int .i64 T.vr)).setCell ⟨w.heap.size, 3, none⟩ (.slice A1 T.args.length c1) := ⟨_, rfl⟩
    have FS := Lib.hid (show Frm w1 wS (· = w.heap.size) by rw [hwS]; exact frm4 w1 w.heap.size _ _ _ _)
    have XS := Lib.hid (show wS.heap[w.heap.size]? = some (.cells #[.int .i64 T.k, .string T.nm, .int .i64 T.vr, .slice A1 T.args.length c1] 36 (0, 0)) by rw [hwS]; exact cells_all _ _ _ _ X1.out)
    rw [← hwS]
    clear hwS g0 g1 g2 g3 f0 f1 f2 f3 t0 t1 t2 t3
    have BS : Hid (Below w.heap.size w wS) := Lib.hid ((bt BA.out H1.out).trans (FS.out.below (fun q hq => by have : q = w.heap.size := hq; omega) (by have := H1.out.size; have := HZ.out; omega)))
    have HA := Lib.hid (R1.out.move (w' := wS) (P' := any0) (fun b hb (hp : b < w.heap.size) => ⟨FS.out.block b hb (by show ¬ b = w.heap.size; omega), trivial⟩) FS.out.size)
    have HZS := Lib.hid (show w.heap.size < wS.heap.size by have := FS.out.size; have := H1.out.size; have := HZ.out; omega)
    have ST := Lib.hid (Below.refl wS.heap.size wS)
    go_loopw [7] (fun i wr => ∃ k : Nat, k ≤ T.args.length ∧ i = .int .i64 k ∧ Hid (∀ a ∈ T.args.take k, ¬ Occ St v a) ∧ Hid (Below wS.heap.size wS wr)) (fun i _ => T.args.length - (intOf i).toNat)
    case atStart => exact ⟨0, by omega, by first | rfl | trivial, Lib.hid (by simp), ST⟩
    case round =>
      obtain ⟨k, hk, rfl, HQ, HW⟩ := hrel
      obtain ⟨e0, e1, e2, e3⟩ := cells4 ((HW.out.block w.heap.size HZS.out).trans XS.out)
      by_cases hlt : k < T.args.length
      · have hlti : (k : Int) < (T.args.length : Int) := by omega
        obtain ⟨b, o, rfl, hb, hr⟩ := HA.out.at (by omega)
        obtain ⟨A', c', x0, x1, x2, x3, hin⟩ := hr wr HW.out k hlt
        have CALL := Lib.hid (HI.out T.args[k] (List.getElem_mem hlt) _ wr hin (HU.out.later (bt BS.out HW.out)))
        have HTK : Hid (T.args.take (k + 1) = T.args.take k ++ [T.args[k]]) := Lib.hid (List.take_succ_eq_append_getElem hlt)
        have HMEM := Lib.hid (List.getElem_mem hlt)
        obtain ⟨E, hE⟩ : ∃ E, E = T.args[k] := ⟨_, rfl⟩
        rw [← hE] at x0 x1 x2 x3 CALL HTK HMEM
        unfold tv at CALL
        clear hr hin hb HI hE
        by_cases ho : Occ St v E
        · have HO := Lib.hid ho
          rw [decide_eq_true ho] at CALL
          have RES : Hid (decide (Occ St v V) = true) := Lib.hid (decide_eq_true (OA.out.2 ⟨E, HMEM.out, ho⟩))
          clear ho
          go_wp2_with fail
          refine CALL.out.mono ?_; rintro e w2 ⟨rfl, hb2⟩
          have HW1 := Lib.hid (bt BS.out (bt HW.out hb2))
          clear hb2 CALL x0 x1 x2 x3
          go_wp2
          go_ret
          exact ⟨by rw [RES.out]; rfl, HW1.out⟩
        · have HO := Lib.hid (show ∀ a ∈ T.args.take (k + 1), ¬ Occ St v a by
            intro a ha
            rw [HTK.out, List.mem_append] at ha
            rcases ha with ha | ha
            · exact HQ.out a ha
            · rw [List.mem_singleton] at ha; rw [ha]; exact ho)
          rw [decide_eq_false ho] at CALL
          clear ho
          go_wp2_with fail
          refine CALL.out.mono ?_; rintro e w2 ⟨rfl, hb2⟩
          have HW1 := Lib.hid (bt HW.out hb2)
          clear hb2 CALL x0 x1 x2 x3
          go_wp2
          go_roundw
          case rel => exact ⟨k + 1, by omega, by go_num, HO, HW1⟩
          case measure => simp [intOf]; omega
      · have RES : Hid (decide (Occ St v V) = false) := Lib.hid (decide_eq_false (fun h => by
          obtain ⟨a, ha, ho⟩ := OA.out.1 h
          have := HQ.out
          rw [List.take_of_length_le (by omega)] at this
          exact this a ha ho))
        have hge : ¬ (k : Int) < (T.args.length : Int) := by omega
        have HW1 := Lib.hid (bt BS.out HW.out)
        go_wp2
        go_ret
        exact ⟨by rw [RES.out]; rfl, HW1.out⟩
end Go.Proofs.YtifopogkbjhkjaaGreatDoor
