import Derived.Test.YtifopogkbjhkjaaDoorTx
namespace Go.Proofs.YtifopogkbjhkjaaDoor
open Go.ChangeShapes Go.WideShapes Go.ChangeAt Go.RowKit Go.WideMaps
set_option linter.unusedVariables false
set_option linter.unusedSimpArgs false
/-- a type whose variables are called otherwise. -/
def renT (f : Int → Option Int) : TT → TT
  | .mk k nm vr args => if k = 7 ∧ (f vr).isSome = true then varT ((f vr).getD 0) else .mk k nm vr (renL f args)
where renL (f : Int → Option Int) : List TT → List TT
  | [] => []
  | a :: l => renT f a :: renL f l
theorem renL_map (f : Int → Option Int) : ∀ l : List TT, renT.renL f l = l.map (renT f)
  | [] => by rw [renT.renL]; rfl
  | a :: l => by rw [renT.renL, renL_map f l]; rfl
theorem renT_var {f : Int → Option Int} {V : TT} {y : Int} (h : V.k = 7) (hy : f V.vr = some y) : renT f V = varT y := by
  cases V with | mk k nm vr args => rw [renT]; rw [if_pos ⟨h, by rw [show f vr = some y from hy]; rfl⟩, show f vr = some y from hy]; rfl
theorem renT_not {f : Int → Option Int} {V : TT} (h : ¬ (V.k = 7 ∧ (f V.vr).isSome = true)) : renT f V = .mk V.k V.nm V.vr (V.args.map (renT f)) := by
  cases V with | mk k nm vr args => rw [renT]; have h2 : ¬ (k = 7 ∧ (f vr).isSome = true) := h; rw [if_neg h2, renL_map]; rfl
theorem take_map {f : TT → TT} {l : List TT} {k : Nat} (h : k < l.length) : (l.take (k + 1)).map f = (l.take k).map f ++ [f l[k]] := by
  rw [List.take_succ_eq_append_getElem h, List.map_append]; rfl
set_option maxRecDepth 100000 in
set_option maxHeartbeats 8000000 in
theorem ren_any : ∀ (d : Nat) (V : TT) (v : Value) (w : World) (M nn : Nat) (f : Int → Option Int), bigT d V = false → shp V = true → MN w M nn f → TIn w any0 V v →
    Calls Tryd.prog 31 #[v, .map (some M)] w (CpPost w (renT f V)) := by
  intro d
  induction d with
  | zero => intro V v w M nn f h; cases h
  | succ d ih =>
  intro V v w M nn f hbg hsh hmn ⟨A, c, hv, hA⟩
  obtain ⟨i0, hi0, hz0, hz1, hz2⟩ := info_parts infoT
  obtain ⟨hl4, -, b3⟩ := bigT_parts hbg
  subst hv
  have HI := Lib.hid ih
  have HBG := Lib.hid b3
  have hsh2 := hsh
  rw [shp_eq, Bool.and_eq_true] at hsh2
  obtain ⟨hv0, hv1, -, -, -⟩ := head_var hsh2.1
  have HSH := Lib.hid ((shpL_all _).1 hsh2.2)
  have HRV := Lib.hid (fun (y : Int) (h7 : V.k = 7) (hy : f V.vr = some y) => renT_var h7 hy)
  have HRN := Lib.hid (fun (h : ¬ (V.k = 7 ∧ (f V.vr).isSome = true)) => renT_not h)
  obtain ⟨R, hR⟩ : ∃ R, R = renT f V := ⟨_, rfl⟩
  rw [← hR] at HRV HRN ⊢
  unfold tv
  obtain ⟨args, ha⟩ : ∃ l, l = V.args := ⟨_, rfl⟩
  rw [← ha] at hA HBG hl4 HSH HRN ⊢
  have HA := Lib.hid hA
  obtain ⟨wB, hwB⟩ : ∃ z, z = (w.alloc (.cells #[.int .i64 V.k, .string V.nm, .int .i64 V.vr, .slice A args.length c] 24)).alloc (.cells #[.int .i64 0, .string ⟨#[]⟩, .int .i64 0, .slice none 0 0] 24) := ⟨_, rfl⟩
  have hba : Below w.heap.size w wB := by rw [hwB]; exact bt (below_alloc w _) (below_alloc _ _)
  have hza : wB.heap.size = w.heap.size + 2 := by rw [hwB]; simp
  have BXA := two_box (w := w) (.cells #[.int .i64 V.k, .string V.nm, .int .i64 V.vr, .slice A args.length c] 24) (.cells #[.int .i64 0, .string ⟨#[]⟩, .int .i64 0, .slice none 0 0] 24)
  rw [← hwB] at BXA
  obtain ⟨u0, u1, u2, u3⟩ := cell4 BXA.1
  obtain ⟨D, hown, hD, hhas, hat⟩ := hmn.below hba
  have HMN := Lib.hid hmn
  have hkey := Maps.keyOf_int_mk (P := Tryd.prog) Tryd.underlying3 (wf_int (show -9223372036854775808 ≤ V.vr by omega) (by omega))
  have hh := hhas V.vr
  have HAT := Lib.hid (hat V.vr)
  have HB := Lib.hid hba; have HZ := Lib.hid hza; have BX := Lib.hid BXA
  have HWB := Lib.hid hwB
  rw [hwB] at hown
  clear ih hbg b3 ha hA hba hza hsh hsh2 hmn hhas hat hD hv0 hv1 BXA hwB hR
  cases hy : f V.vr with
  | some y =>
    by_cases h7 : V.k = 7
    · have q7 : (V.k == 7) = true := by rw [h7]; rfl
      rw [hy] at hh
      change _ = true at hh
      have CLY : Hid (∀ cc : Int, D.atKey (.int .i64 V.vr) (.lit (.int .i64 0)) = .lit (.int .i64 cc) → cc = y) := Lib.hid (fun cc hcc => mn_found (HAT.out y hy) hcc)
      have HREQ := Lib.hid (HRV.out y h7 hy)
      clear hy h7 HI HBG HSH HA HAT HRV HRN
      go_enter Tryd.func31, Tryd.ntmps31
      go_wp2_with (first
        | (at_lookup; refine wpList_lookup_own_ok_int _ rfl _ _ 52 rfl TI TI .i64 law3 Tryd.underlying52 Tryd.underlying3 (zero3 _) M nn D rfl hown _ _ rfl hkey ?_; intro cL hatc hwc; rw [hh]; obtain rfl := CLY.out cL hatc; clear hatc hwc CLY)
        | fail)
      rw [← HWB.out]
      refine (variable_any _ _).mono ?_; rintro e w1 ⟨rfl, b1⟩
      have hb1 : Below w.heap.size w w1 := bt HB.out b1
      have hs1 := (b1.block (w.heap.size + 1) (by rw [HZ.out]; omega)).trans BX.out.2
      rw [show tv (varT cL) none 0 = .agg #[.int .i64 7, .string ⟨#[]⟩, .int .i64 cL, .slice none 0 0] from rfl]
      obtain ⟨⟨y0, y1, y2, y3⟩, k0, k1, k2, k3⟩ := zero_cells hs1
      obtain ⟨t0, t1, t2, t3⟩ := set4_cells (.int .i64 7) (.string ⟨#[]⟩) (.int .i64 cL) (.slice none 0 0) hs1
      have M1 := Lib.hid (set4_below (.int .i64 7) (.string ⟨#[]⟩) (.int .i64 cL) (.slice none 0 0) hb1 (Nat.le_succ w.heap.size))
      clear b1 hb1 hs1
      go_wp2
      (try simp only [Exit.inBlock, Exit.then])
      refine bodyPost_ret (by simp [results, Tryd.results31, go_sem, t0, t1, t2, t3]; try rfl) rfl ?_
      refine ⟨none, 0, ?_, .inl ?_, M1.out⟩
      · rw [HREQ.out]; rfl
      · rw [HREQ.out]; rfl
    · have q7 : (V.k == 7) = false := beq_eq_false_iff_ne.2 h7
      have HREQ := Lib.hid (HRN.out (fun h => h7 h.1))
      rw [hy] at hh
      change _ = true at hh
      clear hy h7 HAT HRV HRN
      go_enter Tryd.func31, Tryd.ntmps31
      go_wp2_with (first
        | (at_lookup; refine wpList_lookup_own_ok_int _ rfl _ _ 52 rfl TI TI .i64 law3 Tryd.underlying52 Tryd.underlying3 (zero3 _) M nn D rfl hown _ _ rfl hkey ?_; intro cL hatc hwc; rw [hh]; clear hatc hwc)
        | fail)
      rw [← HWB.out]
      go_loopw [7, 28] (fun vv i wr => ∃ (k : Nat) (v : Value) (xs : List Value), v = vv ∧ k ≤ args.length ∧ i = .int .i64 k ∧ Hid (CpS wB wr v k ((args.take k).map (renT f)) xs)) (fun _ i _ => args.length - (intOf i).toNat)
      case atStart => exact ⟨0, _, [], rfl, by omega, rfl, Lib.hid (by rw [List.take_zero]; exact cp_start wB)⟩
      case round =>
        obtain ⟨k, v, xs, rfl, hk, rfl, HS⟩ := hrel
        by_cases hlt : k < args.length
        · have hlti : (k : Int) < (args.length : Int) := by omega
          obtain ⟨b, o, rfl, hb, hr⟩ := HA.out.at (by omega)
          have hBr : Below w.heap.size w wr := bt HB.out HS.out.bel
          obtain ⟨A', c', x0, x1, x2, x3, hin⟩ := hr wr hBr k hlt
          obtain ⟨U, hU⟩ : ∃ U, U = renT f args[k] := ⟨_, rfl⟩
          have CALL : Hid (∀ W, Below wr.heap.size wr W → Calls Tryd.prog 31 #[.agg #[.int .i64 args[k].k, .string args[k].nm, .int .i64 args[k].vr, .slice A' args[k].args.length c'], .map (some M)] W (CpPost W U)) := Lib.hid (fun W hW => hU ▸ HI.out args[k] _ W M nn f (HBG.out _ (List.getElem_mem hlt)) (HSH.out _ (List.getElem_mem hlt)) ((HMN.out.below hBr).below hW) (hin.later hW))
          have HT : Hid ((args.take (k + 1)).map (renT f) = (args.take k).map (renT f) ++ [U]) := Lib.hid (hU ▸ take_map hlt)
          obtain ⟨Ar, cr, rfl⟩ := vform HS.out.own
          have hs0 := HS.out.bel.size
          clear hr hin hb HI hBr hU
          go_wp2_with fail
          refine (CALL.out _ (below_alloc wr _)).mono ?_; rintro e w2 ⟨A2, c2, rfl, hr2, hb2⟩
          have hsz1 : (wr.alloc (.cells #[.int .i64 args[k].k, .string args[k].nm, .int .i64 args[k].vr, .slice A' args[k].args.length c'] 24)).heap.size = wr.heap.size + 1 := by simp
          have B2 := Lib.hid (bt (below_alloc wr (.cells #[.int .i64 args[k].k, .string args[k].nm, .int .i64 args[k].vr, .slice A' args[k].args.length c'] 24)) hb2)
          have R2 : Hid (TRow w2 (wr.heap.size ≤ ·) A2 U.args) := Lib.hid (hr2.weak (fun b _ h => by rw [hsz1] at h; omega))
          have OW2 := Lib.hid (own_bl HS.out.own B2.out)
          have hs2 := B2.out.size
          clear hr2 hb2 CALL x0 x1 x2 x3 hsz1
          unfold tv
          go_wp2_with (at_builtin; refine wpList_append_lies _ rfl (.tmp 32) (.tmp 36) 22 rfl wB.heap.size TT24 i0 (.agg #[.int .i64 0, .string .empty, .int .i64 0, .slice none 0 0]) 4 56 Tryd.underlying22 hi0 hz0 hz1 hz2 rfl (by decide) (.slice Ar k cr) k xs rfl (OW2.out.alloc _) ⟨w2.heap.size, 0, none⟩ 1 1 (kidT U A2 c2) rfl rfl (kid_news (by have := heap_alloc_new w2 (.cells #[.int .i64 U.k, .string U.nm, .int .i64 U.vr, .slice A2 U.args.length c2] 24); simpa using this)) (kid_one _ _ _) (by omega) (by unfold maxLen; omega) (by omega) (by simp; omega) (w2.heap.size + 1) (by simp) ?_; intro g cap w4 own4 gr4 at4 hlt4)
          have ST4 : Hid (CpS wB w4 (.slice (some ⟨g, 0, none⟩) (k + 1) cap) (k + 1) ((args.take (k + 1)).map (renT f)) (xs ++ kidT U A2 c2)) := Lib.hid (by
            rw [HT.out]
            exact cp_step HS.out B2.out R2.out _ own4 gr4 (by
              rcases at4 with e | e
              · exact .inl e.symm
              · right; rw [e]; simp [Value.ownBlock]))
          clear own4 gr4 at4 OW2 R2 B2
          go_wp2
          go_roundw
          case rel => exact ⟨k + 1, _, _, rfl, by omega, by go_num, ST4⟩
          case measure => simp [intOf]; omega
        · obtain rfl : k = args.length := by omega
          have hge : ¬ (args.length : Int) < (args.length : Int) := by omega
          obtain ⟨A', c', rfl, hrow⟩ := cp_fin HS.out
          rw [List.take_length] at hrow
          have HROW := Lib.hid hrow
          have hbx : wr.heap[w.heap.size]? = some (.cells #[.int .i64 V.k, .string V.nm, .int .i64 V.vr, .slice A args.length c] 24 (0, 0)) := (HS.out.bel.block w.heap.size (by have := HZ.out; omega)).trans BX.out.1
          have hrs : wr.heap[w.heap.size + 1]? = some (.cells #[.int .i64 0, .string ⟨#[]⟩, .int .i64 0, .slice none 0 0] 24 (0, 0)) := (HS.out.bel.block (w.heap.size + 1) (by have := HZ.out; omega)).trans BX.out.2
          obtain ⟨z0, z1, z2, z3⟩ := cell4 hbx
          have y0 : wr.cell? ⟨w.heap.size + 1, 0, none⟩ = some (.int .i64 0) := by simp [World.cell?, hrs]
          have y1 : wr.cell? ⟨w.heap.size + 1, 1, none⟩ = some (.string ⟨#[]⟩) := by simp [World.cell?, hrs]
          have y2 : wr.cell? ⟨w.heap.size + 1, 2, none⟩ = some (.int .i64 0) := by simp [World.cell?, hrs]
          have y3 : wr.cell? ⟨w.heap.size + 1, 3, none⟩ = some (.slice none 0 0) := by simp [World.cell?, hrs]
          have f0 : ∀ j, wr.frozen? ⟨w.heap.size, j, none⟩ = false := fun j => by simp [World.frozen?, hbx]
          have f1 : ∀ j, wr.frozen? ⟨w.heap.size + 1, j, none⟩ = false := fun j => by simp [World.frozen?, hrs]
          have g3 := f0 3
          have k0 := f1 0; have k1 := f1 1; have k2 := f1 2; have k3 := f1 3
          have HBX := Lib.hid hbx
          have HRS := Lib.hid hrs
          clear hrow hbx hrs f0 f1
          have BWR := Lib.hid (bt HB.out (HS.out.bel.mono (by have := HZ.out; omega)))
          have SZ := HS.out.bel.size
          have hsz2 := HZ.out
          go_wp2
          obtain ⟨wf, hwf⟩ : ∃ wf, wf = (((((wr.setCell ⟨w.heap.size, 3, none⟩ (.slice A' args.length c')).setCell ⟨w.heap.size + 1, 0, none⟩ (.int .i64 V.k)).setCell ⟨w.heap.size + 1, 1, none⟩ (.string V.nm)).setCell ⟨w.heap.size + 1, 2, none⟩ (.int .i64 V.vr)).setCell ⟨w.heap.size + 1, 3, none⟩ (.slice A' args.length c')) := ⟨_, rfl⟩
          rw [← hwf]
          have hf : wf.heap[w.heap.size + 1]? = some (.cells #[.int .i64 V.k, .string V.nm, .int .i64 V.vr, .slice A' args.length c'] 24 (0, 0)) := by rw [hwf]; simp [World.setCell, Array.getElem?_modify, HRS.out]
          have HK : Hid (∀ b, wB.heap.size ≤ b → wf.heap[b]? = wr.heap[b]?) := Lib.hid (fun b hb => by
            rw [hwf, Below.heap_setCell _ _ _ _ (by show b ≠ w.heap.size + 1; omega), Below.heap_setCell _ _ _ _ (by show b ≠ w.heap.size + 1; omega), Below.heap_setCell _ _ _ _ (by show b ≠ w.heap.size + 1; omega), Below.heap_setCell _ _ _ _ (by show b ≠ w.heap.size + 1; omega), Below.heap_setCell _ _ _ _ (by show b ≠ w.heap.size; omega)])
          have HBF : Hid (Below w.heap.size w wf) := Lib.hid (by
            rw [hwf]
            exact ((((BWR.out.setCell (Nat.le_refl _) _).setCell (Nat.le_succ _) _).setCell (Nat.le_succ _) _).setCell (Nat.le_succ _) _).setCell (Nat.le_succ _) _)
          have HSZF : Hid (wf.heap.size = wr.heap.size) := Lib.hid (by rw [hwf]; simp [World.setCell])
          have t0 : wf.cell? ⟨w.heap.size + 1, 0, none⟩ = some (.int .i64 V.k) := by simp [World.cell?, hf]
          have t1 : wf.cell? ⟨w.heap.size + 1, 1, none⟩ = some (.string V.nm) := by simp [World.cell?, hf]
          have t2 : wf.cell? ⟨w.heap.size + 1, 2, none⟩ = some (.int .i64 V.vr) := by simp [World.cell?, hf]
          have t3 : wf.cell? ⟨w.heap.size + 1, 3, none⟩ = some (.slice A' args.length c') := by simp [World.cell?, hf]
          clear hf hwf y0 y1 y2 y3 z0 z1 z2 z3 g3 k0 k1 k2 k3
          (try simp only [Exit.inBlock, Exit.then])
          refine bodyPost_ret (by simp [results, Tryd.results31, go_sem, t0, t1, t2, t3]; try rfl) rfl ?_
          refine ⟨A', c', ?_, ?_, HBF.out⟩
          · rw [HREQ.out]
            show Ending.returned _ = Ending.returned (.agg #[.int .i64 V.k, .string V.nm, .int .i64 V.vr, .slice A' (args.map (renT f)).length c'])
            rw [List.length_map]
          · rw [HREQ.out]
            show TRow wf _ A' (args.map (renT f))
            exact HROW.out.move (fun b hb hp => ⟨HK.out b hp, Nat.le_trans (by omega) hp⟩) (by have := HSZF.out; omega)
  | none =>
    have HREQ := Lib.hid (HRN.out (fun h => by rw [hy] at h; exact absurd h.2 (by simp)))
    rw [hy] at hh
    change _ = false at hh
    clear hy HAT HRV HRN
    go_enter Tryd.func31, Tryd.ntmps31
    go_wp2_with (first
      | (at_lookup; refine wpList_lookup_own_ok_int _ rfl _ _ 52 rfl TI TI .i64 law3 Tryd.underlying52 Tryd.underlying3 (zero3 _) M nn D rfl hown _ _ rfl hkey ?_; intro cL hatc hwc; rw [hh]; clear hatc hwc)
      | fail)
    rw [← HWB.out]
    go_loopw [7, 28] (fun vv i wr => ∃ (k : Nat) (v : Value) (xs : List Value), v = vv ∧ k ≤ args.length ∧ i = .int .i64 k ∧ Hid (CpS wB wr v k ((args.take k).map (renT f)) xs)) (fun _ i _ => args.length - (intOf i).toNat)
    case atStart => exact ⟨0, _, [], rfl, by omega, rfl, Lib.hid (by rw [List.take_zero]; exact cp_start wB)⟩
    case round =>
      obtain ⟨k, v, xs, rfl, hk, rfl, HS⟩ := hrel
      by_cases hlt : k < args.length
      · have hlti : (k : Int) < (args.length : Int) := by omega
        obtain ⟨b, o, rfl, hb, hr⟩ := HA.out.at (by omega)
        have hBr : Below w.heap.size w wr := bt HB.out HS.out.bel
        obtain ⟨A', c', x0, x1, x2, x3, hin⟩ := hr wr hBr k hlt
        obtain ⟨U, hU⟩ : ∃ U, U = renT f args[k] := ⟨_, rfl⟩
        have CALL : Hid (∀ W, Below wr.heap.size wr W → Calls Tryd.prog 31 #[.agg #[.int .i64 args[k].k, .string args[k].nm, .int .i64 args[k].vr, .slice A' args[k].args.length c'], .map (some M)] W (CpPost W U)) := Lib.hid (fun W hW => hU ▸ HI.out args[k] _ W M nn f (HBG.out _ (List.getElem_mem hlt)) (HSH.out _ (List.getElem_mem hlt)) ((HMN.out.below hBr).below hW) (hin.later hW))
        have HT : Hid ((args.take (k + 1)).map (renT f) = (args.take k).map (renT f) ++ [U]) := Lib.hid (hU ▸ take_map hlt)
        obtain ⟨Ar, cr, rfl⟩ := vform HS.out.own
        have hs0 := HS.out.bel.size
        clear hr hin hb HI hBr hU
        go_wp2_with fail
        refine (CALL.out _ (below_alloc wr _)).mono ?_; rintro e w2 ⟨A2, c2, rfl, hr2, hb2⟩
        have hsz1 : (wr.alloc (.cells #[.int .i64 args[k].k, .string args[k].nm, .int .i64 args[k].vr, .slice A' args[k].args.length c'] 24)).heap.size = wr.heap.size + 1 := by simp
        have B2 := Lib.hid (bt (below_alloc wr (.cells #[.int .i64 args[k].k, .string args[k].nm, .int .i64 args[k].vr, .slice A' args[k].args.length c'] 24)) hb2)
        have R2 : Hid (TRow w2 (wr.heap.size ≤ ·) A2 U.args) := Lib.hid (hr2.weak (fun b _ h => by rw [hsz1] at h; omega))
        have OW2 := Lib.hid (own_bl HS.out.own B2.out)
        have hs2 := B2.out.size
        clear hr2 hb2 CALL x0 x1 x2 x3 hsz1
        unfold tv
        go_wp2_with (at_builtin; refine wpList_append_lies _ rfl (.tmp 32) (.tmp 36) 22 rfl wB.heap.size TT24 i0 (.agg #[.int .i64 0, .string .empty, .int .i64 0, .slice none 0 0]) 4 56 Tryd.underlying22 hi0 hz0 hz1 hz2 rfl (by decide) (.slice Ar k cr) k xs rfl (OW2.out.alloc _) ⟨w2.heap.size, 0, none⟩ 1 1 (kidT U A2 c2) rfl rfl (kid_news (by have := heap_alloc_new w2 (.cells #[.int .i64 U.k, .string U.nm, .int .i64 U.vr, .slice A2 U.args.length c2] 24); simpa using this)) (kid_one _ _ _) (by omega) (by unfold maxLen; omega) (by omega) (by simp; omega) (w2.heap.size + 1) (by simp) ?_; intro g cap w4 own4 gr4 at4 hlt4)
        have ST4 : Hid (CpS wB w4 (.slice (some ⟨g, 0, none⟩) (k + 1) cap) (k + 1) ((args.take (k + 1)).map (renT f)) (xs ++ kidT U A2 c2)) := Lib.hid (by
          rw [HT.out]
          exact cp_step HS.out B2.out R2.out _ own4 gr4 (by
            rcases at4 with e | e
            · exact .inl e.symm
            · right; rw [e]; simp [Value.ownBlock]))
        clear own4 gr4 at4 OW2 R2 B2
        go_wp2
        go_roundw
        case rel => exact ⟨k + 1, _, _, rfl, by omega, by go_num, ST4⟩
        case measure => simp [intOf]; omega
      · obtain rfl : k = args.length := by omega
        have hge : ¬ (args.length : Int) < (args.length : Int) := by omega
        obtain ⟨A', c', rfl, hrow⟩ := cp_fin HS.out
        rw [List.take_length] at hrow
        have HROW := Lib.hid hrow
        have hbx : wr.heap[w.heap.size]? = some (.cells #[.int .i64 V.k, .string V.nm, .int .i64 V.vr, .slice A args.length c] 24 (0, 0)) := (HS.out.bel.block w.heap.size (by have := HZ.out; omega)).trans BX.out.1
        have hrs : wr.heap[w.heap.size + 1]? = some (.cells #[.int .i64 0, .string ⟨#[]⟩, .int .i64 0, .slice none 0 0] 24 (0, 0)) := (HS.out.bel.block (w.heap.size + 1) (by have := HZ.out; omega)).trans BX.out.2
        obtain ⟨z0, z1, z2, z3⟩ := cell4 hbx
        have y0 : wr.cell? ⟨w.heap.size + 1, 0, none⟩ = some (.int .i64 0) := by simp [World.cell?, hrs]
        have y1 : wr.cell? ⟨w.heap.size + 1, 1, none⟩ = some (.string ⟨#[]⟩) := by simp [World.cell?, hrs]
        have y2 : wr.cell? ⟨w.heap.size + 1, 2, none⟩ = some (.int .i64 0) := by simp [World.cell?, hrs]
        have y3 : wr.cell? ⟨w.heap.size + 1, 3, none⟩ = some (.slice none 0 0) := by simp [World.cell?, hrs]
        have f0 : ∀ j, wr.frozen? ⟨w.heap.size, j, none⟩ = false := fun j => by simp [World.frozen?, hbx]
        have f1 : ∀ j, wr.frozen? ⟨w.heap.size + 1, j, none⟩ = false := fun j => by simp [World.frozen?, hrs]
        have g3 := f0 3
        have k0 := f1 0; have k1 := f1 1; have k2 := f1 2; have k3 := f1 3
        have HBX := Lib.hid hbx
        have HRS := Lib.hid hrs
        clear hrow hbx hrs f0 f1
        have BWR := Lib.hid (bt HB.out (HS.out.bel.mono (by have := HZ.out; omega)))
        have SZ := HS.out.bel.size
        have hsz2 := HZ.out
        go_wp2
        obtain ⟨wf, hwf⟩ : ∃ wf, wf = (((((wr.setCell ⟨w.heap.size, 3, none⟩ (.slice A' args.length c')).setCell ⟨w.heap.size + 1, 0, none⟩ (.int .i64 V.k)).setCell ⟨w.heap.size + 1, 1, none⟩ (.string V.nm)).setCell ⟨w.heap.size + 1, 2, none⟩ (.int .i64 V.vr)).setCell ⟨w.heap.size + 1, 3, none⟩ (.slice A' args.length c')) := ⟨_, rfl⟩
        rw [← hwf]
        have hf : wf.heap[w.heap.size + 1]? = some (.cells #[.int .i64 V.k, .string V.nm, .int .i64 V.vr, .slice A' args.length c'] 24 (0, 0)) := by rw [hwf]; simp [World.setCell, Array.getElem?_modify, HRS.out]
        have HK : Hid (∀ b, wB.heap.size ≤ b → wf.heap[b]? = wr.heap[b]?) := Lib.hid (fun b hb => by
          rw [hwf, Below.heap_setCell _ _ _ _ (by show b ≠ w.heap.size + 1; omega), Below.heap_setCell _ _ _ _ (by show b ≠ w.heap.size + 1; omega), Below.heap_setCell _ _ _ _ (by show b ≠ w.heap.size + 1; omega), Below.heap_setCell _ _ _ _ (by show b ≠ w.heap.size + 1; omega), Below.heap_setCell _ _ _ _ (by show b ≠ w.heap.size; omega)])
        have HBF : Hid (Below w.heap.size w wf) := Lib.hid (by
          rw [hwf]
          exact ((((BWR.out.setCell (Nat.le_refl _) _).setCell (Nat.le_succ _) _).setCell (Nat.le_succ _) _).setCell (Nat.le_succ _) _).setCell (Nat.le_succ _) _)
        have HSZF : Hid (wf.heap.size = wr.heap.size) := Lib.hid (by rw [hwf]; simp [World.setCell])
        have t0 : wf.cell? ⟨w.heap.size + 1, 0, none⟩ = some (.int .i64 V.k) := by simp [World.cell?, hf]
        have t1 : wf.cell? ⟨w.heap.size + 1, 1, none⟩ = some (.string V.nm) := by simp [World.cell?, hf]
        have t2 : wf.cell? ⟨w.heap.size + 1, 2, none⟩ = some (.int .i64 V.vr) := by simp [World.cell?, hf]
        have t3 : wf.cell? ⟨w.heap.size + 1, 3, none⟩ = some (.slice A' args.length c') := by simp [World.cell?, hf]
        clear hf hwf y0 y1 y2 y3 z0 z1 z2 z3 g3 k0 k1 k2 k3
        (try simp only [Exit.inBlock, Exit.then])
        refine bodyPost_ret (by simp [results, Tryd.results31, go_sem, t0, t1, t2, t3]; try rfl) rfl ?_
        refine ⟨A', c', ?_, ?_, HBF.out⟩
        · rw [HREQ.out]
          show Ending.returned _ = Ending.returned (.agg #[.int .i64 V.k, .string V.nm, .int .i64 V.vr, .slice A' (args.map (renT f)).length c'])
          rw [List.length_map]
        · rw [HREQ.out]
          show TRow wf _ A' (args.map (renT f))
          exact HROW.out.move (fun b hb hp => ⟨HK.out b hp, Nat.le_trans (by omega) hp⟩) (by have := HSZF.out; omega)
end Go.Proofs.YtifopogkbjhkjaaDoor
