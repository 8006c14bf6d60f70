import Derived.Test.YtifopogkbjhkjaaDoorSi
namespace Go.Proofs.YtifopogkbjhkjaaDoor
open DR
open Go.ChangeShapes Go.WideShapes Go.ChangeAt Go.RowKit Go.WideMaps
set_option linter.unusedVariables false
set_option linter.unusedSimpArgs false
set_option maxRecDepth 100000 in
set_option maxHeartbeats 8000000 in
/-- Close, in an env that has the type as it is. -/
theorem close1 {V : TT} {v : Value} {sb ge ce ca0 : Nat} {Ae : Option Addr} {n : Int} {w : World} (hge : w.heap[ge]? = some (.cells #[.slice none 0 0, .int .i64 V.k, .string V.nm, .int .i64 V.vr, .slice Ae V.args.length ce] SchT (0, 0))) (hae : TRow w any0 Ae V.args) (hbg : bigT 7 V = false) (hg : goodT V = true) (hs : SubE w sb n) (h : TIn w any0 V v) :
    Calls Tryd.prog 14 #[.pointer (some ⟨sb, 0, none⟩), v, .slice (some ⟨ge, 0, none⟩) 1 ca0] w (ClPost w V 0) := by
  obtain ⟨i0, hi0, hz0, hz1, hz2⟩ := info_parts infoI
  have hsh : shp V = true := by have q := hg; unfold goodT at q; rw [Bool.and_eq_true] at q; exact q.2
  have HRG := Lib.hid (vars_in V [] hsh (fun _ h => by cases h))
  have hvf : (varsOf V).length ≤ 99 := by have := vars_few 6 V [] hbg hsh; unfold varsOf; simp at this; omega
  have hin := h
  obtain ⟨A, c, rfl, -⟩ := h
  have CG := Lib.hid (fun W (hW : Below w.heap.size w W) => good_any (Nat.le_refl 7) hbg (hin.later hW))
  have CA := Lib.hid (fun W (hW : Below w.heap.size w W) => apply_any (Nat.le_refl 7) hbg hg (hs.below hW) (hin.later hW))
  have CV := Lib.hid (fun W A' c' (h : TRow W any0 A' V.args) => vars_any (Nat.le_refl 7) hbg hsh (⟨A', c', rfl, h⟩ : TIn W any0 V (tv V A' c')))
  have CG1 := Lib.hid (fun W (hW : Below w.heap.size w W) => sgood0 (c := ce) (Nat.le_refl 7) hbg hg (hae.later hW))
  have CF := Lib.hid (fun W (hW : Below w.heap.size w W) => free_any (c := ce) hbg hsh (hs.below hW) (hae.later hW))
  unfold scv at CG1 CF
  rw [hg] at CG
  have HGE := Lib.hid hge
  have hmm := @run_makeMap Tryd.prog
  obtain ⟨vs, hvs⟩ : ∃ vs, vs = varsOf V := ⟨_, rfl⟩
  have HRG : Hid (∀ x ∈ vs, 0 ≤ x ∧ x ≤ 1999) := Lib.hid (by rw [hvs]; exact HRG.out)
  rw [← hvs] at hvf CV CF
  unfold tv at CG CA CV ⊢
  obtain ⟨wB, hwB⟩ : ∃ z, z = (w.alloc (.cells #[.int .i64 V.k, .string V.nm, .int .i64 V.vr, .slice A V.args.length c] 24)).alloc (.cells #[.slice none 0 0, .int .i64 0, .string ⟨#[]⟩, .int .i64 0, .slice none 0 0] SchT) := ⟨_, rfl⟩
  have BX := two_box (w := w) (.cells #[.int .i64 V.k, .string V.nm, .int .i64 V.vr, .slice A V.args.length c] 24) (.cells #[.slice none 0 0, .int .i64 0, .string ⟨#[]⟩, .int .i64 0, .slice none 0 0] SchT)
  rw [← hwB] at BX
  have HB := Lib.hid (show Below w.heap.size w wB by rw [hwB]; exact bt (below_alloc w _) (below_alloc _ _))
  have HZ := Lib.hid (show wB.heap.size = w.heap.size + 2 by rw [hwB]; simp)
  have HX := Lib.hid BX
  obtain ⟨x0, x1, x2, x3⟩ := cell4 BX.1
  have HWB := Lib.hid hwB
  have HVS := Lib.hid hvs
  clear hbg hsh hg hs hin hwB BX hvs hge hae
  go_enter Tryd.func14, Tryd.ntmps14
  go_wp2_with fail
  rw [← HWB.out]
  try go_wp2_with fail
  refine (CG.out _ HB.out).mono ?_; rintro e w1 ⟨rfl, b1⟩
  obtain ⟨w2, hw2⟩ : ∃ z, z = w1.alloc (.map #[] 0) := ⟨_, rfl⟩
  have b2 : Below wB.heap.size wB w2 := by rw [hw2]; exact bt b1 (below_alloc w1 _)
  have HM := Lib.hid (show MN w2 w1.heap.size 0 (fun _ => none) by rw [hw2]; exact mn_made w1)
  have B2 := Lib.hid (bt HB.out b2)
  have T2 := Lib.hid ((b2.block w.heap.size (by have := HZ.out; omega)).trans HX.out.1)
  have R2 := Lib.hid ((b2.block (w.heap.size + 1) (by have := HZ.out; omega)).trans HX.out.2)
  have QM := Lib.hid (show w.heap.size + 2 ≤ w1.heap.size by have := b1.size; have := HZ.out; omega)
  obtain ⟨M, hM⟩ : ∃ M, M = w1.heap.size := ⟨_, rfl⟩
  have HW2 := Lib.hid hw2
  clear b1 b2 hw2 x0 x1 x2 x3 CG
  go_wp2
  rw [← HW2.out]
  rw [← hM] at HM QM ⊢
  clear hM HW2 hmm
  have G2 := Lib.hid ((B2.out.block ge (Array.getElem?_eq_some_iff.1 HGE.out).1).trans HGE.out)
  have Q2 := Lib.hid (show w.heap.size + 2 ≤ w2.heap.size ∧ M < w2.heap.size ∧ ge < w.heap.size by have := QM.out; have := HM.out.lt; have := (Array.getElem?_eq_some_iff.1 HGE.out).1; omega)
  go_loopw [23] (fun i wr => (i = .int .i64 0 ∧ wr = w2) ∨ (i = .int .i64 1 ∧ Hid (∃ nn f, MN wr M nn f ∧ ∀ x ∈ vs, ∃ y, f x = some y ∧ 1 ≤ y) ∧ Hid (Frm w2 wr (· = M)))) (fun i _ => 1 - (intOf i).toNat)
  case atStart => exact .inl ⟨rfl, rfl⟩
  case round =>
    rcases hrel with ⟨rfl, hwr⟩ | ⟨rfl, HMN, FM2⟩
    · subst hwr
      obtain ⟨⟨z0, z1, z2, z3, z4⟩, -⟩ := five_cells G2.out
      have hx9 := heap_alloc_new wr (.cells #[.slice none 0 0, .int .i64 V.k, .string V.nm, .int .i64 V.vr, .slice Ae V.args.length ce] SchT)
      obtain ⟨wE, hwE⟩ : ∃ z, z = wr.alloc (.cells #[.slice none 0 0, .int .i64 V.k, .string V.nm, .int .i64 V.vr, .slice Ae V.args.length ce] SchT) := ⟨_, rfl⟩
      rw [← hwE] at hx9
      have BE := Lib.hid (show Below wr.heap.size wr wE by rw [hwE]; exact below_alloc _ _)
      have HE := Lib.hid hx9
      have HWE := Lib.hid hwE
      clear hx9 hwE
      go_wp2_with fail
      rw [← HWE.out]
      try go_wp2_with fail
      refine (CG1.out _ (bt B2.out BE.out)).mono ?_; rintro e w4 ⟨rfl, b4⟩
      have B4 := Lib.hid (bt BE.out b4)
      have h4 := (b4.block _ (Array.getElem?_eq_some_iff.1 HE.out).1).trans HE.out
      obtain ⟨⟨y0, y1, y2, y3, y4⟩, -⟩ := five_cells h4
      clear b4 h4 z0 z1 z2 z3 z4
      go_wp2_with fail
      refine (CF.out _ (bt B2.out B4.out)).mono ?_; rintro e w6 ⟨Af, cf, rfl, if6, b6⟩
      have B6 := Lib.hid (bt B4.out b6)
      have IF6 := Lib.hid if6
      clear b6 if6 y0 y1 y2 y3 y4
      have F6 := Lib.hid (Frm.of_below B6.out (Nat.le_refl _) (· = M))
      have M6 := Lib.hid (HM.out.below B6.out)
      obtain ⟨N, hN⟩ : ∃ N, N = vs.length := ⟨_, rfl⟩
      rw [← hN] at ⊢
      have HN := Lib.hid hN
      have hvf' : N ≤ 99 := by rw [HN.out]; exact hvf
      clear hN
      go_wp2
      go_loopw [36] (fun i wr => ∃ (k nn : Nat) (f : Int → Option Int), k ≤ N ∧ i = .int .i64 k ∧ nn ≤ k ∧ Hid (MN wr M nn f) ∧ Hid (∀ x ∈ vs.take k, ∃ y, f x = some y ∧ 1 ≤ y) ∧ Hid (∀ x y, f x = some y → 1 ≤ y ∧ y ≤ k) ∧ Hid (Frm w6 wr (· = M))) (fun i _ => N - (intOf i).toNat)
      case atStart => exact ⟨0, 0, _, by omega, by first | rfl | trivial, by omega, M6, Lib.hid (by simp), Lib.hid (fun _ _ h => by cases h), Lib.hid (Frm.refl _ _)⟩
      case round =>
        obtain ⟨k, nn, f, hk, rfl, hnn, MP, PA, PB, FM⟩ := hrel
        by_cases hlt : k < N
        · have hlti : (k : Int) < (N : Int) := by omega
          have hlt' : k < vs.length := by rw [← HN.out]; exact hlt
          have hrange := HRG.out _ (List.getElem_mem hlt')
          have HT := Lib.hid (show vs.take (k + 1) = vs.take k ++ [vs[k]] from List.take_succ_eq_append_getElem hlt')
          obtain ⟨b, o, rfl, hb, hr⟩ : ∃ b o, Af = some ⟨b, o, none⟩ ∧ b < w6.heap.size ∧ ∀ j (h : j < vs.length), w6.cell? ⟨b, o + j, none⟩ = some (.int .i64 vs[j]) := IF6.out.resolve_left (by rw [← HN.out]; omega)
          have hbM : b ≠ M := fun e => by
            have h1 := hr k hlt'
            obtain ⟨D, hown, _⟩ := M6.out
            have h2 := M6.out.no_row (cur := #[]) (t := 0) (fr := (0, 0))
            subst e
            unfold World.cell? at h1
            split at h1
            · rename_i cur t fr heq
              exact M6.out.no_row heq
            · cases h1
          have x0 : wr.cell? ⟨b, o + k, none⟩ = some (.int .i64 vs[k]) := (World.cell?_of_block (FM.out.block b hb hbM)).trans (hr k hlt')
          obtain ⟨x, hx⟩ : ∃ x, x = vs[k] := ⟨_, rfl⟩
          rw [← hx] at x0 hrange HT
          obtain ⟨D, hown, hD, hhas, hat⟩ := MP.out
          have hkey := Maps.keyOf_int_mk (P := Tryd.prog) Tryd.underlying3 (wf_int (show -9223372036854775808 ≤ x by omega) (by omega))
          have CLB : Hid (∀ cc : Int, D.atKey (.int .i64 x) (.lit (.int .i64 0)) = .lit (.int .i64 cc) → 0 ≤ cc ∧ cc ≤ k) := Lib.hid (fun cc hcc => by
            cases hf : f x with
            | none =>
              have hh : Maps.has D (.int .i64 x) = false := by rw [hhas x, hf]; rfl
              rw [Maps.atKey_of_not_has hh] at hcc
              injection hcc with hcc; injection hcc with _ hcc
              omega
            | some y =>
              have := mn_found (hat x y hf) hcc
              have := PB.out x y hf
              omega)
          clear hr hb hbM hx
          go_upto_region 12 with (fail)
          refine wp_region_lit ?_
          (refine wpList_step (fun K hK => ?_); rw [if_pos (by rfl)]; go_simp; refine hK _ _ ?_; clear hK K; (try simp only [Act.put, List.setIfInBounds_toArray, List.set_cons_zero, List.set_cons_succ]))
          (refine wpList_step (fun K hK => ?_); rw [if_pos (by rfl)]; go_simp; refine hK _ _ ?_; clear hK K; (try simp only [Act.put, List.setIfInBounds_toArray, List.set_cons_zero, List.set_cons_succ]))
          refine wpList_lookup_own_int _ rfl (.tmp 40) (.tmp 41) 52 rfl TI TI .i64 law3 Tryd.underlying52 Tryd.underlying3 (zero3 _) M nn D rfl hown _ _ rfl hkey ?_
          intro cL hatc hwc
          (try simp only [Act.put, List.setIfInBounds_toArray, List.set_cons_zero, List.set_cons_succ])
          obtain ⟨cl0, cl1⟩ := CLB.out cL hatc
          have wc : IntKind.i64.wrap (cL + 1) = cL + 1 := IntWalk.i64_in _ (by omega)
          (refine wpList_step (fun K hK => ?_); rw [if_pos (by rfl)]; go_simp; refine hK _ _ ?_; clear hK K; (try simp only [Act.put, List.setIfInBounds_toArray, List.set_cons_zero, List.set_cons_succ]))
          refine wpList_step (fun K hK => ?_)
          rw [if_pos (by rfl)]
          refine wp_map_put (.tmp 40) (.tmp 41) (.tmp 43) 52 rfl TI TI law3 Tryd.underlying52 _ M nn D rfl hown (by unfold maxLen; omega) _ _ _ rfl rfl hkey _ [] (plain_i64 (cL + 1) (by omega) (by omega)) ?_
          intro w7 hown7 gr7
          have MP7 := Lib.hid (mn_step hD hhas hat hown7)
          have PA7 : Hid (∀ z ∈ vs.take (k + 1), ∃ y, putF f x (cL + 1) z = some y ∧ 1 ≤ y) := Lib.hid (fun z hz => by
            unfold putF
            by_cases e : z = x
            · exact ⟨cL + 1, by rw [if_pos e], by omega⟩
            · rw [if_neg e]
              rw [HT.out, List.mem_append, List.mem_singleton] at hz
              exact PA.out z (hz.resolve_right e))
          have PB7 : Hid (∀ z y, putF f x (cL + 1) z = some y → 1 ≤ y ∧ y ≤ ((k + 1 : Nat) : Int)) := Lib.hid (fun z y h => by
            unfold putF at h
            split at h
            · injection h with h; omega
            · have := PB.out z y h; omega)
          have FM7 : Hid (Frm w6 w7 (· = M)) := Lib.hid (FM.out.trans (Frm.of_grown gr7 (fun q hq => by injection hq with hq; exact hq.symm)))
          refine hK _ _ ?_
          clear hK K hown7 gr7 hown hD hhas hat CLB MP PA PB FM hatc hwc hkey
          (try simp only [Act.put, List.setIfInBounds_toArray, List.set_cons_zero, List.set_cons_succ])
          go_wp2
          go_roundw
          case rel => exact ⟨k + 1, nn + 1, _, by omega, by go_num, by omega, MP7, PA7, PB7, FM7⟩
          case measure => simp [intOf]; omega
        · obtain rfl : k = N := by omega
          have hge : ¬ (k : Int) < (k : Int) := by omega
          have PF := Lib.hid (show ∀ x ∈ vs, ∃ y, f x = some y ∧ 1 ≤ y from fun x hx => PA.out x (by rw [HN.out, List.take_length]; exact hx))
          go_wp2
          go_roundw
          case rel => exact .inr ⟨by go_num, Lib.hid ⟨nn, f, MP.out, PF.out⟩, Lib.hid (F6.out.trans FM.out)⟩
          case measure => simp [intOf]
    · obtain ⟨nn, f, hmn, PF⟩ := HMN.out
      have HMW := Lib.hid hmn
      have PF := Lib.hid PF
      have TW2 := Lib.hid ((FM2.out.block w.heap.size (by have := Q2.out; omega) (by show ¬ w.heap.size = M; have := QM.out; omega)).trans T2.out)
      have RW2 := Lib.hid ((FM2.out.block (w.heap.size + 1) (by have := Q2.out; omega) (by show ¬ w.heap.size + 1 = M; have := QM.out; omega)).trans R2.out)
      have BW2 := Lib.hid (B2.out.trans (FM2.out.below (fun q hq => by have := QM.out; have : q = M := hq; omega) (by have := Q2.out; omega)))
      clear hmn
      obtain ⟨z0, z1, z2, z3⟩ := cell4 TW2.out
      go_wp2_with fail
      refine (CA.out _ BW2.out).mono ?_; rintro e w3 ⟨A3, c3, rfl, r3, b3⟩
      obtain ⟨w4, hw4⟩ : ∃ z, z = w3.alloc (.cells #[.slice none 0 0, .int .i64 V.k, .string V.nm, .int .i64 V.vr, .slice A3 V.args.length c3] SchT) := ⟨_, rfl⟩
      have hB4 : Below w3.heap.size w3 w4 := by rw [hw4]; exact below_alloc _ _
      have B4 := Lib.hid (bt b3 hB4)
      have HC4 := Lib.hid (show w4.heap[w3.heap.size]? = some (.cells #[.slice none 0 0, .int .i64 V.k, .string V.nm, .int .i64 V.vr, .slice A3 V.args.length c3] SchT (0, 0)) by rw [hw4]; exact heap_alloc_new w3 _)
      have R4 := Lib.hid (r3.later hB4)
      have R4' := Lib.hid (r3.move (P' := fun b => wr.heap.size ≤ b ∧ b < w3.heap.size) (fun b hb hp => ⟨rfl, hp, hb⟩) (Nat.le_refl _))
      have Q34 := Lib.hid (show wr.heap.size ≤ w3.heap.size ∧ w3.heap.size < w4.heap.size from ⟨b3.size, by rw [hw4]; simp⟩)
      have HW4 := Lib.hid hw4
      have HVV := Lib.hid (CV.out w4 A3 c3 (R4.out.weak (fun _ _ _ => trivial)))
      clear b3 r3 hw4 hB4 CA CV z0 z1 z2 z3
      obtain ⟨bc, hbc⟩ : ∃ b, b = w3.heap.size := ⟨_, rfl⟩
      unfold tv
      go_wp2_with fail
      rw [← HW4.out, ← hbc]
      rw [← hbc] at HC4 Q34 R4'
      refine HVV.out.mono ?_; rintro e w5 ⟨A5, c5, rfl, o5, b5⟩
      have O5 := Lib.hid o5.out
      have HC5 := Lib.hid ((b5.out.block bc Q34.out.2).trans HC4.out)
      have Q5 := Lib.hid (show wr.heap.size ≤ bc ∧ bc < w4.heap.size ∧ w4.heap.size ≤ w5.heap.size from ⟨Q34.out.1, Q34.out.2, b5.out.size⟩)
      have BB5 := Lib.hid (show Below wr.heap.size wr w5 from bt B4.out b5.out)
      have QW := Lib.hid (show w.heap.size + 2 ≤ wr.heap.size by have := QM.out; have := HMW.out.lt; omega)
      have M5 := Lib.hid (HMW.out.below BB5.out)
      have T5 := Lib.hid (show TRow w5 (fun b => wr.heap.size ≤ b ∧ b < bc) A3 V.args from R4'.out.move (fun b hb hp => ⟨((show Below w3.heap.size w3 w5 from (by rw [HW4.out] at b5; exact bt (below_alloc _ _) b5.out)).block b hb), hp⟩) (by have := Q5.out; rw [hbc] at this; omega))
      have QB := Lib.hid (show w.heap.size + 2 ≤ bc ∧ M < bc ∧ bc < w5.heap.size by have := QW.out; have := Q5.out; have := HMW.out.lt; omega)
      have T5 := Lib.hid (T5.out.weak (P' := fun b => w.heap.size + 2 ≤ b ∧ b < bc) (fun b _ hp => ⟨Nat.le_trans QW.out hp.1, hp.2⟩))
      have R5 := Lib.hid ((BB5.out.block (w.heap.size + 1) (by have := QW.out; omega)).trans RW2.out)
      have BW5 := Lib.hid (bt BW2.out BB5.out)
      obtain ⟨N, hN⟩ : ∃ N, N = vs.length := ⟨_, rfl⟩
      rw [← hN] at hvf O5 ⊢
      have HN := Lib.hid hN
      clear o5 b5 HVV hN hbc
      obtain ⟨⟨z0, z1, z2, z3, z4⟩, -⟩ := five_cells HC5.out
      go_wp2
      clear z0 z1 z2 z3 z4
      go_loopw [54] (fun i wr => ∃ k : Nat, k ≤ N ∧ i = .int .i64 k ∧ wr = w5) (fun i _ => N - (intOf i).toNat)
      case atStart => exact ⟨0, by omega, by first | rfl | trivial, by first | rfl | trivial⟩
      case round =>
        obtain ⟨k, hk, rfl, hwr⟩ := hrel
        subst hwr
        by_cases hlt : k < N
        · have hlti : (k : Int) < (N : Int) := by omega
          have hlt' : k < vs.length := by rw [← HN.out]; exact hlt
          obtain ⟨b, o, rfl, hb, hr⟩ : ∃ b o, A5 = some ⟨b, o, none⟩ ∧ b < wr.heap.size ∧ ∀ j (h : j < vs.length), wr.cell? ⟨b, o + j, none⟩ = some (.int .i64 vs[j]) := (own_irow O5.out HN.out).resolve_left (by rw [← HN.out]; omega)
          have x0 := hr k hlt'
          have hrange := HRG.out _ (List.getElem_mem hlt')
          have hpf := PF.out _ (List.getElem_mem hlt')
          obtain ⟨x, hx⟩ : ∃ x, x = vs[k] := ⟨_, rfl⟩
          rw [← hx] at x0 hrange hpf
          obtain ⟨y, hfy, hy1⟩ := hpf
          obtain ⟨D, hown, hD, hhas, hat⟩ := M5.out
          have hkey := Maps.keyOf_int_mk (P := Tryd.prog) Tryd.underlying3 (wf_int (show -9223372036854775808 ≤ x by omega) (by omega))
          have CLY : Hid (∀ cc : Int, D.atKey (.int .i64 x) (.lit (.int .i64 0)) = .lit (.int .i64 cc) → cc = y) := Lib.hid (fun cc hcc => mn_found (hat x y hfy) hcc)
          have qy : (y == 0) = false := beq_eq_false_iff_ne.2 (by omega)
          clear hr hb hx hD hhas hat hfy
          go_wp2_with (first
            | (at_lookup; refine wpList_lookup_own_int _ rfl _ _ 52 rfl TI TI .i64 law3 Tryd.underlying52 Tryd.underlying3 (zero3 _) M nn D rfl hown _ _ rfl hkey ?_; intro cL hatc hwc; obtain rfl := CLY.out cL hatc; clear hatc hwc CLY)
            | fail)
          go_roundw
          case rel => exact ⟨k + 1, by omega, by go_num, by first | rfl | trivial⟩
          case measure => simp [intOf]; omega
        · obtain rfl : k = N := by omega
          have hge : ¬ (k : Int) < (k : Int) := by omega
          obtain ⟨⟨a0, a1, a2, a3, a4⟩, -⟩ := five_cells HC5.out
          obtain ⟨⟨y0, y1, y2, y3, y4⟩, k0, k1, k2, k3, k4⟩ := five_cells R5.out
          obtain ⟨t0, t1, t2, t3, t4⟩ := set5_cells (.slice none 0 0) (.int .i64 V.k) (.string V.nm) (.int .i64 V.vr) (.slice A3 V.args.length c3) R5.out
          have M1 := Lib.hid (set5_below (.slice none 0 0) (.int .i64 V.k) (.string V.nm) (.int .i64 V.vr) (.slice A3 V.args.length c3) BW5.out (Nat.le_succ w.heap.size))
          have M2 := Lib.hid (T5.out.move (w' := set5 wr (w.heap.size + 1) (.slice none 0 0) (.int .i64 V.k) (.string V.nm) (.int .i64 V.vr) (.slice A3 V.args.length c3)) (P' := (w.heap.size ≤ ·)) (fun b _ hp => ⟨set5_keep wr (w.heap.size + 1) _ _ _ _ _ b (by omega), by omega⟩) (by rw [set5_size]; exact Nat.le_refl _))
          have SO := Lib.hid (fun w => Tryd.slices_Sort_int_none none 0 w)
          go_wp2_with fail
          refine (SO.out _).mono ?_; rintro e w9 ⟨rfl, hw9⟩
          subst hw9
          clear SO
          go_wp2
          (try simp only [Exit.inBlock, Exit.then])
          refine bodyPost_ret (by simp [results, Tryd.results14, go_sem, t0, t1, t2, t3, t4]; try rfl) rfl ?_
          exact ⟨none, 0, A3, c3, rfl, M2.out, M1.out⟩
end Go.Proofs.YtifopogkbjhkjaaDoor
