import Derived.Test.YtifopogkbjhkjaaDoorUc
import Derived.Deep.Cut
namespace Go.Proofs.YtifopogkbjhkjaaDoor
open Go.ChangeShapes Go.WideShapes Go.ChangeAt Go.RowKit Go.WideMaps
set_option linter.unusedVariables false
set_option linter.unusedSimpArgs false
theorem plain_i64 (y : Int) (h0 : 0 ≤ y) (h1 : y ≤ 1999) : plainElem (H := Unit) Tryd.prog TI (.int .i64 y) = some (.lit (.int .i64 y), []) := plainElem_int Tryd.underlying3 (wf_int (by omega) (by omega))
theorem mn_step {w' : World} {M k : Nat} {f : Int → Option Int} {D : DataW Unit} {x y : Int} (hD : Maps.IsMap D) (h1 : ∀ z, Maps.has D (.int .i64 z) = (f z).isSome) (h2 : ∀ z u, f z = some u → D.atKey (.int .i64 z) (.lit (.int .i64 0)) = .lit (.int .i64 u))
    (h : w'.ownsMap Tryd.prog TI (plainElem Tryd.prog TI) M (k + 1) (D.put (.int .i64 x) (.lit (.int .i64 y)))) : MN w' M (k + 1) (putF f x y) := by
  obtain ⟨a, b, c⟩ := mn_put x y hD h1 h2
  exact ⟨_, h, a, b, c⟩
theorem good_all {V : TT} {all : List Int} (h : sgoodT V all = true) : goodT V = true ∧ ∀ i (h : i < all.length), all[i] ∈ varsOf V := by
  unfold sgoodT at h
  rw [Bool.and_eq_true, decide_eq_true_eq] at h
  refine ⟨h.1, fun i hi => ?_⟩
  have := h.2 i hi
  unfold badAt at this
  simp only [not_or, Decidable.not_not] at this
  have e : all.getD i 0 = all[i] := by simp [List.getD_eq_getElem?_getD, hi]
  rw [e] at this
  exact this.2
mutual
theorem vars_in : ∀ (V : TT) (l : List Int), shp V = true → (∀ x ∈ l, 0 ≤ x ∧ x ≤ 1999) → ∀ x ∈ varsT V l, 0 ≤ x ∧ x ≤ 1999
  | .mk k nm vr args, l, h, hl, x, hx => by
    rw [varsT_eq] at hx
    rw [shp_eq, Bool.and_eq_true] at h
    have hv := head_var h.1
    refine varsL_in args _ h.2 (fun y hy => ?_) x hx
    revert hy
    show y ∈ (if k = 7 then addV l vr else l) → _
    intro hy
    split at hy
    · unfold addV at hy
      split at hy
      · exact hl y hy
      · rcases List.mem_append.1 hy with h2 | h2
        · exact hl y h2
        · rw [List.mem_singleton] at h2; subst h2; exact ⟨hv.1, hv.2.1⟩
    · exact hl y hy
theorem varsL_in : ∀ (args : List TT) (l : List Int), shpL args = true → (∀ x ∈ l, 0 ≤ x ∧ x ≤ 1999) → ∀ x ∈ varsL args l, 0 ≤ x ∧ x ≤ 1999
  | [], l, _, hl, x, hx => by rw [varsL] at hx; exact hl x hx
  | a :: r, l, h, hl, x, hx => by
    rw [varsL] at hx
    rw [shpL, Bool.and_eq_true] at h
    exact varsL_in r _ h.2 (fun y hy => vars_in a l h.1 hl y hy) x hx
end
set_option maxRecDepth 100000 in
set_option maxHeartbeats 8000000 in
/-- Open: the substitution has gone on by as many as may be anything. -/
theorem open_any {d : Nat} {V : TT} {all : List Int} {Al A : Option Addr} {ca c sb : Nat} {n m : Int} {w : World} (hd : d ≤ 7) (hbg : bigT d V = false) (hsg : sgoodT V all = true) (hl : all.length ≤ 10) (h0 : 0 ≤ n) (hn : n ≤ 1900) (hm : m = n + all.length) (hs : SubE w sb n)
    (ha : ∀ w', Below sb w w' → IRow w' Al all) (h : ∀ w', Below sb w w' → TRow w' any0 A V.args) : Calls Tryd.prog 15 #[.pointer (some ⟨sb, 0, none⟩), scv Al all.length ca V A c] w fun e w' => (∃ u, e = .returned u) ∧ SubE w' sb m ∧ Below sb w w' := by
  obtain ⟨hg, hmem⟩ := good_all hsg
  have hsh : shp V = true := by have q := hg; unfold goodT at q; rw [Bool.and_eq_true] at q; exact q.2
  have HMEM := Lib.hid (fun i (hi : i < all.length) => vars_in V [] hsh (fun _ h => by cases h) _ (hmem i hi))
  have hlt := hs.lt
  have CG := Lib.hid (fun W (hW : Below w.heap.size w W) => sgood_any (ca := ca) (c := c) hd hbg hl (ha W (hW.mono (Nat.le_of_lt hlt))) (h W (hW.mono (Nat.le_of_lt hlt))))
  rw [hsg] at CG
  have CR := Lib.hid (fun W M nn f (hW : Below sb w W) (hm : MN W M nn f) => ren_any d V _ W M nn f hbg hsh hm (⟨A, c, rfl, h W hW⟩ : TIn W any0 V (tv V A c)))
  have CA := Lib.hid (fun W v f k (hW : SubE W sb k) (hv : TIn W any0 (renT f V) v) => apply_all hd (big_ren f d V hbg) hW hv)
  have hmm := @run_makeMap Tryd.prog
  obtain ⟨N, hN⟩ : ∃ N, N = all.length := ⟨_, rfl⟩
  have HN := Lib.hid hN
  have HRW := Lib.hid ha
  rw [← hN] at CG hl hm ⊢
  unfold tv at CR
  unfold scv at CG ⊢
  obtain ⟨wB, hwB⟩ : ∃ z, z = (w.alloc (.cells #[.slice Al N ca, .int .i64 V.k, .string V.nm, .int .i64 V.vr, .slice A V.args.length c] SchT)).alloc (.cells #[.int .i64 0, .string ⟨#[]⟩, .int .i64 0, .slice none 0 0] 24) := ⟨_, rfl⟩
  have BX := two_box (w := w) (.cells #[.slice Al N ca, .int .i64 V.k, .string V.nm, .int .i64 V.vr, .slice A V.args.length c] SchT) (.cells #[.int .i64 0, .string ⟨#[]⟩, .int .i64 0, .slice none 0 0] 24)
  rw [← hwB] at BX
  have HB := Lib.hid (show Below w.heap.size w wB by rw [hwB]; exact bt (below_alloc w _) (below_alloc _ _))
  have HZ := Lib.hid (show wB.heap.size = w.heap.size + 2 by rw [hwB]; simp)
  have HX := Lib.hid BX
  have HS := Lib.hid hs
  have HLT := Lib.hid hlt
  obtain ⟨⟨x0, x1, x2, x3, x4⟩, -⟩ := five_cells BX.1
  have HWB := Lib.hid hwB
  clear hbg hsh hg h hs hwB BX ha hN hmem hsg hlt
  go_enter Tryd.func15, Tryd.ntmps15
  go_wp2_with fail
  rw [← HWB.out]
  try go_wp2_with fail
  refine (CG.out _ HB.out).mono ?_; rintro e w1 ⟨rfl, b1⟩
  obtain ⟨w2, hw2⟩ : ∃ z, z = w1.alloc (.map #[] 0) := ⟨_, rfl⟩
  have b2 : Below wB.heap.size wB w2 := by rw [hw2]; exact bt b1 (below_alloc w1 _)
  have HM := Lib.hid (show MN w2 w1.heap.size 0 (fun _ => none) by rw [hw2]; exact mn_made w1)
  have B2 := Lib.hid (bt HB.out b2)
  have hx2 := (b2.block w.heap.size (by have := HZ.out; omega)).trans HX.out.1
  have HX2 := Lib.hid ((b2.block (w.heap.size + 1) (by have := HZ.out; omega)).trans HX.out.2)
  have Q2 := Lib.hid (show w.heap.size + 2 ≤ w2.heap.size by have := b2.size; have := HZ.out; omega)
  have QM := Lib.hid (show w.heap.size + 2 ≤ w1.heap.size by have := b1.size; have := HZ.out; omega)
  have S2 := Lib.hid (HS.out.below B2.out)
  obtain ⟨⟨y0, y1, y2, y3, y4⟩, -⟩ := five_cells hx2
  obtain ⟨M, hM⟩ : ∃ M, M = w1.heap.size := ⟨_, rfl⟩
  have HW2 := Lib.hid hw2
  have HY2 := Lib.hid hx2
  rw [hw2] at y0
  clear b1 b2 hx2 hw2 x0 x1 x2 x3 x4 CG
  go_wp2
  rw [← HW2.out]
  rw [← hM] at HM QM ⊢
  clear y0 y1 y2 y3 y4 hM HW2 hmm
  go_loopw [18] (fun i wr => ∃ (k : Nat) (f : Int → Option Int), k ≤ N ∧ i = .int .i64 k ∧ Hid (MN wr M k f) ∧ Hid (∀ x y, f x = some y → 0 ≤ y ∧ y ≤ 1999) ∧ Hid (SubE wr sb (n + k)) ∧ Hid (Frm w2 wr (fun b => b = sb ∨ b = M))) (fun i _ => N - (intOf i).toNat)
  case atStart => exact ⟨0, _, by omega, by first | rfl | trivial, HM, Lib.hid (fun _ _ h => by cases h), Lib.hid (by have := S2.out; simpa using this), Lib.hid (Frm.refl _ _)⟩
  case round =>
    obtain ⟨k, f, hk, rfl, MP, FR, SW, FM⟩ := hrel
    have hxr := (FM.out.block w.heap.size (by have := Q2.out; omega) (by have := HLT.out; have := QM.out; omega)).trans HY2.out
    have hxs := (FM.out.block (w.heap.size + 1) (by have := Q2.out; omega) (by have := HLT.out; have := QM.out; omega)).trans HX2.out
    have BS := Lib.hid (show Below sb w wr from (B2.out.mono (Nat.le_of_lt HLT.out)).trans (FM.out.below (fun b hb => by rcases hb with rfl | rfl; exact Nat.le_refl _; have := HLT.out; have := QM.out; omega) (by have := HLT.out; have := Q2.out; omega)))
    obtain ⟨⟨z0, z1, z2, z3, z4⟩, -⟩ := five_cells hxr
    have HXS := Lib.hid hxs
    clear hxr hxs
    by_cases hlt : k < N
    · have hlti : (k : Int) < (N : Int) := by omega
      have hlt' : k < all.length := by rw [← HN.out]; exact hlt
      obtain ⟨b, o, rfl, hb, hr⟩ : ∃ b o, Al = some ⟨b, o, none⟩ ∧ b < wr.heap.size ∧ ∀ j (h : j < all.length), wr.cell? ⟨b, o + j, none⟩ = some (.int .i64 all[j]) := (HRW.out wr BS.out).resolve_left (by rw [← HN.out]; omega)
      have x0 := hr k hlt'
      have hrange := HMEM.out k hlt'
      obtain ⟨x, hx⟩ : ∃ x, x = all[k] := ⟨_, rfl⟩
      rw [← hx] at x0 hrange
      have CF := Lib.hid (fresh_frm (n := n + k) (by omega) (by omega) rfl SW.out)
      clear hr hb hx CR CA
      go_upto_region 7 with (fail)
      refine wp_region_lit ?_
      (refine wpList_step (fun K hK => ?_); rw [if_pos (by rfl)]; go_simp; refine hK _ _ ?_; clear hK K; (try simp only [Act.put, List.setIfInBounds_toArray, List.set_cons_zero, List.set_cons_succ]))
      (refine wpList_step (fun K hK => ?_); rw [if_pos (by rfl)]; go_simp; refine hK _ _ ?_; clear hK K; (try simp only [Act.put, List.setIfInBounds_toArray, List.set_cons_zero, List.set_cons_succ]))
      (refine wpList_step (fun K hK => ?_); rw [if_pos (by rfl)]; go_simp; refine hK _ _ ?_; clear hK K; (try simp only [Act.put, List.setIfInBounds_toArray, List.set_cons_zero, List.set_cons_succ]))
      refine wpList_step (fun K hK => ?_)
      rw [if_pos (by rfl)]
      go_simp
      refine CF.out.mono ?_; rintro e w3 ⟨rfl, s3, f3⟩
      (try go_simp)
      refine hK _ _ ?_
      clear hK K
      (try simp only [Act.put, List.setIfInBounds_toArray, List.set_cons_zero, List.set_cons_succ])
      (refine wpList_step (fun K hK => ?_); rw [if_pos (by rfl)]; go_simp; refine hK _ _ ?_; clear hK K; (try simp only [Act.put, List.setIfInBounds_toArray, List.set_cons_zero, List.set_cons_succ]))
      have hMlt := MP.out.lt
      have mp3 : MN w3 M k f := MP.out.frm f3 (by show ¬ M = sb; have := HLT.out; have := QM.out; omega)
      obtain ⟨D3, hown3, hD3, hhas3, hat3⟩ := mp3
      have hkey := Maps.keyOf_int_mk (P := Tryd.prog) Tryd.underlying3 (wf_int (show -9223372036854775808 ≤ x by omega) (by omega))
      refine wpList_step (fun K hK => ?_)
      rw [if_pos (by rfl)]
      refine wp_map_put (.tmp 22) (.tmp 23) (.tmp 26) 52 rfl TI TI law3 Tryd.underlying52 _ M k D3 rfl hown3 (by unfold maxLen; omega) _ _ _ rfl rfl hkey _ [] (plain_i64 (n + k) (by omega) (by omega)) ?_
      intro w4 hown4 gr4
      have MP4 := Lib.hid (mn_step hD3 hhas3 hat3 hown4)
      have FR4 : Hid (∀ z y, putF f x (n + k) z = some y → 0 ≤ y ∧ y ≤ 1999) := Lib.hid (fun z y h => by
        unfold putF at h
        split at h
        · injection h with h; omega
        · exact FR.out z y h)
      have SW4 : Hid (SubE w4 sb (n + ((k + 1 : Nat) : Int))) := Lib.hid (by
        rw [show n + ((k + 1 : Nat) : Int) = n + k + 1 by omega]
        exact (gr4.block sb s3.lt (by intro e; injection e with e; have := HLT.out; have := QM.out; omega)).trans s3)
      have FM4 : Hid (Frm w2 w4 (fun b => b = sb ∨ b = M)) := Lib.hid ((FM.out.trans (f3.mono (fun _ _ h => .inl h))).trans (Frm.of_grown gr4 (fun q hq => by injection hq with hq; exact .inr hq.symm)))
      refine hK _ _ ?_
      clear hK K hown4 gr4 hown3 hD3 hhas3 hat3 s3 f3 CF MP FR SW FM hkey
      (try simp only [Act.put, List.setIfInBounds_toArray, List.set_cons_zero, List.set_cons_succ])
      go_wp2
      go_roundw
      case rel => exact ⟨k + 1, _, by omega, by go_num, MP4, FR4, SW4, FM4⟩
      case measure => simp [intOf]; omega
    · obtain rfl : k = N := by omega
      have hge : ¬ (k : Int) < (k : Int) := by omega
      have CR2 := Lib.hid (CR.out wr M k f BS.out MP.out)
      obtain ⟨U, hU⟩ : ∃ U, U = renT f V := ⟨_, rfl⟩
      have CA2 := Lib.hid (fun W v (hW : SubE W sb (n + k)) (hv : TIn W any0 (renT f V) v) => CA.out W v f (n + k) hW hv)
      rw [← hU] at CR2 CA2
      clear CR CA hU
      go_wp2_with fail
      refine CR2.out.mono ?_; rintro e w3 ⟨A3, c3, rfl, r3, b3⟩
      have T3 := Lib.hid (show TIn w3 any0 U (tv U A3 c3) from ⟨A3, c3, rfl, r3.weak (fun _ _ _ => trivial)⟩)
      have S3 := Lib.hid (SW.out.below b3)
      have BS3 := Lib.hid (BS.out.trans (b3.mono (Nat.le_of_lt SW.out.lt)))
      have qwr := Lib.hid (show w.heap.size + 1 < wr.heap.size from (Array.getElem?_eq_some_iff.1 HXS.out).1)
      have HX3 := Lib.hid ((b3.block (w.heap.size + 1) qwr.out).trans HXS.out)
      clear r3 b3 CR2 z0 z1 z2 z3 z4
      go_wp2_with fail
      refine (CA2.out _ _ S3.out T3.out).mono ?_; rintro e w4 ⟨A4, c4, rfl, b4⟩
      have hs4 := (b4.block (w.heap.size + 1) (Array.getElem?_eq_some_iff.1 HX3.out).1).trans HX3.out
      have S4 := S3.out.below b4
      have BS4 := BS3.out.trans (b4.mono (Nat.le_of_lt S3.out.lt))
      obtain ⟨⟨y0, y1, y2, y3⟩, k0, k1, k2, k3⟩ := zero_cells hs4
      obtain ⟨t0, t1, t2, t3⟩ := set4_cells (.int .i64 U.k) (.string U.nm) (.int .i64 U.vr) (.slice A4 U.args.length c4) hs4
      have FS := Lib.hid (show SubE (set4 w4 (w.heap.size + 1) (.int .i64 U.k) (.string U.nm) (.int .i64 U.vr) (.slice A4 U.args.length c4)) sb (n + k) from (set4_keep w4 (w.heap.size + 1) _ _ _ _ sb (by have := HLT.out; omega)).trans S4)
      have FB := Lib.hid (set4_below (.int .i64 U.k) (.string U.nm) (.int .i64 U.vr) (.slice A4 U.args.length c4) BS4 (show sb ≤ w.heap.size + 1 by have := HLT.out; omega))
      clear b4 CA2 hs4 S4 BS4
      unfold tv
      go_wp2
      (try simp only [Exit.inBlock, Exit.then])
      refine bodyPost_ret (by simp [results, Tryd.results15, go_sem, t0, t1, t2, t3]; try rfl) rfl ?_
      exact ⟨⟨_, rfl⟩, by rw [hm]; exact FS.out, FB.out⟩
end Go.Proofs.YtifopogkbjhkjaaDoor
