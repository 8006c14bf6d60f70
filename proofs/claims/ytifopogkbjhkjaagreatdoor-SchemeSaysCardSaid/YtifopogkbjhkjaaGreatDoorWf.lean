import Derived.Test.YtifopogkbjhkjaaGreatDoorWc
import Derived.Test.YtifopogkbjhkjaaGreatDoorZj
import Derived.Test.YtifopogkbjhkjaaGreatDoorRv
namespace Go.Proofs.YtifopogkbjhkjaaGreatDoor
open DR
open Go.ChangeShapes Go.WideShapes Go.ChangeAt Go.RowKit Go.WideMaps
set_option linter.unusedVariables false
set_option linter.unusedSimpArgs false
theorem SubS.slt {w : World} {Pr : Nat → Prop} {B sb : Nat} {n : Int} {St : List TT} (h : SubS w Pr B sb n St) : sb < w.heap.size := by
  obtain ⟨K, rv, xs, h, _⟩ := h; exact h.slt
theorem SubS.kb {w : World} {Pr : Nat → Prop} {B sb : Nat} {n : Int} {St : List TT} (h : SubS w Pr B sb n St) : ∀ q, Pr q → q < w.heap.size := fun q hq => by
  obtain ⟨K, rv, xs, h, _⟩ := h; exact h.kb q (.inr hq)
theorem SubS.frm {w w' : World} {Pr : Nat → Prop} {B sb : Nat} {n : Int} {St : List TT} (h : SubS w Pr B sb n St) (f : Frm w w' Pr) : SubS w' Pr B sb n St :=
  h.swap f (fun q hq => ⟨Nat.lt_of_lt_of_le (h.kb q hq) f.size, .inl hq⟩)
theorem SubS.less {w : World} {Pr Pr' : Nat → Prop} {B sb : Nat} {n : Int} {St : List TT} (h : SubS w Pr' B sb n St) (hp : ∀ q, Pr q → Pr' q) : SubS w Pr B sb n St := by
  obtain ⟨K, rv, xs, h, hd⟩ := h
  exact ⟨K, rv, xs, ⟨h.sbc, h.row, h.kids, fun e => h.nsb (e.elim .inl (fun e => .inr (hp _ e))), fun b hb e => h.nrv b hb (e.elim .inl (fun e => .inr (hp _ e))), h.lo, fun b e => h.kb b (e.elim .inl (fun e => .inr (hp _ e))), fun _ h => .inl h⟩, fun b hb e => hd b hb (hp b e)⟩
set_option maxRecDepth 100000 in
set_option maxHeartbeats 2000000 in
theorem freshS2 {w : World} {Pr : Nat → Prop} {B sb : Nat} {n m : Int} {St : List TT} (h0 : 0 ≤ n) (h1 : n ≤ 1998) (hm : m = n + 1) (hS : SubS w Pr B sb n St) : Calls Tryz.prog 7 #[.pointer (some ⟨sb, 0, none⟩)] w fun e w' => e = .returned (tv (varT n) none 0) ∧ SubS w' Pr B sb m St ∧ Frm w w' (· = sb) := by
  obtain ⟨K, rv, xs, hs, hd⟩ := hS
  have hlt := hs.slt
  have FIN : (∀ X Y : Obj, ∃ wf, wf = ((w.setCell ⟨sb, 0, none⟩ (.int .i64 (n + 1))).alloc X).alloc Y ∧ SubS wf Pr B sb m St ∧ Frm w wf (· = sb) ∧ wf.heap[w.heap.size]? = some X) := fun X Y => by
    refine ⟨_, rfl, ⟨K, rv, xs, ?_, hd⟩, ?_, ?_⟩
    · have hq := hs.setn m
      rw [hm] at hq ⊢
      exact (hq.later (below_alloc _ _)).later (below_alloc _ _)
    · exact (frm_set (R := (· = sb)) 0 _ rfl).trans (Frm.of_below (bt (below_alloc _ _) (below_alloc _ _)) (Nat.le_refl _) _)
    · have := (two_box (w := w.setCell ⟨sb, 0, none⟩ (.int .i64 (n + 1))) X Y).1
      rw [show (w.setCell ⟨sb, 0, none⟩ (.int .i64 (n + 1))).heap.size = w.heap.size by simp [World.setCell]] at this
      exact this
  have ws : IntKind.i64.wrap (n + 1) = n + 1 := IntWalk.i64_in _ (by omega)
  have hA := hs.later (below_alloc w (.cells #[.int .i64 0, .string ⟨#[]⟩, .int .i64 0, .slice none 0 0] 24))
  have a0 := (sub_cell hA.sbc).1
  have a2 := sub_frz hA.sbc 0
  have hB := hA.later (below_alloc _ (.cells #[.int .i64 7, .string ⟨#[]⟩, .int .i64 n, .slice none 0 0] 24))
  have b0 := (sub_cell hB.sbc).1
  have b2 := sub_frz hB.sbc 0
  have s0 := (sub_cell hs.sbc).1
  have s2 := sub_frz hs.sbc 0
  go_enter Tryz.func7, Tryz.ntmps7
  go_wp2
  (try rw [show min (n + 1) 1999 = n + 1 by omega])
  (try simp only [Exit.inBlock, Exit.then])
  · obtain ⟨wf, hwf, f1, f2, f3⟩ := FIN (.cells #[.int .i64 7, .string ⟨#[]⟩, .int .i64 n, .slice none 0 0] 24) (.cells #[.int .i64 7, .string ⟨#[]⟩, .int .i64 n, .slice none 0 0] 24)
    rw [← hwf]
    obtain ⟨⟨t0, t1, t2, t3⟩, -⟩ := zero_cells f3
    refine bodyPost_ret (by simp [results, Tryz.results7, go_sem, t0, t1, t2, t3]; try rfl) rfl ?_
    exact ⟨rfl, f1, f2⟩
/-- the fresh variables of a scheme's: the k first. -/
def fN (all : List Int) (n : Int) : Nat → Int → Option Int
  | 0 => fun _ => none
  | k + 1 => putF (fN all n k) (all.getD k 0) (n + k)
theorem fN_range {all : List Int} {n : Int} : ∀ {k : Nat} {x y : Int}, fN all n k x = some y → n ≤ y ∧ y < n + k
  | 0, x, y, h => by cases h
  | k + 1, x, y, h => by
    rw [fN] at h
    unfold putF at h
    split at h
    · injection h with h; omega
    · have := fN_range h; omega
/-- what Open answers, and the next variable behind it. -/
noncomputable def openF (St : List TT) (n : Int) (all : List Int) (V : TT) : TT × Int := if sgoodT V all = true then (apvF St (renT (fN all n all.length) V), n + all.length) else (V, n)
set_option maxRecDepth 100000 in
set_option maxHeartbeats 16000000 in
theorem open_st {V : TT} {all : List Int} {Al A : Option Addr} {ca c sb B : Nat} {n : Int} {St : List TT} {Pr : Nat → Prop} {w : World} (hbg : bigT 7 V = false) (hl : all.length ≤ 10) (h0 : 0 ≤ n) (hn : n ≤ 100) (hst : SInv2 St) (hS : SubS w Pr B sb n St)
    (ha : ∀ w', Frm w w' (· = sb) → IRow w' Al all) (h : ∀ w', Frm w w' (· = sb) → TRow w' any0 A V.args) : Calls Tryz.prog 15 #[.pointer (some ⟨sb, 0, none⟩), scv Al all.length ca V A c] w fun e w' => ∃ A c, e = .returned (tv (openF St n all V).1 A c) ∧ TRow w' (w.heap.size ≤ ·) A (openF St n all V).1.args ∧ SubS w' Pr B sb (openF St n all V).2 St ∧ Frm w w' (· = sb) := by
  have hlt := hS.slt
  have hkb := hS.kb
  obtain ⟨Q, hQ⟩ : ∃ q, q = openF St n all V := ⟨_, rfl⟩
  rw [← hQ]
  have HQ := Lib.hid hQ
  have CG := Lib.hid (fun W (hW : Below w.heap.size w W) => sgood_any (ca := ca) (c := c) (Nat.le_refl 7) hbg hl (ha W (Frm.of_below hW (Nat.le_refl _) _)) (h W (Frm.of_below hW (Nat.le_refl _) _)))
  by_cases hsg : sgoodT V all = true
  case neg =>
    have hsgf : sgoodT V all = false := by simpa using hsg
    have EQ := Lib.hid (show Q = (V, n) by rw [HQ.out]; unfold openF; rw [if_neg hsg])
    rw [hsgf] at CG
    have CO := Lib.hid (fun W (hW : Below w.heap.size w W) => own_any (d := 7) (by omega) hbg (⟨A, c, rfl, h W (Frm.of_below hW (Nat.le_refl _) _)⟩ : TIn W any0 V (tv V A c)))
    obtain ⟨N, hN⟩ : ∃ N, N = all.length := ⟨_, rfl⟩
    rw [← hN] at CG ⊢
    unfold tv at CO
    unfold scv at CG ⊢
    obtain ⟨wB, hwB⟩ : ∃ z, z = (w.alloc (.cells #[.slice Al N ca, .int .i64 V.k, .string V.nm, .int .i64 V.vr, .slice A V.args.length c] SchT)).alloc (.cells #[.int .i64 0, .string ⟨#[]⟩, .int .i64 0, .slice none 0 0] 24) := ⟨_, rfl⟩
    have BX := two_box (w := w) (.cells #[.slice Al N ca, .int .i64 V.k, .string V.nm, .int .i64 V.vr, .slice A V.args.length c] SchT) (.cells #[.int .i64 0, .string ⟨#[]⟩, .int .i64 0, .slice none 0 0] 24)
    rw [← hwB] at BX
    have HB := Lib.hid (show Below w.heap.size w wB by rw [hwB]; exact bt (below_alloc w _) (below_alloc _ _))
    have HZ := Lib.hid (show wB.heap.size = w.heap.size + 2 by rw [hwB]; simp)
    have HX := Lib.hid BX
    have HS := Lib.hid hS
    have HWB := Lib.hid hwB
    obtain ⟨⟨x0, x1, x2, x3, x4⟩, -⟩ := five_cells BX.1
    clear hbg h hS hwB BX ha hN hlt hkb hsg hsgf hQ
    as_aux_lemma =>
    go_enter Tryz.func15, Tryz.ntmps15
    go_wp2_with fail
    rw [← HWB.out]
    try go_wp2_with fail
    refine (CG.out _ HB.out).mono ?_; rintro e w1 ⟨rfl, b1⟩
    have B1 := Lib.hid (bt HB.out b1)
    have X1 := Lib.hid ((b1.block w.heap.size (by have := HZ.out; omega)).trans HX.out.1)
    have Y1 := Lib.hid ((b1.block (w.heap.size + 1) (by have := HZ.out; omega)).trans HX.out.2)
    have S1 := Lib.hid (show w.heap.size + 2 ≤ w1.heap.size by have := b1.size; have := HZ.out; omega)
    clear b1 x0 x1 x2 x3 x4 CG
    obtain ⟨⟨x0, x1, x2, x3, x4⟩, -⟩ := five_cells X1.out
    go_wp2_with fail
    refine (CO.out _ B1.out).mono ?_; rintro e w4 ⟨A4, c4, rfl, r4, b4⟩
    have hs4 := (b4.block (w.heap.size + 1) (by have := S1.out; omega)).trans Y1.out
    obtain ⟨⟨y0, y1, y2, y3⟩, k0, k1, k2, k3⟩ := zero_cells hs4
    obtain ⟨t0, t1, t2, t3⟩ := set4_cells (.int .i64 V.k) (.string V.nm) (.int .i64 V.vr) (.slice A4 V.args.length c4) hs4
    have BF := Lib.hid (set4_below (.int .i64 V.k) (.string V.nm) (.int .i64 V.vr) (.slice A4 V.args.length c4) (bt B1.out b4) (Nat.le_succ w.heap.size))
    have FT := Lib.hid (r4.move (w' := set4 w4 (w.heap.size + 1) (.int .i64 V.k) (.string V.nm) (.int .i64 V.vr) (.slice A4 V.args.length c4)) (P' := (w.heap.size ≤ ·)) (fun b _ (hp : w1.heap.size ≤ b) => ⟨set4_keep w4 (w.heap.size + 1) _ _ _ _ b (by have := S1.out; omega), by have := S1.out; omega⟩) (by rw [set4_size]; exact Nat.le_refl _))
    clear b4 CO hs4 r4 x0 x1 x2 x3 x4
    unfold tv
    go_wp2
    (try simp only [Exit.inBlock, Exit.then])
    refine bodyPost_ret (by simp [results, Tryz.results15, go_sem, t0, t1, t2, t3]; try rfl) rfl ?_
    rw [EQ.out]
    exact ⟨A4, c4, rfl, FT.out, HS.out.later BF.out, Frm.of_below BF.out (Nat.le_refl _) _⟩
  obtain ⟨hg, hmem⟩ := good_all hsg
  have hsh : shp V = true := good_shp hg
  have HMEM := Lib.hid (fun i (hi : i < all.length) => vars_in V [] hsh (fun _ h => by cases h) _ (hmem i hi))
  rw [hsg] at CG
  have EQ := Lib.hid (show Q = (apvF St (renT (fN all n all.length) V), n + all.length) by rw [HQ.out]; unfold openF; rw [if_pos hsg])
  have HFR := Lib.hid (fun x y (hf : fN all n all.length x = some y) => (show 0 ≤ y ∧ y ≤ 1999 by have := fN_range hf; omega))
  have CR := Lib.hid (fun W M nn f (hW : Frm w W (· = sb)) (hm : MN W M nn f) => ren_any 7 V _ W M nn f hbg hsh hm (⟨A, c, rfl, h W hW⟩ : TIn W any0 V (tv V A c)))
  have CA := Lib.hid (fun W v P2 k (hW : SubS W P2 B sb k St) (hv : TIn W any0 (renT (fN all n all.length) V) v) => applyF (big_ren _ 7 V hbg) (good_ren HFR.out hg) hst.inv hW hv)
  have hmm := @run_makeMap Tryz.prog
  obtain ⟨N, hN⟩ : ∃ N, N = all.length := ⟨_, rfl⟩
  have HN := Lib.hid hN
  have HRW := Lib.hid ha
  rw [← hN] at CG hl EQ CA ⊢
  unfold tv at CR
  unfold scv at CG ⊢
  obtain ⟨wB, hwB⟩ : ∃ z, z = (w.alloc (.cells #[.slice Al N ca, .int .i64 V.k, .string V.nm, .int .i64 V.vr, .slice A V.args.length c] SchT)).alloc (.cells #[.int .i64 0, .string ⟨#[]⟩, .int .i64 0, .slice none 0 0] 24) := ⟨_, rfl⟩
  have BX := two_box (w := w) (.cells #[.slice Al N ca, .int .i64 V.k, .string V.nm, .int .i64 V.vr, .slice A V.args.length c] SchT) (.cells #[.int .i64 0, .string ⟨#[]⟩, .int .i64 0, .slice none 0 0] 24)
  rw [← hwB] at BX
  have HB := Lib.hid (show Below w.heap.size w wB by rw [hwB]; exact bt (below_alloc w _) (below_alloc _ _))
  have HZ := Lib.hid (show wB.heap.size = w.heap.size + 2 by rw [hwB]; simp)
  have HX := Lib.hid BX
  have HS := Lib.hid hS
  have HKB := Lib.hid hkb
  have HLT := Lib.hid hlt
  obtain ⟨⟨x0, x1, x2, x3, x4⟩, -⟩ := five_cells BX.1
  have HWB := Lib.hid hwB
  clear hbg hsh hg h hS hwB BX ha hN hmem hsg hlt hkb hQ HQ HFR
  go_enter Tryz.func15, Tryz.ntmps15
  go_wp2_with fail
  rw [← HWB.out]
  try go_wp2_with fail
  refine (CG.out _ HB.out).mono ?_; rintro e w1 ⟨rfl, b1⟩
  obtain ⟨w2, hw2⟩ : ∃ z, z = w1.alloc (.map #[] 0) := ⟨_, rfl⟩
  have b2 : Below wB.heap.size wB w2 := by rw [hw2]; exact bt b1 (below_alloc w1 _)
  have HM := Lib.hid (show MN w2 w1.heap.size 0 (fun _ => none) by rw [hw2]; exact mn_made w1)
  have B2 := Lib.hid (bt HB.out b2)
  have hx2 := (b2.block w.heap.size (by have := HZ.out; omega)).trans HX.out.1
  have HX2 := Lib.hid ((b2.block (w.heap.size + 1) (by have := HZ.out; omega)).trans HX.out.2)
  have Q2 := Lib.hid (show w.heap.size + 2 ≤ w2.heap.size by have := b2.size; have := HZ.out; omega)
  have QM := Lib.hid (show w.heap.size + 2 ≤ w1.heap.size by have := b1.size; have := HZ.out; omega)
  have HM1 := Lib.hid (show w1.heap.size < w2.heap.size by rw [hw2]; simp)
  obtain ⟨PM, hPM⟩ : ∃ P : Nat → Prop, P = fun q => Pr q ∨ q = w1.heap.size ∨ q = w.heap.size ∨ q = w.heap.size + 1 := ⟨_, rfl⟩
  have S2 := Lib.hid (show SubS w2 PM B sb n St from HS.out.swap (Frm.of_below B2.out (Nat.le_refl _) _) (fun q hq => by rw [hPM] at hq; have := HM1.out; have := QM.out; rcases hq with hq | hq; exact ⟨Nat.lt_of_lt_of_le (HKB.out q hq) B2.out.size, .inl hq⟩; exact ⟨by omega, .inr (by omega)⟩))
  have HPM := Lib.hid (show PM w1.heap.size ∧ PM (w.heap.size + 1) ∧ ∀ q, Pr q → PM q by rw [hPM]; exact ⟨.inr (.inl rfl), .inr (.inr (.inr rfl)), fun q h => .inl h⟩)
  clear hPM
  obtain ⟨⟨y0, y1, y2, y3, y4⟩, -⟩ := five_cells hx2
  obtain ⟨M, hM⟩ : ∃ M, M = w1.heap.size := ⟨_, rfl⟩
  have HW2 := Lib.hid hw2
  have HY2 := Lib.hid hx2
  rw [hw2] at y0
  clear b1 b2 hx2 hw2 x0 x1 x2 x3 x4 CG
  go_wp2
  rw [← HW2.out]
  rw [← hM] at HM QM HPM ⊢
  clear y0 y1 y2 y3 y4 hM HW2 hmm
  go_loopw [18] (fun i wr => ∃ (k : Nat), k ≤ N ∧ i = .int .i64 k ∧ Hid (MN wr M k (fN all n k)) ∧ Hid (SubS wr PM B sb (n + k) St) ∧ Hid (Frm w2 wr (fun b => b = sb ∨ b = M))) (fun i _ => N - (intOf i).toNat)
  case atStart => exact ⟨0, by omega, by first | rfl | trivial, HM, Lib.hid (by have := S2.out; simpa using this), Lib.hid (Frm.refl _ _)⟩
  case round =>
    obtain ⟨k, hk, rfl, MP, SW, FM⟩ := hrel
    have hxr := (FM.out.block w.heap.size (by have := Q2.out; omega) (by have := HLT.out; have := QM.out; omega)).trans HY2.out
    have hxs := (FM.out.block (w.heap.size + 1) (by have := Q2.out; omega) (by have := HLT.out; have := QM.out; omega)).trans HX2.out
    have BS := Lib.hid (show Frm w wr (· = sb) from (Frm.of_below B2.out (Nat.le_refl _) (· = sb)).trans' FM.out (fun i hi h => by rcases h with h | h; exact h; have := QM.out; omega))
    obtain ⟨⟨z0, z1, z2, z3, z4⟩, -⟩ := five_cells hxr
    have HXS := Lib.hid hxs
    clear hxr hxs
    by_cases hlt : k < N
    · have hlti : (k : Int) < (N : Int) := by omega
      have hlt' : k < all.length := by rw [← HN.out]; exact hlt
      obtain ⟨b, o, rfl, hb, hr⟩ : ∃ b o, Al = some ⟨b, o, none⟩ ∧ b < wr.heap.size ∧ ∀ j (h : j < all.length), wr.cell? ⟨b, o + j, none⟩ = some (.int .i64 all[j]) := (HRW.out wr BS.out).resolve_left (by rw [← HN.out]; omega)
      have x0 := hr k hlt'
      have hrange := HMEM.out k hlt'
      have HTK := Lib.hid (show all.getD k 0 = all[k] by rw [List.getD_eq_getElem?_getD, List.getElem?_eq_getElem hlt']; rfl)
      obtain ⟨x, hx⟩ : ∃ x, x = all[k] := ⟨_, rfl⟩
      rw [← hx] at x0 hrange HTK
      have CF := Lib.hid (freshS2 (n := n + k) (by omega) (by omega) rfl SW.out)
      clear hr hb hx CR CA
      go_upto_region 7 with (fail)
      refine wp_region_lit ?_
      (refine wpList_step (fun K hK => ?_); rw [if_pos (by rfl)]; go_simp; refine hK _ _ ?_; clear hK K; (try simp only [Act.put, List.setIfInBounds_toArray, List.set_cons_zero, List.set_cons_succ]))
      (refine wpList_step (fun K hK => ?_); rw [if_pos (by rfl)]; go_simp; refine hK _ _ ?_; clear hK K; (try simp only [Act.put, List.setIfInBounds_toArray, List.set_cons_zero, List.set_cons_succ]))
      (refine wpList_step (fun K hK => ?_); rw [if_pos (by rfl)]; go_simp; refine hK _ _ ?_; clear hK K; (try simp only [Act.put, List.setIfInBounds_toArray, List.set_cons_zero, List.set_cons_succ]))
      refine wpList_step (fun K hK => ?_)
      rw [if_pos (by rfl)]
      go_simp
      refine CF.out.mono ?_; rintro e w3 ⟨rfl, s3, f3⟩
      (try unfold tv)
      (try go_simp)
      refine hK _ _ ?_
      clear hK K
      (try simp only [Act.put, List.setIfInBounds_toArray, List.set_cons_zero, List.set_cons_succ])
      (refine wpList_step (fun K hK => ?_); rw [if_pos (by rfl)]; go_simp; refine hK _ _ ?_; clear hK K; (try simp only [Act.put, List.setIfInBounds_toArray, List.set_cons_zero, List.set_cons_succ]))
      have hMlt := MP.out.lt
      have mp3 : MN w3 M k (fN all n k) := MP.out.frm f3 (by show ¬ M = sb; have := HLT.out; have := QM.out; omega)
      obtain ⟨D3, hown3, hD3, hhas3, hat3⟩ := mp3
      have hkey := Maps.keyOf_int_mk (P := Tryz.prog) Tryz.underlying3 (wf_int (show -9223372036854775808 ≤ x by omega) (by omega))
      refine wpList_step (fun K hK => ?_)
      rw [if_pos (by rfl)]
      refine wp_map_put (.tmp 22) (.tmp 23) (.tmp 26) 70 rfl TI TI law3 Tryz.underlying70 _ M k D3 rfl hown3 (by unfold maxLen; omega) _ _ _ rfl rfl hkey _ [] (plain_i64 (n + k) (by omega) (by omega)) ?_
      intro w4 hown4 gr4
      have MP4 := Lib.hid (mn_step hD3 hhas3 hat3 hown4)
      have HFN := Lib.hid (show fN all n (k + 1) = putF (fN all n k) x (n + k) by rw [fN, HTK.out])
      rw [← HFN.out] at MP4
      have SW4 : Hid (SubS w4 PM B sb (n + ((k + 1 : Nat) : Int)) St) := Lib.hid (by
        rw [show n + ((k + 1 : Nat) : Int) = n + k + 1 by omega]
        exact s3.frm (Frm.of_grown gr4 (fun q hq => by injection hq with hq; rw [← hq]; exact HPM.out.1)))
      have FM4 : Hid (Frm w2 w4 (fun b => b = sb ∨ b = M)) := Lib.hid ((FM.out.trans (f3.mono (fun _ _ h => .inl h))).trans (Frm.of_grown gr4 (fun q hq => by injection hq with hq; exact .inr hq.symm)))
      refine hK _ _ ?_
      clear hK K hown4 gr4 hown3 hD3 hhas3 hat3 s3 f3 CF MP SW FM hkey
      (try simp only [Act.put, List.setIfInBounds_toArray, List.set_cons_zero, List.set_cons_succ])
      go_wp2
      go_roundw
      case rel => exact ⟨k + 1, by omega, by go_num, MP4, SW4, FM4⟩
      case measure => simp [intOf]; omega
    · obtain rfl : k = N := by omega
      have hge : ¬ (k : Int) < (k : Int) := by omega
      have CR2 := Lib.hid (CR.out wr M k (fN all n k) BS.out MP.out)
      have CA2 := Lib.hid (fun W v (hW : SubS W PM B sb (n + k) St) hv => CA.out W v PM (n + k) hW hv)
      obtain ⟨U0, hU0⟩ : ∃ U, U = renT (fN all n k) V := ⟨_, rfl⟩
      rw [← hU0] at CR2 CA2 EQ
      obtain ⟨U, hU⟩ : ∃ U, U = apvF St U0 := ⟨_, rfl⟩
      rw [← hU] at CA2 EQ
      clear CR CA hU hU0
      go_wp2_with fail
      refine CR2.out.mono ?_; rintro e w3 ⟨A3, c3, rfl, r3, b3⟩
      have T3 := Lib.hid (show TIn w3 any0 U0 (tv U0 A3 c3) from ⟨A3, c3, rfl, r3.weak (fun _ _ _ => trivial)⟩)
      have S3 := Lib.hid (SW.out.later b3)
      have qwr := Lib.hid (show w.heap.size + 1 < wr.heap.size from (Array.getElem?_eq_some_iff.1 HXS.out).1)
      have HX3 := Lib.hid ((b3.block (w.heap.size + 1) qwr.out).trans HXS.out)
      have F3 := Lib.hid (BS.out.trans (Frm.of_below b3 (Nat.le_refl _) _))
      have QW3 := Lib.hid (show w.heap.size ≤ w3.heap.size from F3.out.size)
      clear r3 b3 CR2 z0 z1 z2 z3 z4
      go_wp2_with fail
      refine (CA2.out _ _ S3.out T3.out).mono ?_; rintro e w4 ⟨A4, c4, rfl, r4, b4⟩
      have hs4 := (b4.block (w.heap.size + 1) (Array.getElem?_eq_some_iff.1 HX3.out).1).trans HX3.out
      have S4 := S3.out.later b4
      obtain ⟨⟨y0, y1, y2, y3⟩, k0, k1, k2, k3⟩ := zero_cells hs4
      obtain ⟨t0, t1, t2, t3⟩ := set4_cells (.int .i64 U.k) (.string U.nm) (.int .i64 U.vr) (.slice A4 U.args.length c4) hs4
      have FS := Lib.hid (show SubS (set4 w4 (w.heap.size + 1) (.int .i64 U.k) (.string U.nm) (.int .i64 U.vr) (.slice A4 U.args.length c4)) Pr B sb (n + k) St from (S4.frm ((set4_frm w4 (w.heap.size + 1) (.int .i64 U.k) (.string U.nm) (.int .i64 U.vr) (.slice A4 U.args.length c4)).mono (fun q _ (hq : q = w.heap.size + 1) => by rw [hq]; exact HPM.out.2.1))).less HPM.out.2.2)
      have hq3 := (Array.getElem?_eq_some_iff.1 HX3.out).1
      have FT := Lib.hid (r4.move (w' := set4 w4 (w.heap.size + 1) (.int .i64 U.k) (.string U.nm) (.int .i64 U.vr) (.slice A4 U.args.length c4)) (P' := (w.heap.size ≤ ·)) (fun b _ (hp : w3.heap.size ≤ b) => ⟨set4_keep w4 (w.heap.size + 1) _ _ _ _ b (by omega), Nat.le_trans QW3.out hp⟩) (by rw [set4_size]; exact Nat.le_refl _))
      have FRM := Lib.hid ((F3.out.trans (Frm.of_below b4 (Nat.le_refl _) _)).trans' (S := (· = w.heap.size + 1)) (set4_frm w4 (w.heap.size + 1) (.int .i64 U.k) (.string U.nm) (.int .i64 U.vr) (.slice A4 U.args.length c4)) (fun i hi h => by have h2 : i = w.heap.size + 1 := h; omega))
      clear b4 CA2 hs4 S4 r4
      unfold tv
      go_wp2
      (try simp only [Exit.inBlock, Exit.then])
      refine bodyPost_ret (by simp [results, Tryz.results15, go_sem, t0, t1, t2, t3]; try rfl) rfl ?_
      rw [EQ.out]
      exact ⟨A4, c4, rfl, FT.out, FS.out, FRM.out⟩end Go.Proofs.YtifopogkbjhkjaaGreatDoor
namespace Go.Proofs.YtifopogkbjhkjaaGreatDoor
open DR
open Go.ChangeShapes Go.WideShapes Go.ChangeAt Go.RowKit Go.WideMaps
set_option linter.unusedVariables false
set_option linter.unusedSimpArgs false
variable {nx : Int}
abbrev RScT : TypeId := 48
theorem RSub.next {w : World} {P : Nat → Prop} {rb : Nat} {R : List TT} (h : RSub nx w P rb R) : w.cell? ⟨rb, 8000, none⟩ = some (.int .i64 nx) := by
  obtain ⟨xs, h1, h2, h3⟩ := h
  have hl : xs.length = 8000 := by rw [kids_len h2, h3]
  simp [World.cell?, h1, hl]
theorem RSub.setn {w : World} {P : Nat → Prop} {rb : Nat} {R : List TT} (hP : ∀ b, P b → b ≠ rb) (h : RSub nx w P rb R) (m : Int) : RSub m (w.setCell ⟨rb, 8000, none⟩ (.int .i64 m)) P rb R := by
  obtain ⟨xs, h1, h2, h3⟩ := h
  have hl : xs.length = 8000 := by rw [kids_len h2, h3]
  have f : Frm w (w.setCell ⟨rb, 8000, none⟩ (.int .i64 m)) (· = rb) := frm_set (R := (· = rb)) _ _ rfl
  refine ⟨xs, ?_, h2.move (fun b hb hp => ⟨f.block b hb (hP b hp), hp⟩) f.size, h3⟩
  have e : (xs ++ [Value.int .i64 nx]).set 8000 (.int .i64 m) = xs ++ [Value.int .i64 m] := by
    rw [List.set_append_right _ _ (by omega)]; simp [hl]
  simp [World.setCell, Array.getElem?_modify, h1, e]
set_option maxRecDepth 100000 in
set_option maxHeartbeats 2000000 in
theorem rfresh {w : World} {P : Nat → Prop} {rb : Nat} {R : List TT} (hP : ∀ b, P b → b ≠ rb) (h0 : 0 ≤ nx) (h1 : nx ≤ 1998) (hS : RSub nx w P rb R) : Calls Tryz.prog 8 #[.pointer (some ⟨rb, 0, none⟩)] w fun e w' => e = .returned (tv (varT nx) none 0) ∧ RSub (nx + 1) w' P rb R ∧ Frm w w' (· = rb) := by
  have hlt := hS.lt
  have FIN : (∀ X Y : Obj, ∃ wf, wf = ((w.setCell ⟨rb, 8000, none⟩ (.int .i64 (nx + 1))).alloc X).alloc Y ∧ RSub (nx + 1) wf P rb R ∧ Frm w wf (· = rb) ∧ wf.heap[w.heap.size]? = some X) := fun X Y => by
    refine ⟨_, rfl, ((hS.setn hP (nx + 1)).later (below_alloc _ _)).later (below_alloc _ _), (frm_set (R := (· = rb)) _ _ rfl).trans (Frm.of_below (bt (below_alloc _ _) (below_alloc _ _)) (Nat.le_refl _) _), ?_⟩
    have := (two_box (w := w.setCell ⟨rb, 8000, none⟩ (.int .i64 (nx + 1))) X Y).1
    rw [show (w.setCell ⟨rb, 8000, none⟩ (.int .i64 (nx + 1))).heap.size = w.heap.size by simp [World.setCell]] at this
    exact this
  have ws : IntKind.i64.wrap (nx + 1) = nx + 1 := IntWalk.i64_in _ (by omega)
  have d9 : decide (nx < 1999) = true := decide_eq_true (by omega)
  have hA := hS.later (below_alloc w (.cells #[.int .i64 0, .string ⟨#[]⟩, .int .i64 0, .slice none 0 0] 36))
  have a0 := hA.next
  have a2 := hA.frz 8000
  have hB := hA.later (below_alloc _ (.cells #[.int .i64 7, .string ⟨#[]⟩, .int .i64 nx, .slice none 0 0] 36))
  have b0 := hB.next
  have b2 := hB.frz 8000
  have s0 := hS.next
  have s2 := hS.frz 8000
  go_enter Tryz.func8, Tryz.ntmps8
  go_wp2
  (try simp only [Exit.inBlock, Exit.then])
  · obtain ⟨wf, hwf, f1, f2, f3⟩ := FIN (.cells #[.int .i64 7, .string ⟨#[]⟩, .int .i64 nx, .slice none 0 0] 36) (.cells #[.int .i64 7, .string ⟨#[]⟩, .int .i64 nx, .slice none 0 0] 36)
    rw [← hwf]
    obtain ⟨t0, t1, t2, t3⟩ := cells4 f3
    refine bodyPost_ret (by simp [results, Tryz.results8, go_sem, t0, t1, t2, t3]; try rfl) rfl ?_
    exact ⟨rfl, f1, f2⟩
end Go.Proofs.YtifopogkbjhkjaaGreatDoor
