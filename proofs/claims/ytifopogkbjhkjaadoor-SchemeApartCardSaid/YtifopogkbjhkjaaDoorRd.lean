import Derived.Test.YtifopogkbjhkjaaDoorRc
import Derived.Deep.Cut
namespace Go.Proofs.YtifopogkbjhkjaaDoor
open DR
open Go.ChangeShapes Go.WideShapes Go.ChangeAt Go.RowKit Go.WideMaps
set_option linter.unusedVariables false
set_option linter.unusedSimpArgs false
mutual
theorem cnt_ren (f : Int → Option Int) : ∀ (V : TT) (m : Int), shp V = true → cnt (renT f V) m = cnt V m
  | .mk k nm vr args, m, h => by
    by_cases hc : k = 7 ∧ (f vr).isSome = true
    · obtain ⟨ha, hn⟩ := shp_var h hc.1
      have ha : args = [] := ha
      obtain ⟨y, hy⟩ := Option.isSome_iff_exists.1 hc.2
      rw [renT_var (V := .mk k nm vr args) hc.1 hy, cnt_eq, cnt_eq]
      show cntTL [] 1 m = cntTL args 1 m
      rw [ha]
    · rw [renT_not (V := .mk k nm vr args) hc, cnt_eq, cnt_eq]
      rw [shp_eq, Bool.and_eq_true] at h
      exact cntL_ren f args 1 m h.2
theorem cntL_ren (f : Int → Option Int) : ∀ (l : List TT) (n m : Int), shpL l = true → cntTL (l.map (renT f)) n m = cntTL l n m
  | [], n, m, _ => rfl
  | a :: r, n, m, h => by
    rw [shpL, Bool.and_eq_true] at h
    rw [List.map_cons, cntTL, cntTL, cnt_ren f a _ h.1, cntL_ren f r _ _ h.2]
end
mutual
theorem shp_ren {f : Int → Option Int} (hf : ∀ x y, f x = some y → 0 ≤ y ∧ y ≤ 1999) : ∀ V : TT, shp V = true → shp (renT f V) = true
  | .mk k nm vr args, h => by
    by_cases hc : k = 7 ∧ (f vr).isSome = true
    · obtain ⟨y, hy⟩ := Option.isSome_iff_exists.1 hc.2
      rw [renT_var (V := .mk k nm vr args) hc.1 hy]
      have := good_varT (hf vr y hy).1 (hf vr y hy).2
      unfold goodT at this; rw [Bool.and_eq_true] at this; exact this.2
    · rw [renT_not (V := .mk k nm vr args) hc]
      rw [shp_eq, Bool.and_eq_true] at h ⊢
      refine ⟨?_, shpL_ren hf args h.2⟩
      have h1 := h.1
      unfold headOk at h1 ⊢
      simp only [TT.k, TT.nm, TT.vr, TT.args, List.length_map] at h1 ⊢
      exact h1
theorem shpL_ren {f : Int → Option Int} (hf : ∀ x y, f x = some y → 0 ≤ y ∧ y ≤ 1999) : ∀ l : List TT, shpL l = true → shpL (l.map (renT f)) = true
  | [], _ => rfl
  | a :: r, h => by
    rw [shpL, Bool.and_eq_true] at h
    rw [List.map_cons, shpL, shp_ren hf a h.1, shpL_ren hf r h.2]; rfl
end
theorem good_ren {f : Int → Option Int} (hf : ∀ x y, f x = some y → 0 ≤ y ∧ y ≤ 1999) {V : TT} (h : goodT V = true) : goodT (renT f V) = true := by
  unfold goodT at h ⊢
  rw [Bool.and_eq_true] at h ⊢
  refine ⟨?_, shp_ren hf V h.2⟩
  have e : sizeT (renT f V) = sizeT V := by unfold sizeT; rw [cnt_ren f V _ h.2]
  rw [e]; exact h.1
/-- those in a row have become n, n + 1, ... -/
def FOk (f : Int → Option Int) (l : List Int) (n : Int) (k : Nat) : Prop := (∀ x, (f x).isSome = true ↔ x ∈ l) ∧ (∀ x y, f x = some y → n ≤ y ∧ y < n + k) ∧ ∀ x x' y, f x = some y → f x' = some y → x = x'
theorem FOk.step {f : Int → Option Int} {l : List Int} {n x : Int} {k : Nat} (h : FOk f l n k) : FOk (putF f x (n + k)) (l ++ [x]) n (k + 1) := by
  obtain ⟨h1, h2, h3⟩ := h
  refine ⟨fun z => ?_, fun z y hz => ?_, fun z z' y hz hz' => ?_⟩
  · unfold putF
    rw [List.mem_append, List.mem_singleton]
    by_cases e : z = x
    · rw [if_pos e]; simp [e]
    · rw [if_neg e, h1 z]; simp [e]
  · unfold putF at hz
    split at hz
    · injection hz with hz; omega
    · have := h2 z y hz; omega
  · unfold putF at hz hz'
    split at hz <;> split at hz'
    · rename_i a b; rw [a, b]
    · injection hz with hz; have := h2 z' y hz'; omega
    · injection hz' with hz'; have := h2 z y hz; omega
    · exact h3 z z' y hz hz'
theorem fok_nil (l : List Int) (n : Int) : FOk (fun _ => none) (l.take 0) n 0 := ⟨fun x => by simp, fun _ _ h => (by cases h), fun _ _ _ h => (by cases h)⟩
theorem set4_frm (w : World) (R : Nat) (a b c d : Value) : Frm w (set4 w R a b c d) (· = R) :=
  (frm_set (R := (· = R)) 0 a rfl).trans ((frm_set (R := (· = R)) 1 b rfl).trans ((frm_set (R := (· = R)) 2 c rfl).trans (frm_set (R := (· = R)) 3 d rfl)))
theorem take_snoc {l : List Int} {k : Nat} (h : k < l.length) : l.take (k + 1) = l.take k ++ [l[k]] := List.take_succ_eq_append_getElem h
set_option maxRecDepth 100000 in
set_option maxHeartbeats 4000000 in
theorem sgood_len {d : Nat} {V : TT} {all : List Int} {Al A : Option Addr} {ca c : Nat} {w : World} (hd : d ≤ 7) (hbg : bigT d V = false) (hl : all.length ≤ 9223372036854775807) (ha : IRow w Al all) (h : TRow w any0 A V.args) : Calls Tryd.prog 12 #[scv Al all.length ca V A c] w fun e w' => e = .returned (.bool (sgoodT V all)) ∧ Below w.heap.size w w' := by
  have CG := Lib.hid (fun W (hW : Below w.heap.size w W) => good_any hd hbg (tv_in (c := c) h hW))
  have CV := Lib.hid (fun W (hW : Below w.heap.size w W) (hsh : shp V = true) => vars_any hd hbg hsh (tv_in (c := c) h hW))
  have HBG := Lib.hid hbg
  obtain ⟨N, hN⟩ : ∃ N, N = all.length := ⟨_, rfl⟩
  have HN := Lib.hid hN
  have HAL := Lib.hid ha
  obtain ⟨ans, hans⟩ : ∃ b, b = sgoodT V all := ⟨_, rfl⟩
  rw [← hN] at hl ⊢
  rw [← hans]
  have HNS := Lib.hid hans
  unfold tv at CG CV
  unfold scv
  obtain ⟨wA, hwA⟩ : ∃ z, z = w.alloc (.cells #[.slice Al N ca, .int .i64 V.k, .string V.nm, .int .i64 V.vr, .slice A V.args.length c] SchT) := ⟨_, rfl⟩
  have HA := Lib.hid (show Below w.heap.size w wA by rw [hwA]; exact below_alloc w _)
  have hx := heap_alloc_new w (.cells #[.slice Al N ca, .int .i64 V.k, .string V.nm, .int .i64 V.vr, .slice A V.args.length c] SchT)
  rw [← hwA] at hx
  have hz : wA.heap.size = w.heap.size + 1 := by rw [hwA]; simp
  obtain ⟨⟨x0, x1, x2, x3, x4⟩, -⟩ := five_cells hx
  have HX := Lib.hid hx; have HZ := Lib.hid hz; have HWA := Lib.hid hwA
  have HG := Lib.hid (show ∀ b, b = goodT V → b = goodT V from fun _ h => h)
  cases hg : goodT V with
  | false =>
    have hf : ans = false := by rw [hans]; unfold sgoodT; rw [hg]; rfl
    subst hf
    rw [hg] at CG
    clear hbg h hwA hx hz hN ha hg hans
    go_enter Tryd.func12, Tryd.ntmps12
    go_wp2_with fail
    rw [← HWA.out]
    try go_wp2_with fail
    refine (CG.out _ HA.out).mono ?_; rintro e w1 ⟨rfl, b1⟩
    have B1 := Lib.hid (bt HA.out b1)
    clear b1
    go_wp2
    go_ret
    exact ⟨rfl, B1.out⟩
  | true =>
    have hsh : shp V = true := by have q := hg; unfold goodT at q; rw [Bool.and_eq_true] at q; exact q.2
    have HSH := Lib.hid hsh
    have HGG := Lib.hid hg
    rw [hg] at CG
    have HVL := Lib.hid (show (varsOf V).length ≤ 1000000 by have := varsT_len V []; have := small_nodes hbg hd; unfold varsOf; simp at *; omega)
    clear hbg hsh h hwA hx hz hN ha hg hans
    go_enter Tryd.func12, Tryd.ntmps12
    go_wp2_with fail
    rw [← HWA.out]
    try go_wp2_with fail
    refine (CG.out _ HA.out).mono ?_; rintro e w1 ⟨rfl, b1⟩
    have B1 := Lib.hid (bt HA.out b1)
    have hx1 := (b1.block w.heap.size (by have := HZ.out; omega)).trans HX.out
    have HX1 := Lib.hid hx1
    have q1 := b1.size
    obtain ⟨⟨y0, y1, y2, y3, y4⟩, -⟩ := five_cells hx1
    have Q1 := Lib.hid q1
    clear b1 hx1 q1 x0 x1 x2 x3 x4 CG
    go_wp2_with fail
    refine (CV.out _ B1.out HSH.out).mono ?_; rintro e w2 ⟨A2, c2, rfl, o2, b2⟩
    have B2 := Lib.hid (bt B1.out b2.out)
    have RV := Lib.hid (own_irow o2.out rfl)
    have hx2 := (b2.out.block w.heap.size (by have := Q1.out; have := HZ.out; omega)).trans HX1.out
    obtain ⟨⟨z0, z1, z2, z3, z4⟩, -⟩ := five_cells hx2
    have HX2 := Lib.hid hx2
    have Q2 := Lib.hid (show w.heap.size < w2.heap.size by have := Q1.out; have := HZ.out; have := b2.out.size; omega)
    obtain ⟨vs, hvs⟩ : ∃ vs, vs = varsOf V := ⟨_, rfl⟩
    rw [← hvs] at RV HVL ⊢
    have HVS := Lib.hid hvs
    clear o2 b2 hx2 CV y0 y1 y2 y3 y4 hvs
    go_wp2
    clear z0 z1 z2 z3 z4
    go_loopw [16] (fun i wr => ∃ k : Nat, k ≤ N ∧ i = .int .i64 k ∧ Hid (Below w2.heap.size w2 wr) ∧ Hid (∀ i, i < k → ¬ badAt vs all i)) (fun i _ => N - (intOf i).toNat)
    case atStart => exact ⟨0, by omega, by first | rfl | trivial, Lib.hid (Below.refl _ _), Lib.hid (fun i hi => by omega)⟩
    case round =>
      obtain ⟨k, hk, rfl, HB, HS⟩ := hrel
      obtain ⟨⟨z0, z1, z2, z3, z4⟩, -⟩ := five_cells ((HB.out.block w.heap.size Q2.out).trans HX2.out)
      by_cases hlt : k < N
      · have hlti : (k : Int) < (N : Int) := by omega
        have hlt' : k < all.length := by rw [← HN.out]; exact hlt
        obtain ⟨b, o, rfl, hb, hr⟩ : ∃ b o, Al = some ⟨b, o, none⟩ ∧ b < wr.heap.size ∧ ∀ j (h : j < all.length), wr.cell? ⟨b, o + j, none⟩ = some (.int .i64 all[j]) := ((HAL.out.later B2.out).later HB.out).resolve_left (by rw [← HN.out]; omega)
        have x0 := hr k hlt'
        obtain ⟨y, hy⟩ : ∃ y, y = all[k] := ⟨_, rfl⟩
        rw [← hy] at x0
        have HY := Lib.hid (show all.getD k 0 = y by rw [hy]; simp [List.getD_eq_getElem?_getD, hlt'])
        clear hy
        have CC := Lib.hid (fun W (hW : Below wr.heap.size wr W) => contains_any (c := c2) y HVL.out ((RV.out.later HB.out).later hW))
        cases k with
        | zero =>
          rw [Nat.add_zero] at x0
          clear hr hb
          have hg0 : ¬ (0 : Int) < ((0 : Nat) : Int) := by omega
          go_wp2_with fail
          refine (CC.out _ (Below.refl _ _)).mono ?_; rintro e w3 ⟨rfl, b3⟩
          have B3 := Lib.hid (bt HB.out b3)
          clear b3 CC
          by_cases hin : y ∈ vs
          · have din := decide_eq_true hin
            rw [din]
            have HSN := Lib.hid (show ∀ i, i < 0 + 1 → ¬ badAt vs all i from fun i hi => by
              by_cases he : i = 0
              · subst he
                unfold badAt
                rw [HY.out]
                rintro (⟨h1, h2⟩ | h1)
                · omega
                · exact h1 hin
              · exact HS.out i (by omega))
            clear hin din
            go_wp2
            go_roundw
            case rel => exact ⟨0 + 1, by omega, by go_num, B3, HSN⟩
            case measure => simp [intOf]; omega
          · have din := decide_eq_false hin
            rw [din]
            have hf : ans = false := by rw [HNS.out]; exact sgood_no (k := 0) hlt' (by rw [← HVS.out]; exact .inr (by rw [HY.out]; exact hin))
            subst hf
            clear hin din
            go_wp2
            go_ret
            exact ⟨rfl, bt B2.out B3.out⟩
        | succ j =>
          have x1 := hr j (by omega)
          obtain ⟨p, hp⟩ : ∃ p, p = all[j]'(by omega) := ⟨_, rfl⟩
          rw [← hp] at x1
          have HP := Lib.hid (show all.getD j 0 = p by rw [hp]; simp [List.getD_eq_getElem?_getD, show j < all.length by omega])
          clear hp
          have hg0 : (0 : Int) < ((j + 1 : Nat) : Int) := by omega
          have hw : IntKind.i64.wrap (((j + 1 : Nat) : Int) - 1) = (j : Int) := by rw [show ((j + 1 : Nat) : Int) - 1 = (j : Int) by omega]; exact IntWalk.i64_in _ (by omega)
          have hj : (j : Int) < (N : Int) := by omega
          by_cases hle : y ≤ p
          · have dle := decide_eq_true hle
            have hf : ans = false := by rw [HNS.out]; exact sgood_no (k := j + 1) hlt' (by rw [← HVS.out]; exact .inl ⟨by omega, by rw [HY.out, Nat.add_sub_cancel, HP.out]; exact hle⟩)
            subst hf
            clear hr hb
            go_wp2
            go_ret
            exact ⟨rfl, bt B2.out HB.out⟩
          · have dle := decide_eq_false hle
            clear hr hb
            go_wp2_with fail
            refine (CC.out _ (Below.refl _ _)).mono ?_; rintro e w3 ⟨rfl, b3⟩
            have B3 := Lib.hid (bt HB.out b3)
            clear b3 CC
            by_cases hin : y ∈ vs
            · have din := decide_eq_true hin
              rw [din]
              have HSN := Lib.hid (show ∀ i, i < (j + 1) + 1 → ¬ badAt vs all i from fun i hi => by
                by_cases he : i = (j + 1)
                · subst he
                  unfold badAt
                  rw [HY.out]
                  rintro (⟨h1, h2⟩ | h1)
                  · rw [Nat.add_sub_cancel, HP.out] at h2; omega
                  · exact h1 hin
                · exact HS.out i (by omega))
              clear hin din
              go_wp2
              go_roundw
              case rel => exact ⟨(j + 1) + 1, by omega, by go_num, B3, HSN⟩
              case measure => simp [intOf]; omega
            · have din := decide_eq_false hin
              rw [din]
              have hf : ans = false := by rw [HNS.out]; exact sgood_no (k := (j + 1)) hlt' (by rw [← HVS.out]; exact .inr (by rw [HY.out]; exact hin))
              subst hf
              clear hin din
              go_wp2
              go_ret
              exact ⟨rfl, bt B2.out B3.out⟩
      · obtain rfl : k = N := by omega
        have hge : ¬ (k : Int) < (k : Int) := by omega
        have hf : ans = true := by rw [HNS.out]; exact sgood_yes HGG.out (fun i hi => by rw [← HVS.out]; exact HS.out i (by rw [HN.out]; exact hi))
        subst hf
        go_wp2
        go_ret
        exact ⟨rfl, bt B2.out HB.out⟩
set_option maxRecDepth 100000 in
set_option maxHeartbeats 8000000 in
/-- Open: the substitution has gone on by as many as may be anything. -/
theorem open_val {d : Nat} {V : TT} {all : List Int} {Al A : Option Addr} {ca c sb : Nat} {n m : Int} {w : World} (hd : d ≤ 7) (hbg : bigT d V = false) (hsg : sgoodT V all = true) (hl : all.length ≤ 99) (h0 : 0 ≤ n) (hn : n ≤ 1800) (hm : m = n + all.length) (hs : SubE w sb n)
    (ha : ∀ w', Frm w w' (· = sb) → IRow w' Al all) (h : ∀ w', Frm w w' (· = sb) → TRow w' any0 A V.args) : Calls Tryd.prog 15 #[.pointer (some ⟨sb, 0, none⟩), scv Al all.length ca V A c] w fun e w' => ∃ f A c, FOk f all n all.length ∧ e = .returned (tv (renT f V) A c) ∧ TRow w' (w.heap.size ≤ ·) A (renT f V).args ∧ SubE w' sb m ∧ Frm w w' (· = sb) := by
  obtain ⟨hg, hmem⟩ := good_all hsg
  have hsh : shp V = true := by have q := hg; unfold goodT at q; rw [Bool.and_eq_true] at q; exact q.2
  have HMEM := Lib.hid (fun i (hi : i < all.length) => vars_in V [] hsh (fun _ h => by cases h) _ (hmem i hi))
  have hlt := hs.lt
  have CG := Lib.hid (fun W (hW : Below w.heap.size w W) => sgood_len (ca := ca) (c := c) hd hbg (by omega) (ha W (Frm.of_below hW (Nat.le_refl _) _)) (h W (Frm.of_below hW (Nat.le_refl _) _)))
  rw [hsg] at CG
  have CR := Lib.hid (fun W M nn f (hW : Frm w W (· = sb)) (hm : MN W M nn f) => ren_any d V _ W M nn f hbg hsh hm (⟨A, c, rfl, h W hW⟩ : TIn W any0 V (tv V A c)))
  have CA := Lib.hid (fun W v f k (hf : ∀ x y, f x = some y → 0 ≤ y ∧ y ≤ 1999) (hW : SubE W sb k) (hv : TIn W any0 (renT f V) v) => apply_any hd (big_ren f d V hbg) (good_ren hf hg) hW hv)
  have hmm := @run_makeMap Tryd.prog
  obtain ⟨N, hN⟩ : ∃ N, N = all.length := ⟨_, rfl⟩
  have HN := Lib.hid hN
  have HRW := Lib.hid ha
  rw [← hN] at CG hl hm ⊢
  unfold tv at CR
  unfold scv at CG ⊢
  obtain ⟨wB, hwB⟩ : ∃ z, z = (w.alloc (.cells #[.slice Al N ca, .int .i64 V.k, .string V.nm, .int .i64 V.vr, .slice A V.args.length c] SchT)).alloc (.cells #[.int .i64 0, .string ⟨#[]⟩, .int .i64 0, .slice none 0 0] 24) := ⟨_, rfl⟩
  have BX := two_box (w := w) (.cells #[.slice Al N ca, .int .i64 V.k, .string V.nm, .int .i64 V.vr, .slice A V.args.length c] SchT) (.cells #[.int .i64 0, .string ⟨#[]⟩, .int .i64 0, .slice none 0 0] 24)
  rw [← hwB] at BX
  have HB := Lib.hid (show Below w.heap.size w wB by rw [hwB]; exact bt (below_alloc w _) (below_alloc _ _))
  have HZ := Lib.hid (show wB.heap.size = w.heap.size + 2 by rw [hwB]; simp)
  have HX := Lib.hid BX
  have HS := Lib.hid hs
  have HLT := Lib.hid hlt
  obtain ⟨⟨x0, x1, x2, x3, x4⟩, -⟩ := five_cells BX.1
  have HWB := Lib.hid hwB
  clear hbg hsh hg h hs hwB BX ha hN hmem hsg hlt
  go_enter Tryd.func15, Tryd.ntmps15
  go_wp2_with fail
  rw [← HWB.out]
  try go_wp2_with fail
  refine (CG.out _ HB.out).mono ?_; rintro e w1 ⟨rfl, b1⟩
  obtain ⟨w2, hw2⟩ : ∃ z, z = w1.alloc (.map #[] 0) := ⟨_, rfl⟩
  have b2 : Below wB.heap.size wB w2 := by rw [hw2]; exact bt b1 (below_alloc w1 _)
  have HM := Lib.hid (show MN w2 w1.heap.size 0 (fun _ => none) by rw [hw2]; exact mn_made w1)
  have B2 := Lib.hid (bt HB.out b2)
  have hx2 := (b2.block w.heap.size (by have := HZ.out; omega)).trans HX.out.1
  have HX2 := Lib.hid ((b2.block (w.heap.size + 1) (by have := HZ.out; omega)).trans HX.out.2)
  have Q2 := Lib.hid (show w.heap.size + 2 ≤ w2.heap.size by have := b2.size; have := HZ.out; omega)
  have QM := Lib.hid (show w.heap.size + 2 ≤ w1.heap.size by have := b1.size; have := HZ.out; omega)
  have S2 := Lib.hid (HS.out.below B2.out)
  obtain ⟨⟨y0, y1, y2, y3, y4⟩, -⟩ := five_cells hx2
  obtain ⟨M, hM⟩ : ∃ M, M = w1.heap.size := ⟨_, rfl⟩
  have HW2 := Lib.hid hw2
  have HY2 := Lib.hid hx2
  rw [hw2] at y0
  clear b1 b2 hx2 hw2 x0 x1 x2 x3 x4 CG
  go_wp2
  rw [← HW2.out]
  rw [← hM] at HM QM ⊢
  clear y0 y1 y2 y3 y4 hM HW2 hmm
  go_loopw [18] (fun i wr => ∃ (k : Nat) (f : Int → Option Int), k ≤ N ∧ i = .int .i64 k ∧ Hid (MN wr M k f) ∧ Hid (FOk f (all.take k) n k) ∧ Hid (SubE wr sb (n + k)) ∧ Hid (Frm w2 wr (fun b => b = sb ∨ b = M))) (fun i _ => N - (intOf i).toNat)
  case atStart => exact ⟨0, _, by omega, by first | rfl | trivial, HM, Lib.hid (fok_nil all n), Lib.hid (by have := S2.out; simpa using this), Lib.hid (Frm.refl _ _)⟩
  case round =>
    obtain ⟨k, f, hk, rfl, MP, FR, SW, FM⟩ := hrel
    have hxr := (FM.out.block w.heap.size (by have := Q2.out; omega) (by have := HLT.out; have := QM.out; omega)).trans HY2.out
    have hxs := (FM.out.block (w.heap.size + 1) (by have := Q2.out; omega) (by have := HLT.out; have := QM.out; omega)).trans HX2.out
    have BS := Lib.hid (show Frm w wr (· = sb) from (Frm.of_below B2.out (Nat.le_refl _) (· = sb)).trans' FM.out (fun i hi h => by rcases h with h | h; exact h; have := QM.out; omega))
    obtain ⟨⟨z0, z1, z2, z3, z4⟩, -⟩ := five_cells hxr
    have HXS := Lib.hid hxs
    clear hxr hxs
    by_cases hlt : k < N
    · have hlti : (k : Int) < (N : Int) := by omega
      have hlt' : k < all.length := by rw [← HN.out]; exact hlt
      obtain ⟨b, o, rfl, hb, hr⟩ : ∃ b o, Al = some ⟨b, o, none⟩ ∧ b < wr.heap.size ∧ ∀ j (h : j < all.length), wr.cell? ⟨b, o + j, none⟩ = some (.int .i64 all[j]) := (HRW.out wr BS.out).resolve_left (by rw [← HN.out]; omega)
      have x0 := hr k hlt'
      have hrange := HMEM.out k hlt'
      have HTK := Lib.hid (take_snoc hlt')
      obtain ⟨x, hx⟩ : ∃ x, x = all[k] := ⟨_, rfl⟩
      rw [← hx] at x0 hrange HTK
      have CF := Lib.hid (fresh_frm (n := n + k) (by omega) (by omega) rfl SW.out)
      clear hr hb hx CR CA
      go_upto_region 7 with (fail)
      refine wp_region_lit ?_
      (refine wpList_step (fun K hK => ?_); rw [if_pos (by rfl)]; go_simp; refine hK _ _ ?_; clear hK K; (try simp only [Act.put, List.setIfInBounds_toArray, List.set_cons_zero, List.set_cons_succ]))
      (refine wpList_step (fun K hK => ?_); rw [if_pos (by rfl)]; go_simp; refine hK _ _ ?_; clear hK K; (try simp only [Act.put, List.setIfInBounds_toArray, List.set_cons_zero, List.set_cons_succ]))
      (refine wpList_step (fun K hK => ?_); rw [if_pos (by rfl)]; go_simp; refine hK _ _ ?_; clear hK K; (try simp only [Act.put, List.setIfInBounds_toArray, List.set_cons_zero, List.set_cons_succ]))
      refine wpList_step (fun K hK => ?_)
      rw [if_pos (by rfl)]
      go_simp
      refine CF.out.mono ?_; rintro e w3 ⟨rfl, s3, f3⟩
      (try go_simp)
      refine hK _ _ ?_
      clear hK K
      (try simp only [Act.put, List.setIfInBounds_toArray, List.set_cons_zero, List.set_cons_succ])
      (refine wpList_step (fun K hK => ?_); rw [if_pos (by rfl)]; go_simp; refine hK _ _ ?_; clear hK K; (try simp only [Act.put, List.setIfInBounds_toArray, List.set_cons_zero, List.set_cons_succ]))
      have hMlt := MP.out.lt
      have mp3 : MN w3 M k f := MP.out.frm f3 (by show ¬ M = sb; have := HLT.out; have := QM.out; omega)
      obtain ⟨D3, hown3, hD3, hhas3, hat3⟩ := mp3
      have hkey := Maps.keyOf_int_mk (P := Tryd.prog) Tryd.underlying3 (wf_int (show -9223372036854775808 ≤ x by omega) (by omega))
      refine wpList_step (fun K hK => ?_)
      rw [if_pos (by rfl)]
      refine wp_map_put (.tmp 22) (.tmp 23) (.tmp 26) 52 rfl TI TI law3 Tryd.underlying52 _ M k D3 rfl hown3 (by unfold maxLen; omega) _ _ _ rfl rfl hkey _ [] (plain_i64 (n + k) (by omega) (by omega)) ?_
      intro w4 hown4 gr4
      have MP4 := Lib.hid (mn_step hD3 hhas3 hat3 hown4)
      have FR4 : Hid (FOk (putF f x (n + k)) (all.take (k + 1)) n (k + 1)) := Lib.hid (by rw [HTK.out]; exact FR.out.step)
      have SW4 : Hid (SubE w4 sb (n + ((k + 1 : Nat) : Int))) := Lib.hid (by
        rw [show n + ((k + 1 : Nat) : Int) = n + k + 1 by omega]
        exact (gr4.block sb s3.lt (by intro e; injection e with e; have := HLT.out; have := QM.out; omega)).trans s3)
      have FM4 : Hid (Frm w2 w4 (fun b => b = sb ∨ b = M)) := Lib.hid ((FM.out.trans (f3.mono (fun _ _ h => .inl h))).trans (Frm.of_grown gr4 (fun q hq => by injection hq with hq; exact .inr hq.symm)))
      refine hK _ _ ?_
      clear hK K hown4 gr4 hown3 hD3 hhas3 hat3 s3 f3 CF MP FR SW FM hkey
      (try simp only [Act.put, List.setIfInBounds_toArray, List.set_cons_zero, List.set_cons_succ])
      go_wp2
      go_roundw
      case rel => exact ⟨k + 1, _, by omega, by go_num, MP4, FR4, SW4, FM4⟩
      case measure => simp [intOf]; omega
    · obtain rfl : k = N := by omega
      have hge : ¬ (k : Int) < (k : Int) := by omega
      have CR2 := Lib.hid (CR.out wr M k f BS.out MP.out)
      obtain ⟨U, hU⟩ : ∃ U, U = renT f V := ⟨_, rfl⟩
      have HFF := Lib.hid (show FOk f all n k by have := FR.out; rw [HN.out, List.take_length] at this; rw [HN.out]; exact this)
      have CA2 := Lib.hid (fun W v (hW : SubE W sb (n + k)) (hv : TIn W any0 (renT f V) v) => CA.out W v f (n + k) (fun x y h => by have := FR.out.2.1 x y h; omega) hW hv)
      rw [← hU] at CR2 CA2
      have HU := Lib.hid hU
      clear CR CA hU
      go_wp2_with fail
      refine CR2.out.mono ?_; rintro e w3 ⟨A3, c3, rfl, r3, b3⟩
      have T3 := Lib.hid (show TIn w3 any0 U (tv U A3 c3) from ⟨A3, c3, rfl, r3.weak (fun _ _ _ => trivial)⟩)
      have S3 := Lib.hid (SW.out.below b3)
      have qwr := Lib.hid (show w.heap.size + 1 < wr.heap.size from (Array.getElem?_eq_some_iff.1 HXS.out).1)
      have HX3 := Lib.hid ((b3.block (w.heap.size + 1) qwr.out).trans HXS.out)
      have F3 := Lib.hid (BS.out.trans (Frm.of_below b3 (Nat.le_refl _) _))
      have QW3 := Lib.hid (show w.heap.size ≤ w3.heap.size from F3.out.size)
      clear r3 b3 CR2 z0 z1 z2 z3 z4
      go_wp2_with fail
      refine (CA2.out _ _ S3.out T3.out).mono ?_; rintro e w4 ⟨A4, c4, rfl, r4, b4⟩
      have hs4 := (b4.block (w.heap.size + 1) (Array.getElem?_eq_some_iff.1 HX3.out).1).trans HX3.out
      have S4 := S3.out.below b4
      obtain ⟨⟨y0, y1, y2, y3⟩, k0, k1, k2, k3⟩ := zero_cells hs4
      obtain ⟨t0, t1, t2, t3⟩ := set4_cells (.int .i64 U.k) (.string U.nm) (.int .i64 U.vr) (.slice A4 U.args.length c4) hs4
      have FS := Lib.hid (show SubE (set4 w4 (w.heap.size + 1) (.int .i64 U.k) (.string U.nm) (.int .i64 U.vr) (.slice A4 U.args.length c4)) sb (n + k) from (set4_keep w4 (w.heap.size + 1) _ _ _ _ sb (by have := HLT.out; omega)).trans S4)
      have hq3 := (Array.getElem?_eq_some_iff.1 HX3.out).1
      have FT := Lib.hid (r4.move (w' := set4 w4 (w.heap.size + 1) (.int .i64 U.k) (.string U.nm) (.int .i64 U.vr) (.slice A4 U.args.length c4)) (P' := (w.heap.size ≤ ·)) (fun b _ (hp : w3.heap.size ≤ b) => ⟨set4_keep w4 (w.heap.size + 1) _ _ _ _ b (by omega), Nat.le_trans QW3.out hp⟩) (by rw [set4_size]; exact Nat.le_refl _))
      have FRM := Lib.hid ((F3.out.trans (Frm.of_below b4 (Nat.le_refl _) _)).trans' (S := (· = w.heap.size + 1)) (set4_frm w4 (w.heap.size + 1) (.int .i64 U.k) (.string U.nm) (.int .i64 U.vr) (.slice A4 U.args.length c4)) (fun i hi h => by have h2 : i = w.heap.size + 1 := h; omega))
      clear b4 CA2 hs4 S4 r4
      unfold tv
      go_wp2
      (try simp only [Exit.inBlock, Exit.then])
      refine bodyPost_ret (by simp [results, Tryd.results15, go_sem, t0, t1, t2, t3]; try rfl) rfl ?_
      refine ⟨f, A4, c4, HFF.out, by rw [← HU.out]; rfl, by rw [← HU.out]; exact FT.out, by rw [hm]; exact FS.out, FRM.out⟩
end Go.Proofs.YtifopogkbjhkjaaDoor
