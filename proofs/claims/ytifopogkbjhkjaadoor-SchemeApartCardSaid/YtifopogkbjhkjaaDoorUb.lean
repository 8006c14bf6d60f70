import Derived.Test.YtifopogkbjhkjaaDoorUa
namespace Go.Proofs.YtifopogkbjhkjaaDoor
open Go.ChangeShapes Go.WideShapes Go.ChangeAt Go.RowKit Go.WideMaps
set_option linter.unusedVariables false
set_option linter.unusedSimpArgs false
/-- the i-th of a scheme's variables is as it may not be. -/
def badAt (vs all : List Int) (i : Nat) : Prop := (0 < i ∧ all.getD i 0 ≤ all.getD (i - 1) 0) ∨ all.getD i 0 ∉ vs
instance (vs all : List Int) (i : Nat) : Decidable (badAt vs all i) := by unfold badAt; infer_instance
def sgoodT (V : TT) (all : List Int) : Bool := goodT V && decide (∀ i, i < all.length → ¬ badAt (varsOf V) all i)
theorem sgood_no {V : TT} {all : List Int} {k : Nat} (h : k < all.length) (hb : badAt (varsOf V) all k) : sgoodT V all = false := by
  unfold sgoodT
  rw [Bool.and_eq_false_iff]
  exact .inr (decide_eq_false (fun h2 => h2 k h hb))
theorem sgood_yes {V : TT} {all : List Int} (hg : goodT V = true) (h : ∀ i, i < all.length → ¬ badAt (varsOf V) all i) : sgoodT V all = true := by
  unfold sgoodT
  rw [hg, decide_eq_true h]; rfl
set_option maxRecDepth 100000 in
set_option maxHeartbeats 4000000 in
theorem sgood_any {d : Nat} {V : TT} {all : List Int} {Al A : Option Addr} {ca c : Nat} {w : World} (hd : d ≤ 7) (hbg : bigT d V = false) (hl : all.length ≤ 10) (ha : IRow w Al all) (h : TRow w any0 A V.args) : Calls Tryd.prog 12 #[scv Al all.length ca V A c] w fun e w' => e = .returned (.bool (sgoodT V all)) ∧ Below w.heap.size w w' := by
  have CG := Lib.hid (fun W (hW : Below w.heap.size w W) => good_any hd hbg (tv_in (c := c) h hW))
  have CV := Lib.hid (fun W (hW : Below w.heap.size w W) (hsh : shp V = true) => vars_any hd hbg hsh (tv_in (c := c) h hW))
  have HBG := Lib.hid hbg
  obtain ⟨N, hN⟩ : ∃ N, N = all.length := ⟨_, rfl⟩
  have HN := Lib.hid hN
  have HAL := Lib.hid ha
  obtain ⟨ans, hans⟩ : ∃ b, b = sgoodT V all := ⟨_, rfl⟩
  rw [← hN] at hl ⊢
  rw [← hans]
  have HNS := Lib.hid hans
  unfold tv at CG CV
  unfold scv
  obtain ⟨wA, hwA⟩ : ∃ z, z = w.alloc (.cells #[.slice Al N ca, .int .i64 V.k, .string V.nm, .int .i64 V.vr, .slice A V.args.length c] SchT) := ⟨_, rfl⟩
  have HA := Lib.hid (show Below w.heap.size w wA by rw [hwA]; exact below_alloc w _)
  have hx := heap_alloc_new w (.cells #[.slice Al N ca, .int .i64 V.k, .string V.nm, .int .i64 V.vr, .slice A V.args.length c] SchT)
  rw [← hwA] at hx
  have hz : wA.heap.size = w.heap.size + 1 := by rw [hwA]; simp
  obtain ⟨⟨x0, x1, x2, x3, x4⟩, -⟩ := five_cells hx
  have HX := Lib.hid hx; have HZ := Lib.hid hz; have HWA := Lib.hid hwA
  have HG := Lib.hid (show ∀ b, b = goodT V → b = goodT V from fun _ h => h)
  cases hg : goodT V with
  | false =>
    have hf : ans = false := by rw [hans]; unfold sgoodT; rw [hg]; rfl
    subst hf
    rw [hg] at CG
    clear hbg h hwA hx hz hN ha hg hans
    go_enter Tryd.func12, Tryd.ntmps12
    go_wp2_with fail
    rw [← HWA.out]
    try go_wp2_with fail
    refine (CG.out _ HA.out).mono ?_; rintro e w1 ⟨rfl, b1⟩
    have B1 := Lib.hid (bt HA.out b1)
    clear b1
    go_wp2
    go_ret
    exact ⟨rfl, B1.out⟩
  | true =>
    have hsh : shp V = true := by have q := hg; unfold goodT at q; rw [Bool.and_eq_true] at q; exact q.2
    have HSH := Lib.hid hsh
    have HGG := Lib.hid hg
    rw [hg] at CG
    have HVL := Lib.hid (show (varsOf V).length ≤ 1000000 by have := varsT_len V []; have := small_nodes hbg hd; unfold varsOf; simp at *; omega)
    clear hbg hsh h hwA hx hz hN ha hg hans
    go_enter Tryd.func12, Tryd.ntmps12
    go_wp2_with fail
    rw [← HWA.out]
    try go_wp2_with fail
    refine (CG.out _ HA.out).mono ?_; rintro e w1 ⟨rfl, b1⟩
    have B1 := Lib.hid (bt HA.out b1)
    have hx1 := (b1.block w.heap.size (by have := HZ.out; omega)).trans HX.out
    have HX1 := Lib.hid hx1
    have q1 := b1.size
    obtain ⟨⟨y0, y1, y2, y3, y4⟩, -⟩ := five_cells hx1
    have Q1 := Lib.hid q1
    clear b1 hx1 q1 x0 x1 x2 x3 x4 CG
    go_wp2_with fail
    refine (CV.out _ B1.out HSH.out).mono ?_; rintro e w2 ⟨A2, c2, rfl, o2, b2⟩
    have B2 := Lib.hid (bt B1.out b2.out)
    have RV := Lib.hid (own_irow o2.out rfl)
    have hx2 := (b2.out.block w.heap.size (by have := Q1.out; have := HZ.out; omega)).trans HX1.out
    obtain ⟨⟨z0, z1, z2, z3, z4⟩, -⟩ := five_cells hx2
    have HX2 := Lib.hid hx2
    have Q2 := Lib.hid (show w.heap.size < w2.heap.size by have := Q1.out; have := HZ.out; have := b2.out.size; omega)
    obtain ⟨vs, hvs⟩ : ∃ vs, vs = varsOf V := ⟨_, rfl⟩
    rw [← hvs] at RV HVL ⊢
    have HVS := Lib.hid hvs
    clear o2 b2 hx2 CV y0 y1 y2 y3 y4 hvs
    go_wp2
    clear z0 z1 z2 z3 z4
    go_loopw [16] (fun i wr => ∃ k : Nat, k ≤ N ∧ i = .int .i64 k ∧ Hid (Below w2.heap.size w2 wr) ∧ Hid (∀ i, i < k → ¬ badAt vs all i)) (fun i _ => N - (intOf i).toNat)
    case atStart => exact ⟨0, by omega, by first | rfl | trivial, Lib.hid (Below.refl _ _), Lib.hid (fun i hi => by omega)⟩
    case round =>
      obtain ⟨k, hk, rfl, HB, HS⟩ := hrel
      obtain ⟨⟨z0, z1, z2, z3, z4⟩, -⟩ := five_cells ((HB.out.block w.heap.size Q2.out).trans HX2.out)
      by_cases hlt : k < N
      · have hlti : (k : Int) < (N : Int) := by omega
        have hlt' : k < all.length := by rw [← HN.out]; exact hlt
        obtain ⟨b, o, rfl, hb, hr⟩ : ∃ b o, Al = some ⟨b, o, none⟩ ∧ b < wr.heap.size ∧ ∀ j (h : j < all.length), wr.cell? ⟨b, o + j, none⟩ = some (.int .i64 all[j]) := ((HAL.out.later B2.out).later HB.out).resolve_left (by rw [← HN.out]; omega)
        have x0 := hr k hlt'
        obtain ⟨y, hy⟩ : ∃ y, y = all[k] := ⟨_, rfl⟩
        rw [← hy] at x0
        have HY := Lib.hid (show all.getD k 0 = y by rw [hy]; simp [List.getD_eq_getElem?_getD, hlt'])
        clear hy
        have CC := Lib.hid (fun W (hW : Below wr.heap.size wr W) => contains_any (c := c2) y HVL.out ((RV.out.later HB.out).later hW))
        cases k with
        | zero =>
          rw [Nat.add_zero] at x0
          clear hr hb
          have hg0 : ¬ (0 : Int) < ((0 : Nat) : Int) := by omega
          go_wp2_with fail
          refine (CC.out _ (Below.refl _ _)).mono ?_; rintro e w3 ⟨rfl, b3⟩
          have B3 := Lib.hid (bt HB.out b3)
          clear b3 CC
          by_cases hin : y ∈ vs
          · have din := decide_eq_true hin
            rw [din]
            have HSN := Lib.hid (show ∀ i, i < 0 + 1 → ¬ badAt vs all i from fun i hi => by
              by_cases he : i = 0
              · subst he
                unfold badAt
                rw [HY.out]
                rintro (⟨h1, h2⟩ | h1)
                · omega
                · exact h1 hin
              · exact HS.out i (by omega))
            clear hin din
            go_wp2
            go_roundw
            case rel => exact ⟨0 + 1, by omega, by go_num, B3, HSN⟩
            case measure => simp [intOf]; omega
          · have din := decide_eq_false hin
            rw [din]
            have hf : ans = false := by rw [HNS.out]; exact sgood_no (k := 0) hlt' (by rw [← HVS.out]; exact .inr (by rw [HY.out]; exact hin))
            subst hf
            clear hin din
            go_wp2
            go_ret
            exact ⟨rfl, bt B2.out B3.out⟩
        | succ j =>
          have x1 := hr j (by omega)
          obtain ⟨p, hp⟩ : ∃ p, p = all[j]'(by omega) := ⟨_, rfl⟩
          rw [← hp] at x1
          have HP := Lib.hid (show all.getD j 0 = p by rw [hp]; simp [List.getD_eq_getElem?_getD, show j < all.length by omega])
          clear hp
          have hg0 : (0 : Int) < ((j + 1 : Nat) : Int) := by omega
          have hw : IntKind.i64.wrap (((j + 1 : Nat) : Int) - 1) = (j : Int) := by rw [show ((j + 1 : Nat) : Int) - 1 = (j : Int) by omega]; exact IntWalk.i64_in _ (by omega)
          have hj : (j : Int) < (N : Int) := by omega
          by_cases hle : y ≤ p
          · have dle := decide_eq_true hle
            have hf : ans = false := by rw [HNS.out]; exact sgood_no (k := j + 1) hlt' (by rw [← HVS.out]; exact .inl ⟨by omega, by rw [HY.out, Nat.add_sub_cancel, HP.out]; exact hle⟩)
            subst hf
            clear hr hb
            go_wp2
            go_ret
            exact ⟨rfl, bt B2.out HB.out⟩
          · have dle := decide_eq_false hle
            clear hr hb
            go_wp2_with fail
            refine (CC.out _ (Below.refl _ _)).mono ?_; rintro e w3 ⟨rfl, b3⟩
            have B3 := Lib.hid (bt HB.out b3)
            clear b3 CC
            by_cases hin : y ∈ vs
            · have din := decide_eq_true hin
              rw [din]
              have HSN := Lib.hid (show ∀ i, i < (j + 1) + 1 → ¬ badAt vs all i from fun i hi => by
                by_cases he : i = (j + 1)
                · subst he
                  unfold badAt
                  rw [HY.out]
                  rintro (⟨h1, h2⟩ | h1)
                  · rw [Nat.add_sub_cancel, HP.out] at h2; omega
                  · exact h1 hin
                · exact HS.out i (by omega))
              clear hin din
              go_wp2
              go_roundw
              case rel => exact ⟨(j + 1) + 1, by omega, by go_num, B3, HSN⟩
              case measure => simp [intOf]; omega
            · have din := decide_eq_false hin
              rw [din]
              have hf : ans = false := by rw [HNS.out]; exact sgood_no (k := (j + 1)) hlt' (by rw [← HVS.out]; exact .inr (by rw [HY.out]; exact hin))
              subst hf
              clear hin din
              go_wp2
              go_ret
              exact ⟨rfl, bt B2.out B3.out⟩
      · obtain rfl : k = N := by omega
        have hge : ¬ (k : Int) < (k : Int) := by omega
        have hf : ans = true := by rw [HNS.out]; exact sgood_yes HGG.out (fun i hi => by rw [← HVS.out]; exact HS.out i (by rw [HN.out]; exact hi))
        subst hf
        go_wp2
        go_ret
        exact ⟨rfl, bt B2.out HB.out⟩
end Go.Proofs.YtifopogkbjhkjaaDoor
