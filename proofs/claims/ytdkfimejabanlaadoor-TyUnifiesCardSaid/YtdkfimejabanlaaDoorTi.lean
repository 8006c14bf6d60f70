import Derived.Test.YtdkfimejabanlaaDoorTh
namespace Go.Proofs.YtdkfimejabanlaaDoor
open Go.ChangeShapes Go.WideShapes Go.ChangeAt Go.RowKit
set_option linter.unusedVariables false
/-- Good. -/
def goodT (V : TT) : Bool := decide (sizeT V ≤ 500) && shp V
set_option maxRecDepth 100000 in
set_option maxHeartbeats 2000000 in
theorem good_any {d : Nat} {V : TT} {v : Value} {w : World} (hd : d ≤ 7) (hbg : bigT d V = false) (h : TIn w any0 V v) : Calls Tryd.prog 22 #[v] w fun e w' => e = .returned (.bool (goodT V)) ∧ Below w.heap.size w w' := by
  have SZ := Lib.hid (fun W (hW : Below w.heap.size w W) => size_any hd hbg (h.later hW))
  have SH := Lib.hid (fun W (hW : Below w.heap.size w W) => shaped_any d V v W hbg (h.later hW))
  obtain ⟨A, c, rfl, -⟩ := h
  unfold goodT
  obtain ⟨Z, hZ⟩ : ∃ z, z = sizeT V := ⟨_, rfl⟩
  obtain ⟨S, hS⟩ : ∃ z, z = shp V := ⟨_, rfl⟩
  rw [← hZ] at SZ ⊢
  rw [← hS] at SH ⊢
  unfold tv at SZ SH ⊢
  have HB0 := Lib.hid (below_alloc w (.cells #[.int .i64 V.k, .string V.nm, .int .i64 V.vr, .slice A V.args.length c] 27))
  have HBX := Lib.hid (box4 w V A c V.args.length 27)
  clear hZ hS hbg
  by_cases h5 : Z ≤ 500
  · have d5 := decide_eq_true h5
    rw [d5]
    clear h5
    go_enter Tryd.func22, Tryd.ntmps22
    go_wp2_with fail
    refine (SZ.out _ HB0.out).mono ?_; rintro e w1 ⟨rfl, hb1⟩
    have B1 := Lib.hid (bt HB0.out hb1)
    have zc := cell4 ((hb1.block w.heap.size (by simp)).trans HBX.out)
    have z0 := zc.1; have z1 := zc.2.1; have z2 := zc.2.2.1; have z3 := zc.2.2.2
    clear zc hb1 SZ
    go_wp2_with fail
    refine (SH.out _ B1.out).mono ?_; rintro e w2 ⟨rfl, hb2⟩
    have B2 := Lib.hid (bt B1.out hb2)
    clear hb2 SH
    go_wp2
    go_ret
    exact ⟨by first | rfl | (cases S <;> rfl), B2.out⟩
  · have d5 := decide_eq_false h5
    rw [d5]
    clear h5
    go_enter Tryd.func22, Tryd.ntmps22
    go_wp2_with fail
    refine (SZ.out _ HB0.out).mono ?_; rintro e w1 ⟨rfl, hb1⟩
    have B1 := Lib.hid (bt HB0.out hb1)
    clear hb1 SZ
    go_wp2
    go_ret
    exact ⟨by first | rfl | (cases S <;> rfl), B1.out⟩
/-- what a good type is. -/
theorem good_head {V : TT} (h : goodT V = true) : headOk V = true ∧ ∀ a ∈ V.args, shp a = true := by
  unfold goodT at h
  rw [Bool.and_eq_true, shp_eq, Bool.and_eq_true] at h
  exact ⟨h.2.1, (shpL_all _).1 h.2.2⟩
theorem head_var {V : TT} (h : headOk V = true) : 0 ≤ V.vr ∧ V.vr ≤ 1999 ∧ 1 ≤ V.k ∧ V.k ≤ 7 ∧ (V.args.length : Int) = arT V.k := by
  unfold headOk at h
  simp only [Bool.and_eq_true, decide_eq_true_eq] at h
  omega
end Go.Proofs.YtdkfimejabanlaaDoor
