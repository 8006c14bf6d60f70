import Derived.Test.YtdkfimejabanlaaDoorRk
namespace Go.Proofs.YtdkfimejabanlaaDoor
open DR
open Go.ChangeShapes Go.WideShapes Go.ChangeAt Go.RowKit Go.WideMaps
set_option linter.unusedVariables false
set_option linter.unusedSimpArgs false
set_option maxRecDepth 100000 in
set_option maxHeartbeats 2000000 in
theorem rgood_any {d : Nat} {V : TT} {v : Value} {w : World} (hbg : bigT d V = false) (h : TIn w any0 V v) : Calls Tryd.prog 25 #[v] w fun e w' => e = .returned (.bool (goodT V)) ∧ Below w.heap.size w w' := by
  have SZ := Lib.hid (fun W (hW : Below w.heap.size w W) => rsize_any d V v W hbg (h.later hW))
  have SH := Lib.hid (fun W (hW : Below w.heap.size w W) => kinds_any d V v W hbg (h.later hW))
  have HG := Lib.hid (show goodT V = (decide (min (nodes V : Int) 501 ≤ 500) && shp V) by unfold goodT; rw [size_nodes])
  obtain ⟨A, c, rfl, -⟩ := h
  obtain ⟨Z, hZ⟩ : ∃ z, z = min (nodes V : Int) 501 := ⟨_, rfl⟩
  obtain ⟨S, hS⟩ : ∃ z, z = shp V := ⟨_, rfl⟩
  obtain ⟨G, hG⟩ : ∃ z, z = goodT V := ⟨_, rfl⟩
  rw [← hZ] at SZ HG
  rw [← hS] at SH HG
  rw [← hG] at HG ⊢
  unfold tv at SZ SH ⊢
  have HB0 := Lib.hid (below_alloc w (.cells #[.int .i64 V.k, .string V.nm, .int .i64 V.vr, .slice A V.args.length c] 44))
  have HBX := Lib.hid (box4 w V A c V.args.length 44)
  clear hZ hS hbg hG
  by_cases h5 : Z ≤ 500
  · have d5 := decide_eq_true h5
    rw [d5] at HG
    clear h5
    go_enter Tryd.func25, Tryd.ntmps25
    go_wp2_with fail
    refine (SZ.out _ HB0.out).mono ?_; rintro e w1 ⟨rfl, hb1⟩
    have B1 := Lib.hid (bt HB0.out hb1)
    have zc := cell4 ((hb1.block w.heap.size (by simp)).trans HBX.out)
    have z0 := zc.1; have z1 := zc.2.1; have z2 := zc.2.2.1; have z3 := zc.2.2.2
    clear zc hb1 SZ
    go_wp2_with fail
    refine (SH.out _ B1.out).mono ?_; rintro e w2 ⟨rfl, hb2⟩
    have B2 := Lib.hid (bt B1.out hb2)
    clear hb2 SH
    go_wp2
    go_ret
    exact ⟨by rw [HG.out]; first | rfl | (cases S <;> rfl), B2.out⟩
  · have d5 := decide_eq_false h5
    rw [d5] at HG
    clear h5
    go_enter Tryd.func25, Tryd.ntmps25
    go_wp2_with fail
    refine (SZ.out _ HB0.out).mono ?_; rintro e w1 ⟨rfl, hb1⟩
    have B1 := Lib.hid (bt HB0.out hb1)
    clear hb1 SZ
    go_wp2
    go_ret
    exact ⟨by rw [HG.out]; first | rfl | (cases S <;> rfl), B1.out⟩
end Go.Proofs.YtdkfimejabanlaaDoor
