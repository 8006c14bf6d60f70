import Derived.Test.YtclilpabdcdeoaaDoorKna
import Derived.Deep.Cut
import Derived.Deep.CutBlock
import Derived.Deep.DeepCutAuto
namespace Go.Proofs.YtclilpabdcdeoaaDoor
open Go.ChangeShapes Go.WideShapes Go.ChangeAt Go.RowKit
set_option linter.unusedVariables false
theorem trow_new {w : World} {B : Nat} (hB : w.heap.size = B) : TRow (w.alloc (.cells #[.int .i64 1, .string ⟨#[]⟩, .int .i64 0, .slice none 0 0] 34)) (some ⟨B, 0, none⟩) [T1] := by
  have hl : B < (w.alloc (.cells #[.int .i64 1, .string ⟨#[]⟩, .int .i64 0, .slice none 0 0] 34)).heap.size := by rw [alloc_size]; omega
  exact .inr ⟨_, _, rfl, hl, okTL_1 hl (box_at2 0 hB rfl) (box_at2 1 hB rfl) (box_at2 2 hB rfl) (box_at2 3 hB rfl) (by rw [okTL]; trivial)⟩
theorem trow_new2 {w : World} {B : Nat} (hB : w.heap.size = B) : TRow (w.alloc (.cells #[.int .i64 1, .string ⟨#[]⟩, .int .i64 0, .slice none 0 0, .int .i64 1, .string ⟨#[]⟩, .int .i64 0, .slice none 0 0] 34)) (some ⟨B, 0, none⟩) [T1, T1] := by
  have hl : B < (w.alloc (.cells #[.int .i64 1, .string ⟨#[]⟩, .int .i64 0, .slice none 0 0, .int .i64 1, .string ⟨#[]⟩, .int .i64 0, .slice none 0 0] 34)).heap.size := by rw [alloc_size]; omega
  exact .inr ⟨_, _, rfl, hl, okTL_1 hl (box_at2 0 hB rfl) (box_at2 1 hB rfl) (box_at2 2 hB rfl) (box_at2 3 hB rfl) (okTL_1 hl (box_at2 4 hB rfl) (box_at2 5 hB rfl) (box_at2 6 hB rfl) (box_at2 7 hB rfl) (by rw [okTL]; trivial))⟩
theorem vrow_new {w : World} {B : Nat} (hB : w.heap.size = B) : VRow (w.alloc (.cells #[.int .i64 0, .int .i64 0, .string ⟨#[]⟩, .slice none 0 0, .int .i64 0, .pointer none, .int .i64 0, .int .i64 1, .int .i64 9, .string ⟨#[]⟩, .slice none 0 0, .int .i64 0, .pointer none, .int .i64 0] 26)) (some ⟨B, 0, none⟩) [v0, v19] := by
  have hl : B < (w.alloc (.cells #[.int .i64 0, .int .i64 0, .string ⟨#[]⟩, .slice none 0 0, .int .i64 0, .pointer none, .int .i64 0, .int .i64 1, .int .i64 9, .string ⟨#[]⟩, .slice none 0 0, .int .i64 0, .pointer none, .int .i64 0] 26)).heap.size := by rw [alloc_size]; omega
  refine .inr ⟨_, _, rfl, hl, ?_⟩
  rw [okL, okL, okL]
  exact ⟨okV_leaf (e := .pointer none) hl (by decide) (fun j v h => box_at2 (0 + j) hB (by match j, h with
        | 0, h | 1, h | 2, h | 3, h | 4, h | 5, h | 6, h => exact h)), okV_leaf (e := .pointer none) hl (by decide) (fun j v h => box_at2 (7 + j) hB (by match j, h with
        | 0, h | 1, h | 2, h | 3, h | 4, h | 5, h | 6, h => exact h)), trivial⟩
theorem crow_new {w : World} {B : Nat} (hB : w.heap.size = B) : CRow ((w.alloc (.cells #[.string ⟨#[105, 110, 116]⟩, .string ⟨#[98, 111, 111, 108]⟩] 9)).alloc (.cells #[.string ⟨#[80]⟩, .slice (some ⟨B, 0, none⟩) 2 2] 37)) (some ⟨B + 1, 0, none⟩) [cpair] := by
  refine .inr ⟨_, _, rfl, by simp only [alloc_size]; omega, fun i hi => ?_⟩
  have hi0 : i = 0 := by simpa using hi
  subst hi0
  have h2 : (w.alloc (.cells #[.string ⟨#[105, 110, 116]⟩, .string ⟨#[98, 111, 111, 108]⟩] 9)).heap.size = B + 1 := by rw [alloc_size, hB]
  refine ⟨box_at2 0 h2 rfl, some ⟨B, 0, none⟩, 2, box_at2 1 h2 rfl, .inr ⟨_, _, rfl, by simp only [alloc_size]; omega, fun i hi => ?_⟩⟩
  match i, hi with
  | 0, _ => exact keepA _ (box_at2 0 hB rfl)
  | 1, _ => exact keepA _ (box_at2 1 hB rfl)
theorem txrow_new {w : World} {B : Nat} (hB : w.heap.size = B) : TxRow (w.alloc (.cells #[.string ⟨#[120]⟩, .string ⟨#[121]⟩] 9)) (some ⟨B, 0, none⟩) [⟨#[120]⟩, ⟨#[121]⟩] := by
  refine .inr ⟨_, _, rfl, by simp only [alloc_size]; omega, fun i hi => ?_⟩
  match i, hi with
  | 0, _ => exact box_at2 0 hB rfl
  | 1, _ => exact box_at2 1 hB rfl
theorem TxRow.later {w w' : World} {A : Option Addr} {l : List ByteArray} (hb : Below w.heap.size w w') (h : TxRow w A l) : TxRow w' A l := by
  rcases h with h | ⟨b, o, e, hlt, h⟩
  · exact .inl h
  · exact .inr ⟨b, o, e, Nat.lt_of_lt_of_le hlt hb.size, fun i hi => (hb.cell (p := ⟨b, o + i, none⟩) hlt).trans (h i hi)⟩
theorem CRow.later {w w' : World} {A : Option Addr} {l : List CN} (hb : Below w.heap.size w w') (h : CRow w A l) : CRow w' A l := by
  rcases h with h | ⟨b, o, e, hlt, h⟩
  · exact .inl h
  · refine .inr ⟨b, o, e, Nat.lt_of_lt_of_le hlt hb.size, fun i hi => ?_⟩
    obtain ⟨h1, A', c', h2, h3⟩ := h i hi
    exact ⟨(hb.cell (p := ⟨b, o + i * 2, none⟩) hlt).trans h1, A', c', (hb.cell (p := ⟨b, o + i * 2 + 1, none⟩) hlt).trans h2, h3.later hb⟩
set_option maxRecDepth 100000 in
set_option maxHeartbeats 8000000 in
theorem known_walk {w : World} (hT : PowTab w) : Calls Tryd.prog 3 #[] w fun e w' => e = .returned (.bool true) ∧ Below w.heap.size w w' := by
  have HT := Lib.hid hT
  clear hT
  go_enter Tryd.func3, Tryd.ntmps3
  go_wp2_with fail
  refine (awake _).mono ?_; rintro e w1 ⟨rfl, hb1⟩
  have B1 := Lib.hid hb1
  clear hb1
  go_wp2_with fail
  refine (op1 _).mono ?_; rintro e w2 ⟨rfl, hb2⟩
  have B2 := Lib.hid (below2 (below2 B1.out hb2) (belowA _ (.cells #[.int .i64 0, .int .i64 0, .string .empty, .slice none 0 0, .int .i64 0, .pointer none, .int .i64 0] 26)))
  clear hb2 B1
  unfold num
  go_wp2_with fail
  refine (op2 _).mono ?_; rintro e w3 ⟨rfl, hb3⟩
  have B3 := Lib.hid (below2 B2.out hb3)
  clear hb3 B2
  unfold num
  go_wp2_with fail
  have hch := env_new (w3.alloc (.cells #[.int .i64 2, .int .i64 1, .string .empty, .slice none 0 0, .int .i64 0, .pointer none, .int .i64 0] 26))
  simp only [alloc_size] at hch
  have HCH := Lib.hid hch
  clear hch
  have B4 := Lib.hid (below2 (below2 (below2 (below2 B3.out (belowA w3 (.cells #[.int .i64 2, .int .i64 1, .string .empty, .slice none 0 0, .int .i64 0, .pointer none, .int .i64 0] 26))) (belowA _ (EnvK ⟨#[120]⟩ (0, 0) none))) (belowA _ (EnvK ⟨#[121]⟩ (1, 7) (some ⟨w3.heap.size + 1, 0, none⟩)))) (belowA _ (EnvK ⟨#[120]⟩ (3, 0) (some ⟨w3.heap.size + 1 + 1, 0, none⟩))))
  have n0 := box_at (W := w3) (t := 26) (vs := #[.int .i64 2, .int .i64 1, .string .empty, .slice none 0 0, .int .i64 0, .pointer none, .int .i64 0]) 0 rfl
  have n1 := box_at (W := w3) (t := 26) (vs := #[.int .i64 2, .int .i64 1, .string .empty, .slice none 0 0, .int .i64 0, .pointer none, .int .i64 0]) 1 rfl
  refine (find_y ?_).mono ?_
  · exact HCH.out
  rintro e w4 ⟨rfl, hb4⟩
  have B5 := Lib.hid (below2 B4.out hb4)
  have HC5 := Lib.hid (chain_belowK hb4 _ _ (Nat.le_refl _) HCH.out)
  have m0 := keepC hb4 (keepA _ (keepA _ (keepA _ n0)))
  have m1 := keepC hb4 (keepA _ (keepA _ (keepA _ n1)))
  clear hb4 B4 n0 n1 HCH
  unfold num
  go_wp2_with fail
  refine find_nil.mono ?_
  rintro e w5 ⟨rfl, hb5⟩
  have B6 := Lib.hid (below2 (below2 B5.out (belowA w4 (.cells #[.int .i64 1, .int .i64 7, .string .empty, .slice none 0 0, .int .i64 0, .pointer none, .int .i64 0] 26))) hb5)
  have HC6 := Lib.hid (chain_belowK hb5 _ _ (Nat.le_refl _) (chain_belowK (belowA w4 (.cells #[.int .i64 1, .int .i64 7, .string .empty, .slice none 0 0, .int .i64 0, .pointer none, .int .i64 0] 26)) _ _ (Nat.le_refl _) HC5.out))
  have k0 : w5.cell? ⟨w3.heap.size, 0, none⟩ = some (.int .i64 2) := keepC hb5 (keepA _ m0)
  have k1 : w5.cell? ⟨w3.heap.size, 1, none⟩ = some (.int .i64 1) := keepC hb5 (keepA _ m1)
  have c1 : w5.cell? ⟨w4.heap.size, 1, none⟩ = some (.int .i64 7) := keepC hb5 (box_at (W := w4) (t := 26) (vs := #[.int .i64 1, .int .i64 7, .string .empty, .slice none 0 0, .int .i64 0, .pointer none, .int .i64 0]) 1 rfl)
  obtain ⟨p5, hp5⟩ : ∃ p, p = w3.heap.size + 1 + 2 := ⟨_, rfl⟩
  clear hb5 B5 m0 m1 HC5
  unfold num
  go_upto_region 11 with (fail)
  obtain ⟨wa, hwa⟩ : ∃ wa, wa = ((((w5.alloc (.cells #[.int .i64 0, .int .i64 0, .string .empty, .slice none 0 0, .int .i64 0, .pointer none, .int .i64 0] 26)).alloc (.cells #[.int .i64 1, .string ⟨#[]⟩, .int .i64 0, .slice none 0 0] 34)).alloc (.cells #[.int .i64 6, .int .i64 0, .string ⟨#[]⟩, .slice none 0 0, .int .i64 0, .pointer none, .int .i64 1] 26)).alloc (.cells #[.int .i64 1, .int .i64 (-3), .string ⟨#[]⟩, .slice none 0 0, .int .i64 0, .pointer none, .int .i64 0, .int .i64 2, .int .i64 0, .string ⟨#[]⟩, .slice none 0 0, .int .i64 0, .pointer none, .int .i64 0, .int .i64 3, .int .i64 0, .string ⟨#[]⟩, .slice none 0 0, .int .i64 0, .pointer none, .int .i64 0] 26)).alloc (.cells #[.int .i64 4, .int .i64 0, .string ⟨#[80]⟩, .slice (some ⟨w5.heap.size + 1 + 1 + 1, 0, none⟩) 3 3, .int .i64 0, .pointer none, .int .i64 0] 26) := ⟨_, rfl⟩
  have t0 : wa.cell? ⟨w5.heap.size + 1, 0, none⟩ = some (.int .i64 1) := by rw [hwa]; exact (keepA _ (keepA _ (keepA _ (box_at2 (vs := #[.int .i64 1, .string ⟨#[]⟩, .int .i64 0, .slice none 0 0]) 0 (by simp only [alloc_size]) rfl))))
  have t1 : wa.cell? ⟨w5.heap.size + 1, 1, none⟩ = some (.string ⟨#[]⟩) := by rw [hwa]; exact (keepA _ (keepA _ (keepA _ (box_at2 (vs := #[.int .i64 1, .string ⟨#[]⟩, .int .i64 0, .slice none 0 0]) 1 (by simp only [alloc_size]) rfl))))
  have t2 : wa.cell? ⟨w5.heap.size + 1, 2, none⟩ = some (.int .i64 0) := by rw [hwa]; exact (keepA _ (keepA _ (keepA _ (box_at2 (vs := #[.int .i64 1, .string ⟨#[]⟩, .int .i64 0, .slice none 0 0]) 2 (by simp only [alloc_size]) rfl))))
  have t3 : wa.cell? ⟨w5.heap.size + 1, 3, none⟩ = some (.slice none 0 0) := by rw [hwa]; exact (keepA _ (keepA _ (keepA _ (box_at2 (vs := #[.int .i64 1, .string ⟨#[]⟩, .int .i64 0, .slice none 0 0]) 3 (by simp only [alloc_size]) rfl))))
  have e0 : wa.cell? ⟨w5.heap.size + 1 + 1, 0, none⟩ = some (.int .i64 6) := by rw [hwa]; exact (keepA _ (keepA _ (box_at2 (vs := #[.int .i64 6, .int .i64 0, .string ⟨#[]⟩, .slice none 0 0, .int .i64 0, .pointer none, .int .i64 1]) 0 (by simp only [alloc_size]) rfl)))
  have e1 : wa.cell? ⟨w5.heap.size + 1 + 1, 1, none⟩ = some (.int .i64 0) := by rw [hwa]; exact (keepA _ (keepA _ (box_at2 (vs := #[.int .i64 6, .int .i64 0, .string ⟨#[]⟩, .slice none 0 0, .int .i64 0, .pointer none, .int .i64 1]) 1 (by simp only [alloc_size]) rfl)))
  have e2 : wa.cell? ⟨w5.heap.size + 1 + 1, 2, none⟩ = some (.string ⟨#[]⟩) := by rw [hwa]; exact (keepA _ (keepA _ (box_at2 (vs := #[.int .i64 6, .int .i64 0, .string ⟨#[]⟩, .slice none 0 0, .int .i64 0, .pointer none, .int .i64 1]) 2 (by simp only [alloc_size]) rfl)))
  have e3 : wa.cell? ⟨w5.heap.size + 1 + 1, 3, none⟩ = some (.slice none 0 0) := by rw [hwa]; exact (keepA _ (keepA _ (box_at2 (vs := #[.int .i64 6, .int .i64 0, .string ⟨#[]⟩, .slice none 0 0, .int .i64 0, .pointer none, .int .i64 1]) 3 (by simp only [alloc_size]) rfl)))
  have e4 : wa.cell? ⟨w5.heap.size + 1 + 1, 4, none⟩ = some (.int .i64 0) := by rw [hwa]; exact (keepA _ (keepA _ (box_at2 (vs := #[.int .i64 6, .int .i64 0, .string ⟨#[]⟩, .slice none 0 0, .int .i64 0, .pointer none, .int .i64 1]) 4 (by simp only [alloc_size]) rfl)))
  have e5 : wa.cell? ⟨w5.heap.size + 1 + 1, 5, none⟩ = some (.pointer none) := by rw [hwa]; exact (keepA _ (keepA _ (box_at2 (vs := #[.int .i64 6, .int .i64 0, .string ⟨#[]⟩, .slice none 0 0, .int .i64 0, .pointer none, .int .i64 1]) 5 (by simp only [alloc_size]) rfl)))
  have e6 : wa.cell? ⟨w5.heap.size + 1 + 1, 6, none⟩ = some (.int .i64 1) := by rw [hwa]; exact (keepA _ (keepA _ (box_at2 (vs := #[.int .i64 6, .int .i64 0, .string ⟨#[]⟩, .slice none 0 0, .int .i64 0, .pointer none, .int .i64 1]) 6 (by simp only [alloc_size]) rfl)))
  have p0 : wa.cell? ⟨w5.heap.size + 1 + 1 + 1 + 1, 0, none⟩ = some (.int .i64 4) := by rw [hwa]; exact (box_at2 (vs := #[.int .i64 4, .int .i64 0, .string ⟨#[80]⟩, .slice (some ⟨w5.heap.size + 1 + 1 + 1, 0, none⟩) 3 3, .int .i64 0, .pointer none, .int .i64 0]) 0 (by simp only [alloc_size]) rfl)
  have p1 : wa.cell? ⟨w5.heap.size + 1 + 1 + 1 + 1, 1, none⟩ = some (.int .i64 0) := by rw [hwa]; exact (box_at2 (vs := #[.int .i64 4, .int .i64 0, .string ⟨#[80]⟩, .slice (some ⟨w5.heap.size + 1 + 1 + 1, 0, none⟩) 3 3, .int .i64 0, .pointer none, .int .i64 0]) 1 (by simp only [alloc_size]) rfl)
  have p2 : wa.cell? ⟨w5.heap.size + 1 + 1 + 1 + 1, 2, none⟩ = some (.string ⟨#[80]⟩) := by rw [hwa]; exact (box_at2 (vs := #[.int .i64 4, .int .i64 0, .string ⟨#[80]⟩, .slice (some ⟨w5.heap.size + 1 + 1 + 1, 0, none⟩) 3 3, .int .i64 0, .pointer none, .int .i64 0]) 2 (by simp only [alloc_size]) rfl)
  have p3 : wa.cell? ⟨w5.heap.size + 1 + 1 + 1 + 1, 3, none⟩ = some (.slice (some ⟨w5.heap.size + 1 + 1 + 1, 0, none⟩) 3 3) := by rw [hwa]; exact (box_at2 (vs := #[.int .i64 4, .int .i64 0, .string ⟨#[80]⟩, .slice (some ⟨w5.heap.size + 1 + 1 + 1, 0, none⟩) 3 3, .int .i64 0, .pointer none, .int .i64 0]) 3 (by simp only [alloc_size]) rfl)
  have p4 : wa.cell? ⟨w5.heap.size + 1 + 1 + 1 + 1, 4, none⟩ = some (.int .i64 0) := by rw [hwa]; exact (box_at2 (vs := #[.int .i64 4, .int .i64 0, .string ⟨#[80]⟩, .slice (some ⟨w5.heap.size + 1 + 1 + 1, 0, none⟩) 3 3, .int .i64 0, .pointer none, .int .i64 0]) 4 (by simp only [alloc_size]) rfl)
  have p5 : wa.cell? ⟨w5.heap.size + 1 + 1 + 1 + 1, 5, none⟩ = some (.pointer none) := by rw [hwa]; exact (box_at2 (vs := #[.int .i64 4, .int .i64 0, .string ⟨#[80]⟩, .slice (some ⟨w5.heap.size + 1 + 1 + 1, 0, none⟩) 3 3, .int .i64 0, .pointer none, .int .i64 0]) 5 (by simp only [alloc_size]) rfl)
  have p6 : wa.cell? ⟨w5.heap.size + 1 + 1 + 1 + 1, 6, none⟩ = some (.int .i64 0) := by rw [hwa]; exact (box_at2 (vs := #[.int .i64 4, .int .i64 0, .string ⟨#[80]⟩, .slice (some ⟨w5.heap.size + 1 + 1 + 1, 0, none⟩) 3 3, .int .i64 0, .pointer none, .int .i64 0]) 6 (by simp only [alloc_size]) rfl)
  have k0 : wa.cell? ⟨w3.heap.size, 0, none⟩ = some (.int .i64 2) := by rw [hwa]; exact (keepA _ (keepA _ (keepA _ (keepA _ (keepA _ k0)))))
  have k1 : wa.cell? ⟨w3.heap.size, 1, none⟩ = some (.int .i64 1) := by rw [hwa]; exact (keepA _ (keepA _ (keepA _ (keepA _ (keepA _ k1)))))
  have c1 : wa.cell? ⟨w4.heap.size, 1, none⟩ = some (.int .i64 7) := by rw [hwa]; exact (keepA _ (keepA _ (keepA _ (keepA _ (keepA _ c1)))))
  have hbw : Below w5.heap.size w5 wa := by rw [hwa]; exact (((((belowA _ _).trans ((belowA _ _).mono (by simp only [alloc_size]; omega))).trans ((belowA _ _).mono (by simp only [alloc_size]; omega))).trans ((belowA _ _).mono (by simp only [alloc_size]; omega))).trans ((belowA _ _).mono (by simp only [alloc_size]; omega)))
  have hrw : ∀ j v, #[.int .i64 1, .int .i64 (-3), .string ⟨#[]⟩, .slice none 0 0, .int .i64 0, .pointer none, .int .i64 0, .int .i64 2, .int .i64 0, .string ⟨#[]⟩, .slice none 0 0, .int .i64 0, .pointer none, .int .i64 0, .int .i64 3, .int .i64 0, .string ⟨#[]⟩, .slice none 0 0, .int .i64 0, .pointer none, .int .i64 0][j]? = some v → wa.cell? ⟨w5.heap.size + 1 + 1 + 1, j, none⟩ = some v := fun j v h => by rw [hwa]; exact (keepA _ (box_at2 j (by simp only [alloc_size]) h))
  have hrl : w5.heap.size + 1 + 1 + 1 < wa.heap.size := by rw [hwa]; simp only [alloc_size]; omega
  have VR : Hid (VRow wa (some ⟨w5.heap.size + 1 + 1 + 1, 0, none⟩) [vm3, vfa, vun]) := Lib.hid (.inr ⟨_, _, rfl, hrl, by
    rw [okL, okL, okL, okL]
    exact ⟨okV_leaf (e := .pointer none) hrl (by decide) (fun j v h => hrw (0 + j) v (by match j, h with
        | 0, h | 1, h | 2, h | 3, h | 4, h | 5, h | 6, h => exact h)), okV_leaf (e := .pointer none) hrl (by decide) (fun j v h => hrw (7 + j) v (by match j, h with
        | 0, h | 1, h | 2, h | 3, h | 4, h | 5, h | 6, h => exact h)), okV_leaf (e := .pointer none) hrl (by decide) (fun j v h => hrw (14 + j) v (by match j, h with
        | 0, h | 1, h | 2, h | 3, h | 4, h | 5, h | 6, h => exact h)), trivial⟩⟩)
  have BA := Lib.hid (below2 B6.out hbw)
  have HCA := Lib.hid (chain_belowK hbw _ _ (Nat.le_refl _) HC6.out)
  have HWA := Lib.hid hwa
  rw [← hwa]
  clear hwa hbw hrw hrl B6 HC6 B3
  go_upto_region 12 with (fail)
  obtain ⟨wb, hwb⟩ : ∃ wb, wb = (wa.alloc (.cells #[.string ⟨#[105, 110, 116]⟩, .string ⟨#[98, 111, 111, 108]⟩] 9)).alloc (.cells #[.string ⟨#[80]⟩, .slice (some ⟨wa.heap.size, 0, none⟩) 2 2] 37) := ⟨_, rfl⟩
  have hbb : Below wa.heap.size wa wb := by rw [hwb]; exact below2 (belowA _ _) (belowA _ _)
  have CR : Hid (CRow wb (some ⟨wa.heap.size + 1, 0, none⟩) [cpair]) := Lib.hid (by rw [hwb]; exact crow_new rfl)
  have t0 := keepC hbb t0
  have t1 := keepC hbb t1
  have t2 := keepC hbb t2
  have t3 := keepC hbb t3
  have e0 := keepC hbb e0
  have e1 := keepC hbb e1
  have e2 := keepC hbb e2
  have e3 := keepC hbb e3
  have e4 := keepC hbb e4
  have e5 := keepC hbb e5
  have e6 := keepC hbb e6
  have p0 := keepC hbb p0
  have p1 := keepC hbb p1
  have p2 := keepC hbb p2
  have p3 := keepC hbb p3
  have p4 := keepC hbb p4
  have p5 := keepC hbb p5
  have p6 := keepC hbb p6
  have k0 := keepC hbb k0
  have k1 := keepC hbb k1
  have c1 := keepC hbb c1
  have VR := Lib.hid (VR.out.later hbb)
  have BA := Lib.hid (below2 BA.out hbb)
  have HCA := Lib.hid (chain_belowK hbb _ _ (Nat.le_refl _) HCA.out)
  have HWB := Lib.hid hwb
  rw [← hwb]
  clear hwb hbb
  refine wp_region_lit ?_
  refine wpList_step (fun K hK => ?_)
  rw [if_pos (by rfl)]
  go_simp
  refine hK _ _ ?_
  clear hK K
  (try simp only [Act.put, List.setIfInBounds_toArray, List.set_cons_zero, List.set_cons_succ])
  refine wpList_step (fun K hK => ?_)
  rw [if_pos (by rfl)]
  go_simp
  refine hK _ _ ?_
  clear hK K
  (try simp only [Act.put, List.setIfInBounds_toArray, List.set_cons_zero, List.set_cons_succ])
  refine wpList_step (fun K hK => ?_)
  rw [if_pos (by rfl)]
  go_simp
  refine hK _ _ ?_
  clear hK K
  (try simp only [Act.put, List.setIfInBounds_toArray, List.set_cons_zero, List.set_cons_succ])
  refine wpList_step (fun K hK => ?_)
  rw [if_pos (by rfl)]
  go_simp
  refine hK _ _ ?_
  clear hK K
  (try simp only [Act.put, List.setIfInBounds_toArray, List.set_cons_zero, List.set_cons_succ])
  refine wpList_step (fun K hK => ?_)
  rw [if_pos (by rfl)]
  go_simp
  refine hK _ _ ?_
  clear hK K
  (try simp only [Act.put, List.setIfInBounds_toArray, List.set_cons_zero, List.set_cons_succ])
  refine wpList_step (fun K hK => ?_)
  rw [if_pos (by rfl)]
  go_simp
  refine hK _ _ ?_
  clear hK K
  (try simp only [Act.put, List.setIfInBounds_toArray, List.set_cons_zero, List.set_cons_succ])
  refine wpList_step (fun K hK => ?_)
  rw [if_pos (by rfl)]
  go_simp
  refine hK _ _ ?_
  clear hK K
  (try simp only [Act.put, List.setIfInBounds_toArray, List.set_cons_zero, List.set_cons_succ])
  refine wpList_step (fun K hK => ?_)
  rw [if_pos (by rfl)]
  go_simp
  refine hK _ _ ?_
  clear hK K
  (try simp only [Act.put, List.setIfInBounds_toArray, List.set_cons_zero, List.set_cons_succ])
  refine wpList_step (fun K hK => ?_)
  rw [if_pos (by rfl)]
  go_simp
  refine hK _ _ ?_
  clear hK K
  (try simp only [Act.put, List.setIfInBounds_toArray, List.set_cons_zero, List.set_cons_succ])
  refine wpList_step (fun K hK => ?_)
  rw [if_pos (by rfl)]
  go_simp
  refine hK _ _ ?_
  clear hK K
  (try simp only [Act.put, List.setIfInBounds_toArray, List.set_cons_zero, List.set_cons_succ])
  refine wpList_step (fun K hK => ?_)
  rw [if_pos (by rfl)]
  go_simp
  refine hK _ _ ?_
  clear hK K
  (try simp only [Act.put, List.setIfInBounds_toArray, List.set_cons_zero, List.set_cons_succ])
  refine wpList_step (fun K hK => ?_)
  rw [if_pos (by rfl)]
  go_simp
  refine hK _ _ ?_
  clear hK K
  (try simp only [Act.put, List.setIfInBounds_toArray, List.set_cons_zero, List.set_cons_succ])
  refine wpList_step (fun K hK => ?_)
  rw [if_pos (by rfl)]
  go_simp
  refine hK _ _ ?_
  clear hK K
  (try simp only [Act.put, List.setIfInBounds_toArray, List.set_cons_zero, List.set_cons_succ])
  refine wpList_step (fun K hK => ?_)
  rw [if_pos (by rfl)]
  go_simp
  refine hK _ _ ?_
  clear hK K
  (try simp only [Act.put, List.setIfInBounds_toArray, List.set_cons_zero, List.set_cons_succ])
  refine wpList_step (fun K hK => ?_)
  rw [if_pos (by rfl)]
  go_simp
  refine hK _ _ ?_
  clear hK K
  (try simp only [Act.put, List.setIfInBounds_toArray, List.set_cons_zero, List.set_cons_succ])
  refine wpList_step (fun K hK => ?_)
  rw [if_pos (by rfl)]
  go_simp
  refine hK _ _ ?_
  clear hK K
  (try simp only [Act.put, List.setIfInBounds_toArray, List.set_cons_zero, List.set_cons_succ])
  refine wpList_step (fun K hK => ?_)
  rw [if_pos (by rfl)]
  go_simp
  refine hK _ _ ?_
  clear hK K
  (try simp only [Act.put, List.setIfInBounds_toArray, List.set_cons_zero, List.set_cons_succ])
  refine wpList_step (fun K hK => ?_)
  rw [if_pos (by rfl)]
  go_simp
  refine hK _ _ ?_
  clear hK K
  (try simp only [Act.put, List.setIfInBounds_toArray, List.set_cons_zero, List.set_cons_succ])
  refine wpList_step (fun K hK => ?_)
  rw [if_pos (by rfl)]
  go_simp
  refine hK _ _ ?_
  clear hK K
  (try simp only [Act.put, List.setIfInBounds_toArray, List.set_cons_zero, List.set_cons_succ])
  refine wpList_step (fun K hK => ?_)
  rw [if_pos (by rfl)]
  go_simp
  refine hK _ _ ?_
  clear hK K
  (try simp only [Act.put, List.setIfInBounds_toArray, List.set_cons_zero, List.set_cons_succ])
  refine wpList_step (fun K hK => ?_)
  rw [if_pos (by rfl)]
  go_simp
  refine hK _ _ ?_
  clear hK K
  (try simp only [Act.put, List.setIfInBounds_toArray, List.set_cons_zero, List.set_cons_succ])
  refine wpList_step (fun K hK => ?_)
  rw [if_pos (by rfl)]
  go_simp
  refine hK _ _ ?_
  clear hK K
  (try simp only [Act.put, List.setIfInBounds_toArray, List.set_cons_zero, List.set_cons_succ])
  refine wpList_step (fun K hK => ?_)
  rw [if_pos (by rfl)]
  go_simp
  refine hK _ _ ?_
  clear hK K
  (try simp only [Act.put, List.setIfInBounds_toArray, List.set_cons_zero, List.set_cons_succ])
  refine wpList_step (fun K hK => ?_)
  rw [if_pos (by rfl)]
  go_simp
  refine hK _ _ ?_
  clear hK K
  (try simp only [Act.put, List.setIfInBounds_toArray, List.set_cons_zero, List.set_cons_succ])
  refine wpList_step (fun K hK => ?_)
  rw [if_pos (by rfl)]
  go_simp
  refine hK _ _ ?_
  clear hK K
  (try simp only [Act.put, List.setIfInBounds_toArray, List.set_cons_zero, List.set_cons_succ])
  refine wpList_step (fun K hK => ?_)
  rw [if_pos (by rfl)]
  go_simp
  refine hK _ _ ?_
  clear hK K
  (try simp only [Act.put, List.setIfInBounds_toArray, List.set_cons_zero, List.set_cons_succ])
  refine wpList_step (fun K hK => ?_)
  rw [if_pos (by rfl)]
  go_simp
  refine (names_xy HCA.out).mono ?_; rintro e w6 ⟨A6, cap6, rfl, ht6, hb⟩
  have hq := hb
  have t0 := keepC hq t0
  have t1 := keepC hq t1
  have t2 := keepC hq t2
  have t3 := keepC hq t3
  have e0 := keepC hq e0
  have e1 := keepC hq e1
  have e2 := keepC hq e2
  have e3 := keepC hq e3
  have e4 := keepC hq e4
  have e5 := keepC hq e5
  have e6 := keepC hq e6
  have p0 := keepC hq p0
  have p1 := keepC hq p1
  have p2 := keepC hq p2
  have p3 := keepC hq p3
  have p4 := keepC hq p4
  have p5 := keepC hq p5
  have p6 := keepC hq p6
  have VR := Lib.hid (VR.out.later hq)
  have CR := Lib.hid (CR.out.later hq)
  have BA := Lib.hid (below2 BA.out hq)
  have HT6 := Lib.hid ht6
  clear ht6 hb hq HCA k0 k1 c1
  (try go_simp)
  refine hK _ _ ?_
  clear hK K
  (try simp only [Act.put, List.setIfInBounds_toArray, List.set_cons_zero, List.set_cons_succ])
  refine wpList_step (fun K hK => ?_)
  rw [if_pos (by rfl)]
  go_simp
  refine hK _ _ ?_
  clear hK K
  (try simp only [Act.put, List.setIfInBounds_toArray, List.set_cons_zero, List.set_cons_succ])
  refine wpList_step (fun K hK => ?_)
  rw [if_pos (by rfl)]
  go_simp
  refine (texts_same (l := [⟨#[120]⟩, ⟨#[121]⟩]) (HT6.out.later (belowA _ _)) (txrow_new rfl) (by simp)).mono ?_; rintro e w7 ⟨rfl, hb⟩
  have hq := (below2 (belowA _ _) hb)
  have t0 := keepC hq t0
  have t1 := keepC hq t1
  have t2 := keepC hq t2
  have t3 := keepC hq t3
  have e0 := keepC hq e0
  have e1 := keepC hq e1
  have e2 := keepC hq e2
  have e3 := keepC hq e3
  have e4 := keepC hq e4
  have e5 := keepC hq e5
  have e6 := keepC hq e6
  have p0 := keepC hq p0
  have p1 := keepC hq p1
  have p2 := keepC hq p2
  have p3 := keepC hq p3
  have p4 := keepC hq p4
  have p5 := keepC hq p5
  have p6 := keepC hq p6
  have VR := Lib.hid (VR.out.later hq)
  have CR := Lib.hid (CR.out.later hq)
  have BA := Lib.hid (below2 BA.out hq)
  clear hb hq HT6
  (try go_simp)
  refine hK _ _ ?_
  clear hK K
  (try simp only [Act.put, List.setIfInBounds_toArray, List.set_cons_zero, List.set_cons_succ])
  refine wpList_step (fun K hK => ?_)
  rw [if_pos (by rfl)]
  go_simp
  refine hK _ _ ?_
  clear hK K
  (try simp only [Act.put, List.setIfInBounds_toArray, List.set_cons_zero, List.set_cons_succ])
  refine wpList_step (fun K hK => ?_)
  rw [if_pos (by rfl)]
  go_simp
  refine hK _ _ ?_
  clear hK K
  (try simp only [Act.put, List.setIfInBounds_toArray, List.set_cons_zero, List.set_cons_succ])
  refine wpList_step (fun K hK => ?_)
  rw [if_pos (by rfl)]
  go_simp
  refine hK _ _ ?_
  clear hK K
  (try simp only [Act.put, List.setIfInBounds_toArray, List.set_cons_zero, List.set_cons_succ])
  refine wpList_step (fun K hK => ?_)
  rw [if_pos (by rfl)]
  go_simp
  refine hK _ _ ?_
  clear hK K
  (try simp only [Act.put, List.setIfInBounds_toArray, List.set_cons_zero, List.set_cons_succ])
  refine wpList_step (fun K hK => ?_)
  rw [if_pos (by rfl)]
  go_simp
  refine hK _ _ ?_
  clear hK K
  (try simp only [Act.put, List.setIfInBounds_toArray, List.set_cons_zero, List.set_cons_succ])
  refine wpList_step (fun K hK => ?_)
  rw [if_pos (by rfl)]
  go_simp
  refine hK _ _ ?_
  clear hK K
  (try simp only [Act.put, List.setIfInBounds_toArray, List.set_cons_zero, List.set_cons_succ])
  refine wpList_step (fun K hK => ?_)
  rw [if_pos (by rfl)]
  go_simp
  refine hK _ _ ?_
  clear hK K
  (try simp only [Act.put, List.setIfInBounds_toArray, List.set_cons_zero, List.set_cons_succ])
  refine wpList_step (fun K hK => ?_)
  rw [if_pos (by rfl)]
  go_simp
  refine hK _ _ ?_
  clear hK K
  (try simp only [Act.put, List.setIfInBounds_toArray, List.set_cons_zero, List.set_cons_succ])
  refine wpList_step (fun K hK => ?_)
  rw [if_pos (by rfl)]
  go_simp
  refine hK _ _ ?_
  clear hK K
  (try simp only [Act.put, List.setIfInBounds_toArray, List.set_cons_zero, List.set_cons_succ])
  refine wpList_step (fun K hK => ?_)
  rw [if_pos (by rfl)]
  go_simp
  refine (rend1 (HT.out.on (below2 (below2 BA.out (belowA _ _)) (belowA _ _))) (TRow.later (n := 1) (belowA _ _) (trow_new rfl)) (vrow_new (by simp only [alloc_size]))).mono ?_; rintro e w8 ⟨rfl, hb⟩
  have hq := (below2 (below2 (belowA _ _) (belowA _ _)) hb)
  have t0 := keepC hq t0
  have t1 := keepC hq t1
  have t2 := keepC hq t2
  have t3 := keepC hq t3
  have e0 := keepC hq e0
  have e1 := keepC hq e1
  have e2 := keepC hq e2
  have e3 := keepC hq e3
  have e4 := keepC hq e4
  have e5 := keepC hq e5
  have e6 := keepC hq e6
  have p0 := keepC hq p0
  have p1 := keepC hq p1
  have p2 := keepC hq p2
  have p3 := keepC hq p3
  have p4 := keepC hq p4
  have p5 := keepC hq p5
  have p6 := keepC hq p6
  have VR := Lib.hid (VR.out.later hq)
  have CR := Lib.hid (CR.out.later hq)
  have BA := Lib.hid (below2 BA.out hq)
  clear hb hq
  (try go_simp)
  refine hK _ _ ?_
  clear hK K
  (try simp only [Act.put, List.setIfInBounds_toArray, List.set_cons_zero, List.set_cons_succ])
  refine wpList_step (fun K hK => ?_)
  rw [if_pos (by rfl)]
  go_simp
  refine hK _ _ ?_
  clear hK K
  (try simp only [Act.put, List.setIfInBounds_toArray, List.set_cons_zero, List.set_cons_succ])
  refine wpList_step (fun K hK => ?_)
  rw [if_pos (by rfl)]
  go_simp
  refine hK _ _ ?_
  clear hK K
  (try simp only [Act.put, List.setIfInBounds_toArray, List.set_cons_zero, List.set_cons_succ])
  refine wpList_step (fun K hK => ?_)
  rw [if_pos (by rfl)]
  go_simp
  refine hK _ _ ?_
  clear hK K
  (try simp only [Act.put, List.setIfInBounds_toArray, List.set_cons_zero, List.set_cons_succ])
  refine wpList_step (fun K hK => ?_)
  rw [if_pos (by rfl)]
  go_simp
  refine hK _ _ ?_
  clear hK K
  (try simp only [Act.put, List.setIfInBounds_toArray, List.set_cons_zero, List.set_cons_succ])
  refine wpList_step (fun K hK => ?_)
  rw [if_pos (by rfl)]
  go_simp
  refine hK _ _ ?_
  clear hK K
  (try simp only [Act.put, List.setIfInBounds_toArray, List.set_cons_zero, List.set_cons_succ])
  refine wpList_step (fun K hK => ?_)
  rw [if_pos (by rfl)]
  go_simp
  refine hK _ _ ?_
  clear hK K
  (try simp only [Act.put, List.setIfInBounds_toArray, List.set_cons_zero, List.set_cons_succ])
  refine wpList_step (fun K hK => ?_)
  rw [if_pos (by rfl)]
  go_simp
  refine hK _ _ ?_
  clear hK K
  (try simp only [Act.put, List.setIfInBounds_toArray, List.set_cons_zero, List.set_cons_succ])
  refine wpList_step (fun K hK => ?_)
  rw [if_pos (by rfl)]
  go_simp
  refine (rend2 (HT.out.on (below2 BA.out (belowA _ _))) (trow_new rfl)).mono ?_; rintro e w9 ⟨rfl, hb⟩
  have hq := (below2 (belowA _ _) hb)
  have t0 := keepC hq t0
  have t1 := keepC hq t1
  have t2 := keepC hq t2
  have t3 := keepC hq t3
  have e0 := keepC hq e0
  have e1 := keepC hq e1
  have e2 := keepC hq e2
  have e3 := keepC hq e3
  have e4 := keepC hq e4
  have e5 := keepC hq e5
  have e6 := keepC hq e6
  have p0 := keepC hq p0
  have p1 := keepC hq p1
  have p2 := keepC hq p2
  have p3 := keepC hq p3
  have p4 := keepC hq p4
  have p5 := keepC hq p5
  have p6 := keepC hq p6
  have VR := Lib.hid (VR.out.later hq)
  have CR := Lib.hid (CR.out.later hq)
  have BA := Lib.hid (below2 BA.out hq)
  clear hb hq
  (try go_simp)
  refine hK _ _ ?_
  clear hK K
  (try simp only [Act.put, List.setIfInBounds_toArray, List.set_cons_zero, List.set_cons_succ])
  refine wpList_step (fun K hK => ?_)
  rw [if_pos (by rfl)]
  go_simp
  refine hK _ _ ?_
  clear hK K
  (try simp only [Act.put, List.setIfInBounds_toArray, List.set_cons_zero, List.set_cons_succ])
  refine wpList_step (fun K hK => ?_)
  rw [if_pos (by rfl)]
  go_simp
  refine hK _ _ ?_
  clear hK K
  (try simp only [Act.put, List.setIfInBounds_toArray, List.set_cons_zero, List.set_cons_succ])
  refine wpList_step (fun K hK => ?_)
  rw [if_pos (by rfl)]
  go_simp
  refine hK _ _ ?_
  clear hK K
  (try simp only [Act.put, List.setIfInBounds_toArray, List.set_cons_zero, List.set_cons_succ])
  refine wpList_step (fun K hK => ?_)
  rw [if_pos (by rfl)]
  go_simp
  refine hK _ _ ?_
  clear hK K
  (try simp only [Act.put, List.setIfInBounds_toArray, List.set_cons_zero, List.set_cons_succ])
  refine wpList_step (fun K hK => ?_)
  rw [if_pos (by rfl)]
  go_simp
  refine hK _ _ ?_
  clear hK K
  (try simp only [Act.put, List.setIfInBounds_toArray, List.set_cons_zero, List.set_cons_succ])
  refine wpList_step (fun K hK => ?_)
  rw [if_pos (by rfl)]
  go_simp
  refine hK _ _ ?_
  clear hK K
  (try simp only [Act.put, List.setIfInBounds_toArray, List.set_cons_zero, List.set_cons_succ])
  refine wpList_step (fun K hK => ?_)
  rw [if_pos (by rfl)]
  go_simp
  refine (rend3 (HT.out.on BA.out) VR.out CR.out).mono ?_; rintro e w10 ⟨rfl, hb⟩
  have hq := hb
  have t0 := keepC hq t0
  have t1 := keepC hq t1
  have t2 := keepC hq t2
  have t3 := keepC hq t3
  have e0 := keepC hq e0
  have e1 := keepC hq e1
  have e2 := keepC hq e2
  have e3 := keepC hq e3
  have e4 := keepC hq e4
  have e5 := keepC hq e5
  have e6 := keepC hq e6
  have p0 := keepC hq p0
  have p1 := keepC hq p1
  have p2 := keepC hq p2
  have p3 := keepC hq p3
  have p4 := keepC hq p4
  have p5 := keepC hq p5
  have p6 := keepC hq p6
  have VR := Lib.hid (VR.out.later hq)
  have CR := Lib.hid (CR.out.later hq)
  have BA := Lib.hid (below2 BA.out hq)
  clear hb hq
  (try go_simp)
  refine hK _ _ ?_
  clear hK K
  (try simp only [Act.put, List.setIfInBounds_toArray, List.set_cons_zero, List.set_cons_succ])
  refine wpList_step (fun K hK => ?_)
  rw [if_pos (by rfl)]
  go_simp
  refine hK _ _ ?_
  clear hK K
  (try simp only [Act.put, List.setIfInBounds_toArray, List.set_cons_zero, List.set_cons_succ])
  refine wpList_step (fun K hK => ?_)
  rw [if_pos (by rfl)]
  go_simp
  refine hK _ _ ?_
  clear hK K
  (try simp only [Act.put, List.setIfInBounds_toArray, List.set_cons_zero, List.set_cons_succ])
  refine wpList_step (fun K hK => ?_)
  rw [if_pos (by rfl)]
  go_simp
  refine hK _ _ ?_
  clear hK K
  (try simp only [Act.put, List.setIfInBounds_toArray, List.set_cons_zero, List.set_cons_succ])
  refine wpList_step (fun K hK => ?_)
  rw [if_pos (by rfl)]
  go_simp
  refine hK _ _ ?_
  clear hK K
  (try simp only [Act.put, List.setIfInBounds_toArray, List.set_cons_zero, List.set_cons_succ])
  refine wpList_step (fun K hK => ?_)
  rw [if_pos (by rfl)]
  go_simp
  refine hK _ _ ?_
  clear hK K
  (try simp only [Act.put, List.setIfInBounds_toArray, List.set_cons_zero, List.set_cons_succ])
  refine wpList_step (fun K hK => ?_)
  rw [if_pos (by rfl)]
  go_simp
  refine (rend4 (HT.out.on BA.out) VR.out).mono ?_; rintro e w11 ⟨rfl, hb⟩
  have hq := hb
  have t0 := keepC hq t0
  have t1 := keepC hq t1
  have t2 := keepC hq t2
  have t3 := keepC hq t3
  have e0 := keepC hq e0
  have e1 := keepC hq e1
  have e2 := keepC hq e2
  have e3 := keepC hq e3
  have e4 := keepC hq e4
  have e5 := keepC hq e5
  have e6 := keepC hq e6
  have p0 := keepC hq p0
  have p1 := keepC hq p1
  have p2 := keepC hq p2
  have p3 := keepC hq p3
  have p4 := keepC hq p4
  have p5 := keepC hq p5
  have p6 := keepC hq p6
  have VR := Lib.hid (VR.out.later hq)
  have CR := Lib.hid (CR.out.later hq)
  have BA := Lib.hid (below2 BA.out hq)
  clear hb hq
  (try go_simp)
  refine hK _ _ ?_
  clear hK K
  (try simp only [Act.put, List.setIfInBounds_toArray, List.set_cons_zero, List.set_cons_succ])
  refine wpList_step (fun K hK => ?_)
  rw [if_pos (by rfl)]
  go_simp
  refine hK _ _ ?_
  clear hK K
  (try simp only [Act.put, List.setIfInBounds_toArray, List.set_cons_zero, List.set_cons_succ])
  refine wpList_step (fun K hK => ?_)
  rw [if_pos (by rfl)]
  go_simp
  refine hK _ _ ?_
  clear hK K
  (try simp only [Act.put, List.setIfInBounds_toArray, List.set_cons_zero, List.set_cons_succ])
  refine wpList_step (fun K hK => ?_)
  rw [if_pos (by rfl)]
  go_simp
  refine hK _ _ ?_
  clear hK K
  (try simp only [Act.put, List.setIfInBounds_toArray, List.set_cons_zero, List.set_cons_succ])
  refine wpList_step (fun K hK => ?_)
  rw [if_pos (by rfl)]
  go_simp
  refine hK _ _ ?_
  clear hK K
  (try simp only [Act.put, List.setIfInBounds_toArray, List.set_cons_zero, List.set_cons_succ])
  refine wpList_step (fun K hK => ?_)
  rw [if_pos (by rfl)]
  go_simp
  refine hK _ _ ?_
  clear hK K
  (try simp only [Act.put, List.setIfInBounds_toArray, List.set_cons_zero, List.set_cons_succ])
  refine wpList_step (fun K hK => ?_)
  rw [if_pos (by rfl)]
  go_simp
  refine (rend5 (HT.out.on BA.out) VR.out).mono ?_; rintro e w12 ⟨rfl, hb⟩
  have hq := hb
  have t0 := keepC hq t0
  have t1 := keepC hq t1
  have t2 := keepC hq t2
  have t3 := keepC hq t3
  have e0 := keepC hq e0
  have e1 := keepC hq e1
  have e2 := keepC hq e2
  have e3 := keepC hq e3
  have e4 := keepC hq e4
  have e5 := keepC hq e5
  have e6 := keepC hq e6
  have p0 := keepC hq p0
  have p1 := keepC hq p1
  have p2 := keepC hq p2
  have p3 := keepC hq p3
  have p4 := keepC hq p4
  have p5 := keepC hq p5
  have p6 := keepC hq p6
  have VR := Lib.hid (VR.out.later hq)
  have CR := Lib.hid (CR.out.later hq)
  have BA := Lib.hid (below2 BA.out hq)
  clear hb hq
  (try go_simp)
  refine hK _ _ ?_
  clear hK K
  (try simp only [Act.put, List.setIfInBounds_toArray, List.set_cons_zero, List.set_cons_succ])
  refine wpList_step (fun K hK => ?_)
  rw [if_pos (by rfl)]
  go_simp
  refine hK _ _ ?_
  clear hK K
  (try simp only [Act.put, List.setIfInBounds_toArray, List.set_cons_zero, List.set_cons_succ])
  refine wpList_step (fun K hK => ?_)
  rw [if_pos (by rfl)]
  go_simp
  refine hK _ _ ?_
  clear hK K
  (try simp only [Act.put, List.setIfInBounds_toArray, List.set_cons_zero, List.set_cons_succ])
  refine wpList_step (fun K hK => ?_)
  rw [if_pos (by rfl)]
  go_simp
  refine hK _ _ ?_
  clear hK K
  (try simp only [Act.put, List.setIfInBounds_toArray, List.set_cons_zero, List.set_cons_succ])
  refine wpList_step (fun K hK => ?_)
  rw [if_pos (by rfl)]
  go_simp
  refine hK _ _ ?_
  clear hK K
  (try simp only [Act.put, List.setIfInBounds_toArray, List.set_cons_zero, List.set_cons_succ])
  refine wpList_step (fun K hK => ?_)
  rw [if_pos (by rfl)]
  go_simp
  refine hK _ _ ?_
  clear hK K
  (try simp only [Act.put, List.setIfInBounds_toArray, List.set_cons_zero, List.set_cons_succ])
  refine wpList_step (fun K hK => ?_)
  rw [if_pos (by rfl)]
  go_simp
  refine hK _ _ ?_
  clear hK K
  (try simp only [Act.put, List.setIfInBounds_toArray, List.set_cons_zero, List.set_cons_succ])
  refine wpList_step (fun K hK => ?_)
  rw [if_pos (by rfl)]
  go_simp
  refine hK _ _ ?_
  clear hK K
  (try simp only [Act.put, List.setIfInBounds_toArray, List.set_cons_zero, List.set_cons_succ])
  refine wpList_step (fun K hK => ?_)
  rw [if_pos (by rfl)]
  go_simp
  refine hK _ _ ?_
  clear hK K
  (try simp only [Act.put, List.setIfInBounds_toArray, List.set_cons_zero, List.set_cons_succ])
  refine wpList_step (fun K hK => ?_)
  rw [if_pos (by rfl)]
  go_simp
  refine (rend6 (HT.out.on (below2 BA.out (belowA _ _))) (trow_new2 rfl)).mono ?_; rintro e w13 ⟨rfl, hb⟩
  have hq := (below2 (belowA _ _) hb)
  have t0 := keepC hq t0
  have t1 := keepC hq t1
  have t2 := keepC hq t2
  have t3 := keepC hq t3
  have e0 := keepC hq e0
  have e1 := keepC hq e1
  have e2 := keepC hq e2
  have e3 := keepC hq e3
  have e4 := keepC hq e4
  have e5 := keepC hq e5
  have e6 := keepC hq e6
  have p0 := keepC hq p0
  have p1 := keepC hq p1
  have p2 := keepC hq p2
  have p3 := keepC hq p3
  have p4 := keepC hq p4
  have p5 := keepC hq p5
  have p6 := keepC hq p6
  have VR := Lib.hid (VR.out.later hq)
  have CR := Lib.hid (CR.out.later hq)
  have BA := Lib.hid (below2 BA.out hq)
  clear hb hq
  (try go_simp)
  refine hK _ _ ?_
  clear hK K
  (try simp only [Act.put, List.setIfInBounds_toArray, List.set_cons_zero, List.set_cons_succ])
  refine wpList_step (fun K hK => ?_)
  rw [if_pos (by rfl)]
  go_simp
  refine hK _ _ ?_
  clear hK K
  (try simp only [Act.put, List.setIfInBounds_toArray, List.set_cons_zero, List.set_cons_succ])
  refine wpList_step (fun K hK => ?_)
  rw [if_pos (by rfl)]
  go_simp
  refine hK _ _ ?_
  clear hK K
  (try simp only [Act.put, List.setIfInBounds_toArray, List.set_cons_zero, List.set_cons_succ])
  refine wpList_step (fun K hK => ?_)
  rw [if_pos (by rfl)]
  go_simp
  refine hK _ _ ?_
  clear hK K
  (try simp only [Act.put, List.setIfInBounds_toArray, List.set_cons_zero, List.set_cons_succ])
  refine wpList_step (fun K hK => ?_)
  rw [if_pos (by rfl)]
  go_simp
  refine hK _ _ ?_
  clear hK K
  (try simp only [Act.put, List.setIfInBounds_toArray, List.set_cons_zero, List.set_cons_succ])
  refine wpList_step (fun K hK => ?_)
  rw [if_pos (by rfl)]
  go_simp
  refine hK _ _ ?_
  clear hK K
  (try simp only [Act.put, List.setIfInBounds_toArray, List.set_cons_zero, List.set_cons_succ])
  refine wpList_step (fun K hK => ?_)
  rw [if_pos (by rfl)]
  go_simp
  refine (same1 VR.out).mono ?_; rintro e w14 ⟨rfl, hb⟩
  have hq := hb
  have t0 := keepC hq t0
  have t1 := keepC hq t1
  have t2 := keepC hq t2
  have t3 := keepC hq t3
  have e0 := keepC hq e0
  have e1 := keepC hq e1
  have e2 := keepC hq e2
  have e3 := keepC hq e3
  have e4 := keepC hq e4
  have e5 := keepC hq e5
  have e6 := keepC hq e6
  have p0 := keepC hq p0
  have p1 := keepC hq p1
  have p2 := keepC hq p2
  have p3 := keepC hq p3
  have p4 := keepC hq p4
  have p5 := keepC hq p5
  have p6 := keepC hq p6
  have VR := Lib.hid (VR.out.later hq)
  have CR := Lib.hid (CR.out.later hq)
  have BA := Lib.hid (below2 BA.out hq)
  clear hb hq
  (try go_simp)
  refine hK _ _ ?_
  clear hK K
  (try simp only [Act.put, List.setIfInBounds_toArray, List.set_cons_zero, List.set_cons_succ])
  refine wpList_step (fun K hK => ?_)
  rw [if_pos (by rfl)]
  go_simp
  refine hK _ _ ?_
  clear hK K
  (try simp only [Act.put, List.setIfInBounds_toArray, List.set_cons_zero, List.set_cons_succ])
  refine wpList_step (fun K hK => ?_)
  rw [if_pos (by rfl)]
  go_simp
  refine hK _ _ ?_
  clear hK K
  (try simp only [Act.put, List.setIfInBounds_toArray, List.set_cons_zero, List.set_cons_succ])
  refine wpList_step (fun K hK => ?_)
  rw [if_pos (by rfl)]
  go_simp
  refine hK _ _ ?_
  clear hK K
  (try simp only [Act.put, List.setIfInBounds_toArray, List.set_cons_zero, List.set_cons_succ])
  refine wpList_step (fun K hK => ?_)
  rw [if_pos (by rfl)]
  go_simp
  refine hK _ _ ?_
  clear hK K
  (try simp only [Act.put, List.setIfInBounds_toArray, List.set_cons_zero, List.set_cons_succ])
  refine wpList_step (fun K hK => ?_)
  rw [if_pos (by rfl)]
  go_simp
  refine (same2 VR.out).mono ?_; rintro e w15 ⟨rfl, hb⟩
  have hq := hb
  have VR := Lib.hid (VR.out.later hq)
  have CR := Lib.hid (CR.out.later hq)
  have BA := Lib.hid (below2 BA.out hq)
  clear hb hq
  (try go_simp)
  refine hK _ _ ?_
  clear hK K
  (try simp only [Act.put, List.setIfInBounds_toArray, List.set_cons_zero, List.set_cons_succ])
  refine wpList_step (fun K hK => ?_)
  rw [if_pos (by rfl)]
  go_simp
  refine hK _ _ ?_
  clear hK K
  (try simp only [Act.put, List.setIfInBounds_toArray, List.set_cons_zero, List.set_cons_succ])
  refine wpList_step (fun K hK => ?_)
  rw [if_pos (by rfl)]
  go_simp
  refine hK _ _ ?_
  clear hK K
  (try simp only [Act.put, List.setIfInBounds_toArray, List.set_cons_zero, List.set_cons_succ])
  refine wpList_step (fun K hK => ?_)
  rw [if_pos (by rfl)]
  go_simp
  refine hK _ _ ?_
  clear hK K
  (try simp only [Act.put, List.setIfInBounds_toArray, List.set_cons_zero, List.set_cons_succ])
  go_wp2
  go_ret
  exact ⟨rfl, BA.out⟩
end Go.Proofs.YtclilpabdcdeoaaDoor
