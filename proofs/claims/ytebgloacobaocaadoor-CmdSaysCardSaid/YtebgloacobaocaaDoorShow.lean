import Derived.Test.YtebgloacobaocaaDoorGood
import Derived.Lib.AppendIntMem
import Derived.Lib.ItoaLen
import Derived.Deep.RegionHeld3
namespace Go.Proofs.YtebgloacobaocaaDoor
open Go.ChangeShapes Go.WideShapes Go.ChangeAt Go.RowKit Go.Shelf Go.Lib CharsMath
set_option linter.unusedVariables false
theorem add_str {a b c : ByteArray} (h : a ++ b = c) (ha : a.size ≤ 1000000) (hb : b.size ≤ 1000000) : ∀ W, (Op.stringOp .add a b).run Tryd.prog W = .ok (.string c) W := fun W => by
  rw [run_string_add_sum W a b (by omega), h]
def itoaB (n : Int) : ByteArray := ⟨(Lib.itoa n).toArray⟩
def showV (k n : Int) (x : ByteArray) : ByteArray :=
  if goodV k n x = false then ⟨#[]⟩ else if numberedV k then (verbV k ++ ⟨#[32]⟩) ++ itoaB n else if namedV k then (verbV k ++ ⟨#[32]⟩) ++ x else verbV k
def forwardV (k : Int) : Bool := decide (3 ≤ k ∧ k ≤ 6)
set_option maxRecDepth 100000 in
theorem forward_any (k n : Int) (x : ByteArray) (w : World) : Calls Tryd.prog 10 #[.agg #[.int .i64 k, .int .i64 n, .string x]] w fun e w' => e = .returned (.bool (forwardV k)) ∧ Below w.heap.size w w' := by
  obtain ⟨c0, c1, c2⟩ := box3 w (.int .i64 k) (.int .i64 n) (.string x)
  have B0 := Lib.hid (below_alloc w (.cells #[.int .i64 k, .int .i64 n, .string x] 24))
  by_cases h3 : 3 ≤ k
  · have d3 := decide_eq_true h3
    by_cases h6 : k ≤ 6
    · have d6 := decide_eq_true h6
      rw [show forwardV k = true from decide_eq_true ⟨h3, h6⟩]
      go_enter Tryd.func10, Tryd.ntmps10
      go_wp2
      go_ret
      exact ⟨rfl, B0.out⟩
    · have d6 := decide_eq_false h6
      rw [show forwardV k = false from decide_eq_false (fun h => h6 h.2)]
      clear h6
      go_enter Tryd.func10, Tryd.ntmps10
      go_wp2
      go_ret
      exact ⟨rfl, B0.out⟩
  · have d3 := decide_eq_false h3
    rw [show forwardV k = false from decide_eq_false (fun h => h3 h.1)]
    clear h3
    go_enter Tryd.func10, Tryd.ntmps10
    go_wp2
    go_ret
    exact ⟨rfl, B0.out⟩
theorem fmt_any (n : Int) (w : World) (h0 : 0 ≤ n) (h1 : n ≤ 999999999) (hT : Tabs w) :
    Calls Tryd.prog 19 #[.int .i64 n, .int .i64 10] w fun e w' => e = .returned (.string (itoaB n)) ∧ Below w.heap.size w w' := by
  refine (Tryd.strconv_FormatInt_10 n (by omega) (by omega) w hT.pow).mono ?_
  rintro e w' ⟨rfl, k, os, rfl⟩
  exact ⟨rfl, below_grow _ _ (Nat.le_refl _) _ _⟩
theorem good_range {k n : Int} {x : ByteArray} (h : goodV k n x = true) : 0 ≤ n ∧ n ≤ 999999999 := by
  unfold goodV at h
  split at h
  · cases h
  split at h
  · cases h
  split at h
  · cases h
  rename_i a b
  unfold leastV at a; unfold mostV at b
  split at a <;> split at b <;> (try split at a) <;> omega
theorem verb_len (k : Int) : (verbV k).size ≤ 20 := by
  unfold verbV
  split
  · decide
  · have : ∀ v ∈ verbs, v.size ≤ 20 := by decide
    by_cases h : k.toNat < verbs.length
    · rw [List.getD, List.getElem?_eq_getElem h]; exact this _ (List.getElem_mem h)
    · rw [List.getD, List.getElem?_eq_none (by omega)]; exact Nat.zero_le _
theorem itoaB_len (n : Int) (h0 : 0 ≤ n) (h1 : n ≤ 999999999) : (itoaB n).size ≤ 21 := by
  show (Lib.itoa n).toArray.size ≤ 21
  have := Lib.itoa_length_le n (by omega) (by omega)
  simp; omega
set_option maxRecDepth 100000 in
set_option maxHeartbeats 4000000 in
theorem show_any (k n : Int) (x : ByteArray) (w : World) (hs : x.size ≤ 100000) (hT : Tabs w) : Calls Tryd.prog 9 #[.agg #[.int .i64 k, .int .i64 n, .string x]] w fun e w' => e = .returned (.string (showV k n x)) ∧ Below w.heap.size w w' := by
  obtain ⟨c0, c1, c2⟩ := box3 w (.int .i64 k) (.int .i64 n) (.string x)
  have B0 := Lib.hid (below_alloc w (.cells #[.int .i64 k, .int .i64 n, .string x] 24))
  have HT := Lib.hid hT
  have GD := Lib.hid (good_any k n x (w.alloc (.cells #[.int .i64 k, .int .i64 n, .string x] 24)) (by unfold maxLen; omega) (hT.below B0.out))
  have SV : Hid (showV k n x = if goodV k n x = false then ⟨#[]⟩ else if numberedV k then (verbV k ++ ⟨#[32]⟩) ++ itoaB n else if namedV k then (verbV k ++ ⟨#[32]⟩) ++ x else verbV k) := Lib.hid rfl
  have RG : Hid (goodV k n x = true → 0 ≤ n ∧ n ≤ 999999999) := Lib.hid good_range
  obtain ⟨gd, hgd⟩ : ∃ gd, gd = goodV k n x := ⟨_, rfl⟩
  obtain ⟨nb, hnb⟩ : ∃ nb, nb = numberedV k := ⟨_, rfl⟩
  obtain ⟨md, hmd⟩ : ∃ md, md = namedV k := ⟨_, rfl⟩
  have NB := Lib.hid (numbered_any k); have MD := Lib.hid (named_any k)
  have VB := Lib.hid (verb_any k)
  obtain ⟨v, hv⟩ : ∃ v, v = verbV k := ⟨_, rfl⟩
  have hvl : v.size ≤ 20 := by rw [hv]; exact verb_len k
  rw [← hv] at VB
  rw [← hgd] at GD RG; rw [← hnb] at NB; rw [← hmd] at MD
  rw [← hgd, ← hnb, ← hmd, ← hv] at SV
  clear hT hgd hnb hmd hv
  cases gd with
  | false =>
    have FV : Hid (showV k n x = ⟨#[]⟩) := Lib.hid (by rw [SV.out]; simp)
    clear SV
    go_enter Tryd.func9, Tryd.ntmps9
    go_wp2_with fail
    refine GD.out.mono ?_; rintro e w1 ⟨rfl, hb1⟩
    have HB := Lib.hid (bt B0.out hb1)
    clear hb1
    go_wp2
    go_ret
    exact ⟨by rw [FV.out]; rfl, HB.out⟩
  | true =>
    obtain ⟨hn0, hn1⟩ := RG.out rfl
    obtain ⟨v2, hv2⟩ : ∃ v2, v2 = v ++ ⟨#[32]⟩ := ⟨_, rfl⟩
    have hv2l : v2.size ≤ 21 := by rw [hv2, ByteArray.size_append]; show v.size + 1 ≤ 21; omega
    have ad1 := add_str hv2.symm (by omega) (by decide)
    have HV2 := Lib.hid hv2
    have FM := Lib.hid (fun W (hT : Tabs W) => fmt_any n W hn0 hn1 hT)
    cases nb with
    | true =>
      obtain ⟨it, hit⟩ : ∃ it, it = itoaB n := ⟨_, rfl⟩
      have hil : it.size ≤ 21 := by rw [hit]; exact itoaB_len n hn0 hn1
      rw [← hit] at FM
      obtain ⟨v3, hv3⟩ : ∃ v3, v3 = v2 ++ it := ⟨_, rfl⟩
      have ad2 := add_str hv3.symm (by omega) (by omega)
      have FV : Hid (showV k n x = v3) := Lib.hid (by rw [SV.out, hv3, hv2, hit]; simp)
      clear SV RG hv2 hit hv3 hvl hv2l hil
      go_enter Tryd.func9, Tryd.ntmps9
      go_wp2_with fail
      refine GD.out.mono ?_; rintro e w1 ⟨rfl, hb1⟩
      have HB := Lib.hid (bt B0.out hb1)
      have j0 := (hb1.cell (p := ⟨w.heap.size, 0, none⟩) (by simp)).trans c0
      have j1 := (hb1.cell (p := ⟨w.heap.size, 1, none⟩) (by simp)).trans c1
      have T1 := Lib.hid (HT.out.below HB.out)
      have hlt : w.heap.size < w1.heap.size := Nat.lt_of_lt_of_le (by simp) hb1.size
      have HLT := Lib.hid hlt
      clear hb1 hlt c0 c1 c2
      go_wp2_with ((go_at_call 15; refine (NB.out _).mono ?_; rintro e w5 ⟨rfl, rfl⟩))
      go_region_held3 (fun w' => w'.cell? ⟨w.heap.size, 0, none⟩ = some (.int .i64 k) ∧ w'.cell? ⟨w.heap.size, 1, none⟩ = some (.int .i64 n) ∧ Below w1.heap.size w1 w') (refine ⟨?_, ?_, ?_⟩ <;> first | assumption | exact j0 | exact j1 | exact ⟨rfl, rfl, rfl, Nat.le_refl _, fun _ _ => rfl⟩)
        (first
          | (go_at_call 14; refine (VB.out _).mono ?_; rintro e w3 ⟨rfl, hb3⟩; have bq := bt (w := w1) (by first | assumption | exact ⟨rfl, rfl, rfl, Nat.le_refl _, fun _ _ => rfl⟩) hb3; have z0 := (bq.cell (p := ⟨w.heap.size, 0, none⟩) HLT.out).trans j0; have z1 := (bq.cell (p := ⟨w.heap.size, 1, none⟩) HLT.out).trans j1)
          | (go_at_call 19; refine (FM.out _ (T1.out.below (by first | assumption | exact ⟨rfl, rfl, rfl, Nat.le_refl _, fun _ _ => rfl⟩))).mono ?_; rintro e w3 ⟨rfl, hb3⟩; have bq := bt (w := w1) (by first | assumption | exact ⟨rfl, rfl, rfl, Nat.le_refl _, fun _ _ => rfl⟩) hb3; have z0 := (bq.cell (p := ⟨w.heap.size, 0, none⟩) HLT.out).trans j0; have z1 := (bq.cell (p := ⟨w.heap.size, 1, none⟩) HLT.out).trans j1))
      all_goals (
        go_wp2_with fail
        go_ret
        exact ⟨by rw [FV.out]; rfl, bt HB.out bq⟩)
    | false =>
      cases md with
      | true =>
        obtain ⟨v3, hv3⟩ : ∃ v3, v3 = v2 ++ x := ⟨_, rfl⟩
        have ad2 := add_str hv3.symm (by omega) (by omega)
        have FV : Hid (showV k n x = v3) := Lib.hid (by rw [SV.out, hv3, hv2]; simp)
        clear SV RG hv2 hv3 hvl hv2l FM
        go_enter Tryd.func9, Tryd.ntmps9
        go_wp2_with fail
        refine GD.out.mono ?_; rintro e w1 ⟨rfl, hb1⟩
        have HB := Lib.hid (bt B0.out hb1)
        have j0 := (hb1.cell (p := ⟨w.heap.size, 0, none⟩) (by simp)).trans c0
        have j2 := (hb1.cell (p := ⟨w.heap.size, 2, none⟩) (by simp)).trans c2
        have hlt : w.heap.size < w1.heap.size := Nat.lt_of_lt_of_le (by simp) hb1.size
        have HLT := Lib.hid hlt
        clear hb1 hlt c0 c1 c2
        go_wp2_with (first | (go_at_call 15; refine (NB.out _).mono ?_; rintro e w5 ⟨rfl, rfl⟩) | (go_at_call 16; refine (MD.out _).mono ?_; rintro e w5 ⟨rfl, rfl⟩))
        go_region_held3 (fun w' => w'.cell? ⟨w.heap.size, 0, none⟩ = some (.int .i64 k) ∧ w'.cell? ⟨w.heap.size, 2, none⟩ = some (.string x) ∧ Below w1.heap.size w1 w') (refine ⟨?_, ?_, ?_⟩ <;> first | assumption | exact j0 | exact j2 | exact ⟨rfl, rfl, rfl, Nat.le_refl _, fun _ _ => rfl⟩)
          ((go_at_call 14; refine (VB.out _).mono ?_; rintro e w3 ⟨rfl, hb3⟩; have bq := bt (w := w1) (by first | assumption | exact ⟨rfl, rfl, rfl, Nat.le_refl _, fun _ _ => rfl⟩) hb3; have z0 := (bq.cell (p := ⟨w.heap.size, 0, none⟩) HLT.out).trans j0; have z1 := (bq.cell (p := ⟨w.heap.size, 2, none⟩) HLT.out).trans j2))
        all_goals (
          go_wp2_with fail
          go_ret
          exact ⟨by rw [FV.out]; rfl, bt HB.out bq⟩)
      | false =>
        have FV : Hid (showV k n x = v) := Lib.hid (by rw [SV.out]; simp)
        clear SV RG hv2 hvl hv2l FM ad1
        go_enter Tryd.func9, Tryd.ntmps9
        go_wp2_with fail
        refine GD.out.mono ?_; rintro e w1 ⟨rfl, hb1⟩
        have HB := Lib.hid (bt B0.out hb1)
        have j0 := (hb1.cell (p := ⟨w.heap.size, 0, none⟩) (by simp)).trans c0
        clear hb1 c0 c1 c2
        go_wp2_with (first | (go_at_call 15; refine (NB.out _).mono ?_; rintro e w5 ⟨rfl, rfl⟩) | (go_at_call 16; refine (MD.out _).mono ?_; rintro e w5 ⟨rfl, rfl⟩))
        refine (VB.out _).mono ?_; rintro e w3 ⟨rfl, hb3⟩
        have HB3 := Lib.hid (bt HB.out hb3)
        clear hb3
        go_wp2_with fail
        go_ret
        exact ⟨by rw [FV.out]; rfl, HB3.out⟩
end Go.Proofs.YtebgloacobaocaaDoor
