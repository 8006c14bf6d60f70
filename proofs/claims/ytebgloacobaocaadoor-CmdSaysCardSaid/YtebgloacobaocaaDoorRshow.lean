import Derived.Test.YtebgloacobaocaaDoorNamed
import Derived.Test.YtebgloacobaocaaDoorKinds
import Derived.Test.YtebgloacobaocaaDoorDig
namespace Go.Proofs.YtebgloacobaocaaDoor
open Go.ChangeShapes Go.WideShapes Go.ChangeAt Go.RowKit Go.Shelf Go.Lib CharsMath
set_option linter.unusedVariables false
theorem strU_itoa (n : Int) : strU (Lib.itoa n) = itoaB n := by
  unfold strU strOfNums itoaB
  apply ByteArray.ext
  simp only [List.map_map]
  congr 1
  conv => rhs; rw [← List.map_id (Lib.itoa n)]
  apply List.map_congr_left
  intro u hu
  simp
def behindV (k : Nat) : Int := behind.getD k 0
def rshowV (k n : Int) (x : ByteArray) : ByteArray :=
  if k < 1 ∨ 17 < k then ⟨#[]⟩
  else if behindV k.toNat = 0 then (if n ≠ 0 then ⟨#[]⟩ else if 0 < x.size then ⟨#[]⟩ else verbV k)
  else if behindV k.toNat = 2 then (if n ≠ 0 then ⟨#[]⟩ else if rnamedV x = false then ⟨#[]⟩ else (verbV k ++ ⟨#[32]⟩) ++ x)
  else if n < 0 then ⟨#[]⟩ else if n = 0 ∧ k ≠ 10 then ⟨#[]⟩ else if 999999999 < n then ⟨#[]⟩ else if 0 < x.size then ⟨#[]⟩ else (verbV k ++ ⟨#[32]⟩) ++ itoaB n
theorem box30 (w : World) (a b c : Value) : (w.alloc (.cells #[a, b, c] 30)).cell? ⟨w.heap.size, 0, none⟩ = some a ∧ (w.alloc (.cells #[a, b, c] 30)).cell? ⟨w.heap.size, 1, none⟩ = some b ∧ (w.alloc (.cells #[a, b, c] 30)).cell? ⟨w.heap.size, 2, none⟩ = some c := by
  have := (MapKept.heap_alloc w (Obj.cells #[a, b, c] 30)).1
  refine ⟨?_, ?_, ?_⟩ <;> (unfold World.cell?; rw [this]; rfl)
set_option maxRecDepth 100000 in
set_option maxHeartbeats 4000000 in
theorem rshow_any (k n : Int) (x : ByteArray) (w : World) (hn0 : -9223372036854775808 ≤ n) (hn1 : n ≤ 9223372036854775807) (hs : x.size ≤ 100000) (hT : Tabs w) : Calls Tryd.prog 12 #[.agg #[.int .i64 k, .int .i64 n, .string x]] w fun e w' => e = .returned (.string (rshowV k n x)) ∧ Below w.heap.size w w' := by
  obtain ⟨c0, c1, c2⟩ := box30 w (.int .i64 k) (.int .i64 n) (.string x)
  have B0 := Lib.hid (below_alloc w (.cells #[.int .i64 k, .int .i64 n, .string x] 30))
  have HT := Lib.hid (hT.below B0.out)
  clear hT
  by_cases hk : k < 1
  · rw [show rshowV k n x = ⟨#[]⟩ from if_pos (Or.inl hk)]
    have d := decide_eq_true hk
    go_enter Tryd.func12, Tryd.ntmps12
    go_wp2
    go_ret
    exact ⟨rfl, B0.out⟩
  by_cases hk2 : 17 < k
  · rw [show rshowV k n x = ⟨#[]⟩ from if_pos (Or.inr hk2)]
    have d := decide_eq_false hk
    have d2 := decide_eq_true hk2
    go_enter Tryd.func12, Tryd.ntmps12
    go_wp2
    go_ret
    exact ⟨rfl, B0.out⟩
  have RS : Hid (rshowV k n x = if behindV k.toNat = 0 then (if n ≠ 0 then ⟨#[]⟩ else if 0 < x.size then ⟨#[]⟩ else verbV k)
    else if behindV k.toNat = 2 then (if n ≠ 0 then ⟨#[]⟩ else if rnamedV x = false then ⟨#[]⟩ else (verbV k ++ ⟨#[32]⟩) ++ x)
    else if n < 0 then ⟨#[]⟩ else if n = 0 ∧ k ≠ 10 then ⟨#[]⟩ else if 999999999 < n then ⟨#[]⟩ else if 0 < x.size then ⟨#[]⟩ else (verbV k ++ ⟨#[32]⟩) ++ itoaB n) := Lib.hid (by unfold rshowV; rw [if_neg (by omega)])
  obtain ⟨j, rfl⟩ : ∃ j : Nat, k = j := ⟨k.toNat, by omega⟩
  have hj1 : 1 ≤ j := by omega
  have hj2 : j ≤ 17 := by omega
  have hj3 : (j : Int) < 18 := by omega
  have hj4 : j < 18 := by omega
  have dk1 := decide_eq_false hk
  have dk2 := decide_eq_false hk2
  rw [Int.toNat_natCast] at RS
  obtain ⟨b, hb⟩ : ∃ b, b = behindV j := ⟨_, rfl⟩
  obtain ⟨v, hv⟩ : ∃ v, v = verbV (j : Int) := ⟨_, rfl⟩
  have hvl : v.size ≤ 20 := by rw [hv]; exact verb_len _
  have KW : Hid (∀ W W' g h, KV W W' g h → W'.cell? ⟨g, j, none⟩ = some (.string v) ∧ W'.cell? ⟨h, j, none⟩ = some (.int .i64 b)) := Lib.hid (fun W W' g h K => ⟨by rw [K.words j hj4, hv]; unfold verbV; rw [if_neg (by omega), Int.toNat_natCast], by rw [K.rest j hj4, hb]; rfl⟩)
  have KC := Lib.hid kinds_any
  have CN := Lib.hid (fun W (h : Below (w.alloc (.cells #[.int .i64 (j : Int), .int .i64 n, .string x] 30)).heap.size (w.alloc (.cells #[.int .i64 (j : Int), .int .i64 n, .string x] 30)) W) => rnamed_any x W (by unfold maxLen; omega) (HT.out.below h))
  obtain ⟨rv, hrv⟩ : ∃ rv, rv = rshowV (j : Int) n x := ⟨_, rfl⟩
  obtain ⟨nm, hnm⟩ : ∃ nm, nm = rnamedV x := ⟨_, rfl⟩
  rw [← hrv, ← hb, ← hv, ← hnm] at RS
  rw [← hnm] at CN
  rw [← hrv]
  clear hk hk2 hb hv hrv hnm
  by_cases b0 : b = 0
  · subst b0
    have RS2 : Hid (rv = if n ≠ 0 then ⟨#[]⟩ else if 0 < x.size then ⟨#[]⟩ else v) := Lib.hid (by rw [RS.out, if_pos rfl])
    clear RS CN
    by_cases h1 : n = 0
    · by_cases h2 : 0 < x.size
      · have en := isEmpty_of x (by omega)
        have FV : Hid (rv = ⟨#[]⟩) := Lib.hid (by rw [RS2.out]; simp [h1, h2])
        subst h1
        clear h2 RS2
        go_enter Tryd.func12, Tryd.ntmps12
        go_wp2_with fail
        refine (KC.out _).mono ?_; rintro e w1 ⟨g, h, rfl, K⟩
        obtain ⟨k1, k2⟩ := KW.out _ _ _ _ K
        have B1 := Lib.hid (bt B0.out K.below)
        have B1' := Lib.hid K.below
        have j0 := (K.below.cell (p := ⟨w.heap.size, 0, none⟩) (by simp)).trans c0
        have j1 := (K.below.cell (p := ⟨w.heap.size, 1, none⟩) (by simp)).trans c1
        have j2 := (K.below.cell (p := ⟨w.heap.size, 2, none⟩) (by simp)).trans c2
        have LT : Hid (w.heap.size < w1.heap.size ∧ g < w1.heap.size) := Lib.hid ⟨Nat.lt_of_lt_of_le (by simp) K.below.size, K.gl⟩
        clear c0 c1 c2 K
        go_wp2
        go_ret
        exact ⟨by rw [FV.out]; rfl, B1.out⟩
      · have ex := size0 (show x.size = 0 by omega)
        have FV : Hid (rv = v) := Lib.hid (by rw [RS2.out]; simp [h1, h2])
        subst h1 ex
        have ev := emptyV
        clear h2 RS2
        go_enter Tryd.func12, Tryd.ntmps12
        go_wp2_with fail
        refine (KC.out _).mono ?_; rintro e w1 ⟨g, h, rfl, K⟩
        obtain ⟨k1, k2⟩ := KW.out _ _ _ _ K
        have B1 := Lib.hid (bt B0.out K.below)
        have B1' := Lib.hid K.below
        have j0 := (K.below.cell (p := ⟨w.heap.size, 0, none⟩) (by simp)).trans c0
        have j1 := (K.below.cell (p := ⟨w.heap.size, 1, none⟩) (by simp)).trans c1
        have j2 := (K.below.cell (p := ⟨w.heap.size, 2, none⟩) (by simp)).trans c2
        have LT : Hid (w.heap.size < w1.heap.size ∧ g < w1.heap.size) := Lib.hid ⟨Nat.lt_of_lt_of_le (by simp) K.below.size, K.gl⟩
        clear c0 c1 c2 K
        go_wp2
        go_ret
        exact ⟨by rw [FV.out]; rfl, B1.out⟩
    · have n1 : (n != 0) = true := by unfold bne; rw [ne_b h1]; rfl
      have FV : Hid (rv = ⟨#[]⟩) := Lib.hid (by rw [RS2.out]; simp [h1])
      clear h1 RS2
      go_enter Tryd.func12, Tryd.ntmps12
      go_wp2_with fail
      refine (KC.out _).mono ?_; rintro e w1 ⟨g, h, rfl, K⟩
      obtain ⟨k1, k2⟩ := KW.out _ _ _ _ K
      have B1 := Lib.hid (bt B0.out K.below)
      have B1' := Lib.hid K.below
      have j0 := (K.below.cell (p := ⟨w.heap.size, 0, none⟩) (by simp)).trans c0
      have j1 := (K.below.cell (p := ⟨w.heap.size, 1, none⟩) (by simp)).trans c1
      have j2 := (K.below.cell (p := ⟨w.heap.size, 2, none⟩) (by simp)).trans c2
      have LT : Hid (w.heap.size < w1.heap.size ∧ g < w1.heap.size) := Lib.hid ⟨Nat.lt_of_lt_of_le (by simp) K.below.size, K.gl⟩
      clear c0 c1 c2 K
      go_wp2
      go_ret
      exact ⟨by rw [FV.out]; rfl, B1.out⟩
  have bb0 := ne_b b0
  have ad1 := add_str (a := v) (b := ⟨#[32]⟩) (c := v ++ ⟨#[32]⟩) rfl (by omega) (by decide)
  obtain ⟨v2, hv2⟩ : ∃ v2, v2 = v ++ ⟨#[32]⟩ := ⟨_, rfl⟩
  have hv2l : v2.size ≤ 21 := by rw [hv2, ByteArray.size_append]; show v.size + 1 ≤ 21; omega
  rw [← hv2] at ad1 RS
  clear hv2
  by_cases b2 : b = 2
  · subst b2
    have RS2 : Hid (rv = if n ≠ 0 then ⟨#[]⟩ else if nm = false then ⟨#[]⟩ else v2 ++ x) := Lib.hid (by rw [RS.out, if_neg (by decide), if_pos rfl])
    clear RS
    by_cases h1 : n = 0
    · cases nm with
      | false =>
        have FV : Hid (rv = ⟨#[]⟩) := Lib.hid (by rw [RS2.out]; simp [h1])
        subst h1
        clear RS2
        go_enter Tryd.func12, Tryd.ntmps12
        go_wp2_with fail
        refine (KC.out _).mono ?_; rintro e w1 ⟨g, h, rfl, K⟩
        obtain ⟨k1, k2⟩ := KW.out _ _ _ _ K
        have B1 := Lib.hid (bt B0.out K.below)
        have B1' := Lib.hid K.below
        have j0 := (K.below.cell (p := ⟨w.heap.size, 0, none⟩) (by simp)).trans c0
        have j1 := (K.below.cell (p := ⟨w.heap.size, 1, none⟩) (by simp)).trans c1
        have j2 := (K.below.cell (p := ⟨w.heap.size, 2, none⟩) (by simp)).trans c2
        have LT : Hid (w.heap.size < w1.heap.size ∧ g < w1.heap.size) := Lib.hid ⟨Nat.lt_of_lt_of_le (by simp) K.below.size, K.gl⟩
        clear c0 c1 c2 K
        go_wp2_with fail
        refine (CN.out _ B1'.out).mono ?_; rintro e w2 ⟨rfl, hb2⟩
        have B2 := Lib.hid (bt B1.out hb2); clear hb2
        go_wp2
        go_ret
        exact ⟨by rw [FV.out]; rfl, B2.out⟩
      | true =>
        obtain ⟨v3, hv3⟩ : ∃ v3, v3 = v2 ++ x := ⟨_, rfl⟩
        have ad2 := add_str hv3.symm (by omega) (by omega)
        have FV : Hid (rv = v3) := Lib.hid (by rw [RS2.out]; rw [hv3]; simp [h1])
        subst h1
        clear RS2 hv3 hv2l hvl
        go_enter Tryd.func12, Tryd.ntmps12
        go_wp2_with fail
        refine (KC.out _).mono ?_; rintro e w1 ⟨g, h, rfl, K⟩
        obtain ⟨k1, k2⟩ := KW.out _ _ _ _ K
        have B1 := Lib.hid (bt B0.out K.below)
        have B1' := Lib.hid K.below
        have j0 := (K.below.cell (p := ⟨w.heap.size, 0, none⟩) (by simp)).trans c0
        have j1 := (K.below.cell (p := ⟨w.heap.size, 1, none⟩) (by simp)).trans c1
        have j2 := (K.below.cell (p := ⟨w.heap.size, 2, none⟩) (by simp)).trans c2
        have LT : Hid (w.heap.size < w1.heap.size ∧ g < w1.heap.size) := Lib.hid ⟨Nat.lt_of_lt_of_le (by simp) K.below.size, K.gl⟩
        clear c0 c1 c2 K
        go_wp2_with fail
        refine (CN.out _ B1'.out).mono ?_; rintro e w2 ⟨rfl, hb2⟩
        have B2 := Lib.hid (bt B1.out hb2)
        have i0 := (hb2.cell (p := ⟨w.heap.size, 0, none⟩) LT.out.1).trans j0
        have i1 := (hb2.cell (p := ⟨w.heap.size, 1, none⟩) LT.out.1).trans j1
        have i2 := (hb2.cell (p := ⟨w.heap.size, 2, none⟩) LT.out.1).trans j2
        have i3 := (hb2.cell (p := ⟨g, j, none⟩) LT.out.2).trans k1
        clear hb2 j0 j1 j2 k1 k2
        go_wp2_with fail
        go_quiet (fail)
        go_wp2_with fail
        go_ret
        exact ⟨by rw [FV.out]; rfl, by first | exact B2.out | exact bt B2.out (below_drewN _ _)⟩
    · have n1 : (n != 0) = true := by unfold bne; rw [ne_b h1]; rfl
      have FV : Hid (rv = ⟨#[]⟩) := Lib.hid (by rw [RS2.out]; simp [h1])
      clear h1 RS2
      go_enter Tryd.func12, Tryd.ntmps12
      go_wp2_with fail
      refine (KC.out _).mono ?_; rintro e w1 ⟨g, h, rfl, K⟩
      obtain ⟨k1, k2⟩ := KW.out _ _ _ _ K
      have B1 := Lib.hid (bt B0.out K.below)
      have B1' := Lib.hid K.below
      have j0 := (K.below.cell (p := ⟨w.heap.size, 0, none⟩) (by simp)).trans c0
      have j1 := (K.below.cell (p := ⟨w.heap.size, 1, none⟩) (by simp)).trans c1
      have j2 := (K.below.cell (p := ⟨w.heap.size, 2, none⟩) (by simp)).trans c2
      have LT : Hid (w.heap.size < w1.heap.size ∧ g < w1.heap.size) := Lib.hid ⟨Nat.lt_of_lt_of_le (by simp) K.below.size, K.gl⟩
      clear c0 c1 c2 K
      go_wp2
      go_ret
      exact ⟨by rw [FV.out]; rfl, B1.out⟩
  have bb2 := ne_b b2
  have RS2 : Hid (rv = if n < 0 then ⟨#[]⟩ else if n = 0 ∧ (j : Int) ≠ 10 then ⟨#[]⟩ else if 999999999 < n then ⟨#[]⟩ else if 0 < x.size then ⟨#[]⟩ else v2 ++ itoaB n) := Lib.hid (by rw [RS.out, if_neg b0, if_neg b2])
  clear RS CN b0 b2
  by_cases h1 : n < 0
  · have d1 := decide_eq_true h1
    have FV : Hid (rv = ⟨#[]⟩) := Lib.hid (by rw [RS2.out]; rw [if_pos h1])
    clear h1 RS2
    go_enter Tryd.func12, Tryd.ntmps12
    go_wp2_with fail
    refine (KC.out _).mono ?_; rintro e w1 ⟨g, h, rfl, K⟩
    obtain ⟨k1, k2⟩ := KW.out _ _ _ _ K
    have B1 := Lib.hid (bt B0.out K.below)
    have B1' := Lib.hid K.below
    have j0 := (K.below.cell (p := ⟨w.heap.size, 0, none⟩) (by simp)).trans c0
    have j1 := (K.below.cell (p := ⟨w.heap.size, 1, none⟩) (by simp)).trans c1
    have j2 := (K.below.cell (p := ⟨w.heap.size, 2, none⟩) (by simp)).trans c2
    have LT : Hid (w.heap.size < w1.heap.size ∧ g < w1.heap.size) := Lib.hid ⟨Nat.lt_of_lt_of_le (by simp) K.below.size, K.gl⟩
    clear c0 c1 c2 K
    go_wp2
    go_ret
    exact ⟨by rw [FV.out]; rfl, B1.out⟩
  have d1 := decide_eq_false h1
  by_cases h2 : n = 0 ∧ (j : Int) ≠ 10
  · have n1 : ((j : Int) != 10) = true := by unfold bne; rw [ne_b h2.2]; rfl
    have FV : Hid (rv = ⟨#[]⟩) := Lib.hid (by rw [RS2.out]; rw [if_neg h1, if_pos h2])
    obtain ⟨e0, e1⟩ := h2
    subst e0
    clear h1 RS2 e1
    go_enter Tryd.func12, Tryd.ntmps12
    go_wp2_with fail
    refine (KC.out _).mono ?_; rintro e w1 ⟨g, h, rfl, K⟩
    obtain ⟨k1, k2⟩ := KW.out _ _ _ _ K
    have B1 := Lib.hid (bt B0.out K.below)
    have B1' := Lib.hid K.below
    have j0 := (K.below.cell (p := ⟨w.heap.size, 0, none⟩) (by simp)).trans c0
    have j1 := (K.below.cell (p := ⟨w.heap.size, 1, none⟩) (by simp)).trans c1
    have j2 := (K.below.cell (p := ⟨w.heap.size, 2, none⟩) (by simp)).trans c2
    have LT : Hid (w.heap.size < w1.heap.size ∧ g < w1.heap.size) := Lib.hid ⟨Nat.lt_of_lt_of_le (by simp) K.below.size, K.gl⟩
    clear c0 c1 c2 K
    go_wp2
    go_ret
    exact ⟨by rw [FV.out]; rfl, B1.out⟩
  by_cases h3 : 999999999 < n
  · have d3 := decide_eq_true h3
    have n1 := ne_b (show n ≠ 0 by omega)
    have FV : Hid (rv = ⟨#[]⟩) := Lib.hid (by rw [RS2.out]; rw [if_neg h1, if_neg h2, if_pos h3])
    clear h1 h2 h3 RS2
    go_enter Tryd.func12, Tryd.ntmps12
    go_wp2_with fail
    refine (KC.out _).mono ?_; rintro e w1 ⟨g, h, rfl, K⟩
    obtain ⟨k1, k2⟩ := KW.out _ _ _ _ K
    have B1 := Lib.hid (bt B0.out K.below)
    have B1' := Lib.hid K.below
    have j0 := (K.below.cell (p := ⟨w.heap.size, 0, none⟩) (by simp)).trans c0
    have j1 := (K.below.cell (p := ⟨w.heap.size, 1, none⟩) (by simp)).trans c1
    have j2 := (K.below.cell (p := ⟨w.heap.size, 2, none⟩) (by simp)).trans c2
    have LT : Hid (w.heap.size < w1.heap.size ∧ g < w1.heap.size) := Lib.hid ⟨Nat.lt_of_lt_of_le (by simp) K.below.size, K.gl⟩
    clear c0 c1 c2 K
    go_wp2
    go_ret
    exact ⟨by rw [FV.out]; rfl, B1.out⟩
  have d3 := decide_eq_false h3
  obtain ⟨it, hit⟩ : ∃ it, it = itoaB n := ⟨_, rfl⟩
  have hil : it.size ≤ 21 := by rw [hit]; exact itoaB_len n (by omega) (by omega)
  have DG : Hid (∀ W, Calls Tryd.prog 24 #[.int .i64 n] W fun e w' => e = .returned (.string it) ∧ Below W.heap.size W w') := Lib.hid (fun W => by rw [hit, ← strU_itoa]; exact digits_any n W hn0 hn1)
  obtain ⟨v3, hv3⟩ : ∃ v3, v3 = v2 ++ it := ⟨_, rfl⟩
  have ad2 := add_str hv3.symm (by omega) (by omega)
  have RS3 : Hid (rv = if 0 < x.size then ⟨#[]⟩ else v3) := Lib.hid (by rw [RS2.out, if_neg h1, if_neg h2, if_neg h3, hv3, hit])
  clear RS2 hv3 hit hil hv2l hvl
  have n3 : Hid (n = 0 → (j : Int) = 10) := Lib.hid (fun h => by omega)
  clear h1 h2 h3
  by_cases h5 : n = 0
  · obtain rfl : j = 10 := by have := n3.out h5; omega
    subst h5
    clear n3
    by_cases h4 : 0 < x.size
    · have en := isEmpty_of x (by omega)
      have FV : Hid (rv = ⟨#[]⟩) := Lib.hid (by rw [RS3.out, if_pos h4])
      clear h4 RS3 DG
      go_enter Tryd.func12, Tryd.ntmps12
      go_wp2_with fail
      refine (KC.out _).mono ?_; rintro e w1 ⟨g, h, rfl, K⟩
      obtain ⟨k1, k2⟩ := KW.out _ _ _ _ K
      have B1 := Lib.hid (bt B0.out K.below)
      have B1' := Lib.hid K.below
      have j0 := (K.below.cell (p := ⟨w.heap.size, 0, none⟩) (by simp)).trans c0
      have j1 := (K.below.cell (p := ⟨w.heap.size, 1, none⟩) (by simp)).trans c1
      have j2 := (K.below.cell (p := ⟨w.heap.size, 2, none⟩) (by simp)).trans c2
      have LT : Hid (w.heap.size < w1.heap.size ∧ g < w1.heap.size) := Lib.hid ⟨Nat.lt_of_lt_of_le (by simp) K.below.size, K.gl⟩
      clear c0 c1 c2 K
      go_wp2
      go_ret
      exact ⟨by rw [FV.out]; rfl, B1.out⟩
    · have ex := size0 (show x.size = 0 by omega)
      have FV : Hid (rv = v3) := Lib.hid (by rw [RS3.out, if_neg h4])
      subst ex
      have ev := emptyV
      clear h4 RS3
      go_enter Tryd.func12, Tryd.ntmps12
      go_wp2_with fail
      refine (KC.out _).mono ?_; rintro e w1 ⟨g, h, rfl, K⟩
      obtain ⟨k1, k2⟩ := KW.out _ _ _ _ K
      have B1 := Lib.hid (bt B0.out K.below)
      have B1' := Lib.hid K.below
      have j0 := (K.below.cell (p := ⟨w.heap.size, 0, none⟩) (by simp)).trans c0
      have j1 := (K.below.cell (p := ⟨w.heap.size, 1, none⟩) (by simp)).trans c1
      have j2 := (K.below.cell (p := ⟨w.heap.size, 2, none⟩) (by simp)).trans c2
      have LT : Hid (w.heap.size < w1.heap.size ∧ g < w1.heap.size) := Lib.hid ⟨Nat.lt_of_lt_of_le (by simp) K.below.size, K.gl⟩
      clear c0 c1 c2 K
      go_wp2_with fail
      go_region_held3 (fun w' => w'.cell? ⟨w.heap.size, 0, none⟩ = some (.int .i64 (10)) ∧ w'.cell? ⟨w.heap.size, 1, none⟩ = some (.int .i64 0) ∧ w'.cell? ⟨g, 10, none⟩ = some (.string v) ∧ Below w1.heap.size w1 w') (refine ⟨?_, ?_, ?_, ?_⟩ <;> first | assumption | exact j0 | exact j1 | exact k1 | exact ⟨rfl, rfl, rfl, Nat.le_refl _, fun _ _ => rfl⟩)
        ((go_at_call 24; refine (DG.out _).mono ?_; rintro e w3 ⟨rfl, hb3⟩; have bq := bt (w := w1) (by first | assumption | exact ⟨rfl, rfl, rfl, Nat.le_refl _, fun _ _ => rfl⟩) hb3; have z0 := (bq.cell (p := ⟨w.heap.size, 0, none⟩) LT.out.1).trans j0; have z1 := (bq.cell (p := ⟨w.heap.size, 1, none⟩) LT.out.1).trans j1; have z2 := (bq.cell (p := ⟨g, 10, none⟩) LT.out.2).trans k1))
      all_goals (
        go_wp2_with fail
        go_ret
        exact ⟨by rw [FV.out]; rfl, bt B1.out bq⟩)
  · have n5 := ne_b h5
    clear h5 n3
    by_cases h4 : 0 < x.size
    · have en := isEmpty_of x (by omega)
      have FV : Hid (rv = ⟨#[]⟩) := Lib.hid (by rw [RS3.out, if_pos h4])
      clear h4 RS3 DG
      go_enter Tryd.func12, Tryd.ntmps12
      go_wp2_with fail
      refine (KC.out _).mono ?_; rintro e w1 ⟨g, h, rfl, K⟩
      obtain ⟨k1, k2⟩ := KW.out _ _ _ _ K
      have B1 := Lib.hid (bt B0.out K.below)
      have B1' := Lib.hid K.below
      have j0 := (K.below.cell (p := ⟨w.heap.size, 0, none⟩) (by simp)).trans c0
      have j1 := (K.below.cell (p := ⟨w.heap.size, 1, none⟩) (by simp)).trans c1
      have j2 := (K.below.cell (p := ⟨w.heap.size, 2, none⟩) (by simp)).trans c2
      have LT : Hid (w.heap.size < w1.heap.size ∧ g < w1.heap.size) := Lib.hid ⟨Nat.lt_of_lt_of_le (by simp) K.below.size, K.gl⟩
      clear c0 c1 c2 K
      go_wp2
      go_ret
      exact ⟨by rw [FV.out]; rfl, B1.out⟩
    · have ex := size0 (show x.size = 0 by omega)
      have FV : Hid (rv = v3) := Lib.hid (by rw [RS3.out, if_neg h4])
      subst ex
      have ev := emptyV
      clear h4 RS3
      go_enter Tryd.func12, Tryd.ntmps12
      go_wp2_with fail
      refine (KC.out _).mono ?_; rintro e w1 ⟨g, h, rfl, K⟩
      obtain ⟨k1, k2⟩ := KW.out _ _ _ _ K
      have B1 := Lib.hid (bt B0.out K.below)
      have B1' := Lib.hid K.below
      have j0 := (K.below.cell (p := ⟨w.heap.size, 0, none⟩) (by simp)).trans c0
      have j1 := (K.below.cell (p := ⟨w.heap.size, 1, none⟩) (by simp)).trans c1
      have j2 := (K.below.cell (p := ⟨w.heap.size, 2, none⟩) (by simp)).trans c2
      have LT : Hid (w.heap.size < w1.heap.size ∧ g < w1.heap.size) := Lib.hid ⟨Nat.lt_of_lt_of_le (by simp) K.below.size, K.gl⟩
      clear c0 c1 c2 K
      go_wp2_with fail
      go_region_held3 (fun w' => w'.cell? ⟨w.heap.size, 0, none⟩ = some (.int .i64 (j : Int)) ∧ w'.cell? ⟨w.heap.size, 1, none⟩ = some (.int .i64 n) ∧ w'.cell? ⟨g, j, none⟩ = some (.string v) ∧ Below w1.heap.size w1 w') (refine ⟨?_, ?_, ?_, ?_⟩ <;> first | assumption | exact j0 | exact j1 | exact k1 | exact ⟨rfl, rfl, rfl, Nat.le_refl _, fun _ _ => rfl⟩)
        ((go_at_call 24; refine (DG.out _).mono ?_; rintro e w3 ⟨rfl, hb3⟩; have bq := bt (w := w1) (by first | assumption | exact ⟨rfl, rfl, rfl, Nat.le_refl _, fun _ _ => rfl⟩) hb3; have z0 := (bq.cell (p := ⟨w.heap.size, 0, none⟩) LT.out.1).trans j0; have z1 := (bq.cell (p := ⟨w.heap.size, 1, none⟩) LT.out.1).trans j1; have z2 := (bq.cell (p := ⟨g, j, none⟩) LT.out.2).trans k1))
      all_goals (
        go_wp2_with fail
        go_ret
        exact ⟨by rw [FV.out]; rfl, bt B1.out bq⟩)
end Go.Proofs.YtebgloacobaocaaDoor
