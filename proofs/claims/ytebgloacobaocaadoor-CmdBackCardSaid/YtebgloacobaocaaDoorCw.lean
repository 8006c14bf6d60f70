import Derived.Test.YtebgloacobaocaaDoorKnown
import Derived.Test.YtebgloacobaocaaDoorWm
namespace Go.Proofs.YtebgloacobaocaaDoor
open Go.ChangeShapes Go.WideShapes Go.ChangeAt Go.RowKit Go.Shelf Go.Lib CharsMath
set_option linter.unusedVariables false
def gapB : Nat → ByteArray
  | 0 => ⟨#[32]⟩
  | i + 1 => gapB i ++ ⟨#[9]⟩
theorem gapB_len (i : Nat) : (gapB i).size = i + 1 := by
  induction i with
  | zero => rfl
  | succ i ih => rw [gapB, ByteArray.size_append, ih]; rfl
theorem w_empty : wordsV ⟨#[]⟩ = [] := rfl
theorem ba_nil (x : ByteArray) : x ++ (⟨#[]⟩ : ByteArray) = x := ByteArray.append_empty
theorem nil_ba (x : ByteArray) : (⟨#[]⟩ : ByteArray) ++ x = x := ByteArray.empty_append
theorem class_sp : classV ((32 : UInt8).toNat : Int) = 3 := by decide +kernel
theorem class_tab : classV ((9 : UInt8).toNat : Int) = 3 := by decide +kernel
theorem class_lf : classV ((10 : UInt8).toNat : Int) = 3 := by decide +kernel
theorem words_gap (i : Nat) : ∀ x y : ByteArray, wordsV (x ++ gapB i ++ y) = wordsV x ++ wordsV y := by
  induction i with
  | zero => intro x y; exact words_join x y 32 (by decide) class_sp
  | succ i ih =>
    intro x y
    have e : x ++ gapB (i + 1) ++ y = (x ++ gapB i) ++ ⟨#[9]⟩ ++ y := by rw [gapB, ← ByteArray.append_assoc]
    rw [e, words_join (x ++ gapB i) y 9 (by decide) class_tab]
    have := ih x ⟨#[]⟩
    rw [ba_nil, w_empty, List.append_nil] at this
    rw [this]
theorem words_both (a b : ByteArray) (n : Nat) : parseV ((((gapB n ++ a) ++ gapB n) ++ b) ++ gapB n) = parseV ((a ++ ⟨#[32]⟩) ++ b) := by
  unfold parseV
  have e1 : wordsV ((a ++ ⟨#[32]⟩) ++ b) = wordsV a ++ wordsV b := words_join a b 32 (by decide) class_sp
  have e2 : wordsV ((((gapB n ++ a) ++ gapB n) ++ b) ++ gapB n) = wordsV (((gapB n ++ a) ++ gapB n) ++ b) := by
    have := words_gap n (((gapB n ++ a) ++ gapB n) ++ b) ⟨#[]⟩
    rwa [ba_nil, w_empty, List.append_nil] at this
  have e3 := words_gap n (gapB n ++ a) b
  have e4 := words_gap n ⟨#[]⟩ a
  rw [nil_ba, w_empty, List.nil_append] at e4
  rw [e1, e2, e3, e4]
set_option maxRecDepth 100000 in
set_option maxHeartbeats 4000000 in
theorem cw_walk (a b : ByteArray) (n : Int) (w : World) (hT : Tabs w) : Calls Tryd.prog 6 #[.string a, .string b, .int .i64 n] w fun e w' => e = .returned (.bool true) ∧ Below w.heap.size w w' := by
  have HT := Lib.hid hT
  have AW := Lib.hid (awake_any w hT)
  clear hT
  by_cases h1 : (60 : Int) < (a.size : Int)
  · have d1 := decide_eq_true h1
    have d1' := decide_eq_true (show 60 < a.size by omega)
    go_enter Tryd.func6, Tryd.ntmps6
    go_wp2_with fail
    refine AW.out.mono ?_; rintro e w1 ⟨rfl, hb1⟩
    have HB := Lib.hid hb1; clear hb1
    go_wp2
    go_ret
    exact ⟨rfl, HB.out⟩
  have d1 := decide_eq_false h1
  have d1' := decide_eq_false (show ¬ 60 < a.size by omega)
  by_cases h2 : (60 : Int) < (b.size : Int)
  · have d2 := decide_eq_true h2
    have d2' := decide_eq_true (show 60 < b.size by omega)
    clear h1
    go_enter Tryd.func6, Tryd.ntmps6
    go_wp2_with fail
    refine AW.out.mono ?_; rintro e w1 ⟨rfl, hb1⟩
    have HB := Lib.hid hb1; clear hb1
    go_wp2
    go_ret
    exact ⟨rfl, HB.out⟩
  have d2 := decide_eq_false h2
  have d2' := decide_eq_false (show ¬ 60 < b.size by omega)
  by_cases h3 : n < 0
  · have d3 := decide_eq_true h3
    clear h1 h2
    go_enter Tryd.func6, Tryd.ntmps6
    go_wp2_with fail
    refine AW.out.mono ?_; rintro e w1 ⟨rfl, hb1⟩
    have HB := Lib.hid hb1; clear hb1
    go_wp2
    go_ret
    exact ⟨rfl, HB.out⟩
  have d3 := decide_eq_false h3
  by_cases h4 : 10 < n
  · have d4 := decide_eq_true h4
    clear h1 h2 h3
    go_enter Tryd.func6, Tryd.ntmps6
    go_wp2_with fail
    refine AW.out.mono ?_; rintro e w1 ⟨rfl, hb1⟩
    have HB := Lib.hid hb1; clear hb1
    go_wp2
    go_ret
    exact ⟨rfl, HB.out⟩
  have d4 := decide_eq_false h4
  obtain ⟨m, rfl⟩ : ∃ m : Nat, n = m := ⟨n.toNat, by omega⟩
  have hm : m ≤ 10 := by omega
  have ha : a.size ≤ 60 := by omega
  have hb : b.size ≤ 60 := by omega
  have d4' := decide_eq_false (show ¬ 10 < m by omega)
  clear h1 h2 h3 h4
  go_enter Tryd.func6, Tryd.ntmps6
  go_wp2_with fail
  refine AW.out.mono ?_; rintro e w1 ⟨rfl, hb1⟩
  have HB := Lib.hid hb1; clear hb1 AW
  clear d1 d1' d2 d2' d3 d4 d4'
  go_wp2
  go_loop [7, 8] (fun gv ix => ∃ i : Nat, gv = .string (gapB i) ∧ ix = .int .i64 i ∧ i ≤ m) (fun _ ix => m - (intOf ix).toNat)
  case atStart => exact ⟨0, rfl, rfl, by omega⟩
  case round =>
    obtain ⟨i, rfl, rfl, hi⟩ := hrel
    by_cases him : i < m
    · have him' : (i : Int) < (m : Int) := by omega
      have ad := add_str (a := gapB i) (b := ⟨#[9]⟩) (c := gapB (i + 1)) rfl (by rw [gapB_len]; omega) (by decide)
      go_wp2
      go_round
      case rel => exact ⟨i + 1, rfl, by go_num, him⟩
      case measure => simp [intOf]; omega
    · obtain rfl : i = m := by omega
      have him' : ¬ (i : Int) < (i : Int) := by omega
      have PE := Lib.hid (words_both a b i)
      obtain ⟨g, hg⟩ : ∃ g, g = gapB i := ⟨_, rfl⟩
      have gl : g.size ≤ 11 := by rw [hg, gapB_len]; omega
      rw [← hg] at PE
      obtain ⟨t1, ht1⟩ : ∃ t, t = a ++ (⟨#[32]⟩ : ByteArray) := ⟨_, rfl⟩
      obtain ⟨t2, ht2⟩ : ∃ t, t = t1 ++ b := ⟨_, rfl⟩
      obtain ⟨u1, hu1⟩ : ∃ t, t = g ++ a := ⟨_, rfl⟩
      obtain ⟨u2, hu2⟩ : ∃ t, t = u1 ++ g := ⟨_, rfl⟩
      obtain ⟨u3, hu3⟩ : ∃ t, t = u2 ++ b := ⟨_, rfl⟩
      obtain ⟨u4, hu4⟩ : ∃ t, t = u3 ++ g := ⟨_, rfl⟩
      have l1 : t1.size ≤ 61 := by rw [ht1, ByteArray.size_append]; show a.size + 1 ≤ 61; omega
      have l2 : t2.size ≤ 200 := by rw [ht2, ByteArray.size_append]; omega
      have m1 : u1.size ≤ 100 := by rw [hu1, ByteArray.size_append]; omega
      have m2 : u2.size ≤ 120 := by rw [hu2, ByteArray.size_append]; omega
      have m3 : u3.size ≤ 200 := by rw [hu3, ByteArray.size_append]; omega
      have m4 : u4.size ≤ 300 := by rw [hu4, ByteArray.size_append]; omega
      have a1 := add_str ht1.symm (by omega) (by decide)
      have a2 := add_str ht2.symm (by omega) (by omega)
      have b1 := add_str hu1.symm (by omega) (by omega)
      have b2 := add_str hu2.symm (by omega) (by omega)
      have b3 := add_str hu3.symm (by omega) (by omega)
      have b4 := add_str hu4.symm (by omega) (by omega)
      rw [← ht1, ← ht2, ← hu1, ← hu2, ← hu3, ← hu4] at PE
      have T1 := Lib.hid (HT.out.below HB.out)
      obtain ⟨r, hr⟩ : ∃ r, parseV t2 = r := ⟨_, rfl⟩
      have PA := Lib.hid (fun W (hT : Tabs W) => parse_of hr (by omega) W hT)
      have PB2 := Lib.hid (fun W (hT : Tabs W) => parse_of (PE.out.trans hr) (by omega) W hT)
      rw [← hg]
      clear hg ht1 ht2 hu1 hu2 hu3 hu4 l1 l2 m1 m2 m3 m4 gl hr PE him hi
      cases r with
      | none =>
        go_wp2_with fail
        refine (PA.out _ T1.out).mono ?_; rintro e w2 ⟨rfl, hb2⟩
        have B2 := Lib.hid (bt HB.out hb2)
        clear hb2
        simp only [ansV]
        obtain ⟨c0, c1, c2⟩ := box3 w2 (.int .i64 0) (.int .i64 0) (.string ⟨#[]⟩)
        have B3 := Lib.hid (bt B2.out (below_alloc w2 (.cells #[.int .i64 0, .int .i64 0, .string ⟨#[]⟩] 24)))
        have T3 := Lib.hid (HT.out.below B3.out)
        go_wp2_with fail
        refine (PB2.out _ T3.out).mono ?_; rintro e w4 ⟨rfl, hb4⟩
        have B4 := Lib.hid (bt B3.out hb4)
        have e0 := (bt hb4 (below_alloc w4 (.cells #[.int .i64 0, .int .i64 0, .string ⟨#[]⟩] 24)))
        have k0 := (e0.cell (p := ⟨w2.heap.size, 0, none⟩) (by simp)).trans c0
        have k1 := (e0.cell (p := ⟨w2.heap.size, 1, none⟩) (by simp)).trans c1
        have k2 := (e0.cell (p := ⟨w2.heap.size, 2, none⟩) (by simp)).trans c2
        obtain ⟨q0, q1, q2⟩ := box3 w4 (.int .i64 0) (.int .i64 0) (.string ⟨#[]⟩)
        have B5 := Lib.hid (bt B4.out (below_alloc w4 (.cells #[.int .i64 0, .int .i64 0, .string ⟨#[]⟩] 24)))
        clear hb4 e0 c0 c1 c2
        simp only [ansV]
        go_wp2_with fail
        go_ret
        exact ⟨rfl, B5.out⟩
      | some y =>
        obtain ⟨k, n, x⟩ := y
        go_wp2_with fail
        refine (PA.out _ T1.out).mono ?_; rintro e w2 ⟨rfl, hb2⟩
        have B2 := Lib.hid (bt HB.out hb2)
        clear hb2
        simp only [ansV]
        obtain ⟨c0, c1, c2⟩ := box3 w2 (.int .i64 k) (.int .i64 n) (.string x)
        have B3 := Lib.hid (bt B2.out (below_alloc w2 (.cells #[.int .i64 k, .int .i64 n, .string x] 24)))
        have T3 := Lib.hid (HT.out.below B3.out)
        go_wp2_with fail
        refine (PB2.out _ T3.out).mono ?_; rintro e w4 ⟨rfl, hb4⟩
        have B4 := Lib.hid (bt B3.out hb4)
        have e0 := (bt hb4 (below_alloc w4 (.cells #[.int .i64 k, .int .i64 n, .string x] 24)))
        have k0 := (e0.cell (p := ⟨w2.heap.size, 0, none⟩) (by simp)).trans c0
        have k1 := (e0.cell (p := ⟨w2.heap.size, 1, none⟩) (by simp)).trans c1
        have k2 := (e0.cell (p := ⟨w2.heap.size, 2, none⟩) (by simp)).trans c2
        obtain ⟨q0, q1, q2⟩ := box3 w4 (.int .i64 k) (.int .i64 n) (.string x)
        have B5 := Lib.hid (bt B4.out (below_alloc w4 (.cells #[.int .i64 k, .int .i64 n, .string x] 24)))
        clear hb4 e0 c0 c1 c2
        simp only [ansV]
        go_wp2_with fail
        go_ret
        exact ⟨rfl, B5.out⟩
end Go.Proofs.YtebgloacobaocaaDoor
