import Derived.Test.YtcbcceghkgajjaaDoorUpper
import Derived.Test.YtcbcceghkgajjaaDoorRunes
import Derived.Test.YtcbcceghkgajjaaDoorTabs
namespace Go.Proofs.YtcbcceghkgajjaaDoor
open Go.ChangeShapes Go.WideShapes Go.ChangeAt Go.RowKit Go.Shelf Go.Lib CharsMath
theorem wf_i32_lo {a : Int} (h : (Lit.int .i32 a).wf = true) : -2147483648 ≤ a := by
  simp [Lit.wf, IntKind.min, IntKind.max, IntKind.signed, IntKind.bits] at h; omega
theorem wf_i32_hi {a : Int} (h : (Lit.int .i32 a).wf = true) : a ≤ 2147483647 := by
  simp [Lit.wf, IntKind.min, IntKind.max, IntKind.signed, IntKind.bits] at h; omega
def lettA : ByteArray := { data := #[97] }
theorem up_enc (r : Int) (h : okR r) : upperV (Utf8.encode r) = isUpperU r ∧ upperV (Utf8.encode r ++ lettA) = isUpperU r := by
  obtain ⟨h1, h2, h3⟩ := enc_rn r h
  have hr : ((rn (Utf8.encode r) 0 : Nat) : Int) = r := by rw [h3]; unfold okR at h; omega
  refine ⟨by unfold upperV; rw [if_pos h1, hr], ?_⟩
  have hz : (Utf8.encode r ++ lettA).size = (Utf8.encode r).size + 1 := by rw [size_add]; rfl
  have hd := decode_head (Utf8.encode r ++ lettA) (Utf8.encode r) 0 0 ⟨by omega, fun j hj => by rw [Nat.zero_add]; exact get_add_left _ _ j hj⟩ h1 (by
    have := get_add_right (Utf8.encode r) lettA 0 (by show 0 < 1; omega)
    rw [Nat.add_zero] at this
    rw [Nat.zero_add, this]; decide)
  unfold upperV; rw [if_pos (by omega)]
  rw [show rn (Utf8.encode r ++ lettA) 0 = rn (Utf8.encode r) 0 from by unfold rn; rw [show (0 : Nat) + 0 = 0 from rfl] at hd; rw [hd], hr]
theorem class_bad (r : Int) (hlo : -2147483648 ≤ r) (hhi : r ≤ 2147483647) (h : ¬ okR r) : classV r = 0 := by
  have hl : isLetterU r = false := by
    cases hh : isLetterU r with
    | false => rfl
    | true => exact absurd (letter_ok r hlo hhi hh) h
  unfold okR at h
  unfold classV
  rw [if_neg (by simp only [wordL, List.mem_cons, List.mem_nil_iff, or_false]; omega), if_neg (by simp only [spaceL, List.mem_cons, List.mem_nil_iff, or_false]; omega), if_neg (by simp only [markL, List.mem_cons, List.mem_nil_iff, or_false]; omega), if_neg (by omega), hl]; rfl
theorem class_up (r : Int) (hlo : -2147483648 ≤ r) (hhi : r ≤ 2147483647) (h : isUpperU r = true) : classV r = 1 := by
  have hl := upper_letter r hlo hhi h
  have hn : ∀ k, k ∈ ([95, 39, 32, 9, 10, 13, 40, 41, 44, 59, 61, 60, 62, 43, 45, 42, 124, 33, 58, 48, 49, 50, 51, 52, 53, 54, 55, 56, 57] : List Int) → r ≠ k := fun k hk e => by
    have := List.all_eq_true.1 upper_not k hk
    rw [← e, h] at this; cases this
  simp only [List.mem_cons, List.mem_nil_iff, or_false] at hn
  unfold classV
  rw [if_neg (by simp only [wordL, List.mem_cons, List.mem_nil_iff, or_false]; intro h; exact hn r (by omega) rfl), if_neg (by simp only [spaceL, List.mem_cons, List.mem_nil_iff, or_false]; intro h; exact hn r (by omega) rfl), if_neg (by simp only [markL, List.mem_cons, List.mem_nil_iff, or_false]; intro h; exact hn r (by omega) rfl), if_neg (by intro h; exact hn r (by omega) rfl), hl]; rfl
theorem class_cases (r : Int) : classV r = 0 ∨ classV r = 1 ∨ (classV r = 2 ∧ 48 ≤ r ∧ r ≤ 57) ∨ classV r = 3 ∨ classV r = 4 := by
  unfold classV
  split
  · exact .inr (.inl rfl)
  · split
    · exact .inr (.inr (.inr (.inl rfl)))
    · split
      · exact .inr (.inr (.inr (.inr rfl)))
      · split
        · rename_i h; exact .inr (.inr (.inl ⟨rfl, h.1, h.2⟩))
        · split
          · exact .inr (.inl rfl)
          · exact .inl rfl
set_option maxHeartbeats 4000000 in
theorem class_walk (r : Int) (w : World) (hlo : -2147483648 ≤ r) (hhi : r ≤ 2147483647) (hT : Tabs w) :
    Calls Tryd.prog 8 #[.int .i32 r] w fun e w' => e = .returned (.bool true) ∧ Below w.heap.size w w' := by
  have hp := hT.hp
  have HT := Lib.hid hT; clear hT
  obtain ⟨h0, hc⟩ := hp
  have HC := Lib.hid hc; clear hc
  by_cases hok : okR r
  · have HU := Lib.hid (up_enc r hok)
    have hez := (enc_rn r hok).2.1
    have HEZ : Hid ((Utf8.encode r).size ≤ 4) := Lib.hid hez
    clear hez
    have hsum : (Utf8.encode r).size + 1 ≤ 9223372036854775807 := by have := HEZ.out; omega
    have rng : (0 ≤ r ∧ r < 55296) ∨ (57344 ≤ r ∧ r ≤ 1114111) := hok
    clear hok
    have cs : (isUpperU r = true ∧ classV r = 1) ∨ (isUpperU r = false ∧ (classV r = 0 ∨ classV r = 1 ∨ (classV r = 2 ∧ 48 ≤ r ∧ r ≤ 57) ∨ classV r = 3 ∨ classV r = 4)) := by
      cases hu : isUpperU r with
      | true => exact .inl ⟨rfl, class_up r hlo hhi hu⟩
      | false => exact .inr ⟨rfl, class_cases r⟩
    rcases rng with ⟨r1, r2⟩ | ⟨r1, r2⟩
    all_goals
      rcases cs with ⟨hu, hcv⟩ | ⟨hu, hcv | hcv | ⟨hcv, d1, d2⟩ | hcv | hcv⟩
      all_goals first | (exfalso; omega) | skip
      all_goals
        have U := Lib.hid hu; clear hu
        have V := Lib.hid hcv; clear hcv
        go_enter Tryd.func8, Tryd.ntmps8
        go_wp2_with fail
        refine (awake _ h0 HC.out).mono ?_; rintro e w1 ⟨rfl, hb1⟩
        have HT1 := Lib.hid (HT.out.below hb1)
        go_wp2_with fail
        refine (class_any r _ hlo hhi HT1.out).mono ?_; rintro e w2 ⟨rfl, hb2⟩
        rw [V.out]
        have HT2 := Lib.hid (HT1.out.below hb2)
        go_wp2_with fail
        refine (upper_any _ _ HT2.out).mono ?_; rintro e w3 ⟨rfl, hb3⟩
        rw [HU.out.1, U.out]
        have HT3 := Lib.hid (HT2.out.below hb3)
        go_wp2_with fail
        refine (upper_any _ _ HT3.out).mono ?_; rintro e w4 ⟨rfl, hb4⟩
        rw [show upperV (Utf8.encode r ++ { data := #[97] }) = _ from HU.out.2, U.out]
        have HT4 := Lib.hid (HT3.out.below hb4)
        go_wp2_with fail
        refine (upper_any _ _ HT4.out).mono ?_; rintro e w5 ⟨rfl, hb5⟩
        rw [HU.out.1, U.out]
        have HT5 := Lib.hid (HT4.out.below hb5)
        go_wp2_with fail
        refine (rclass_any r _ hlo hhi HT5.out).mono ?_; rintro e w6 ⟨rfl, hb6⟩
        rw [V.out]
        go_wp2
        go_ret
        exact ⟨rfl, hb1.trans ((hb2.trans ((hb3.trans ((hb4.trans ((hb5.trans (hb6.mono hb5.size)).mono hb4.size)).mono hb3.size)).mono hb2.size)).mono hb1.size)⟩
  · have V := Lib.hid (class_bad r hlo hhi hok)
    have hb : r < 0 ∨ 1114111 < r ∨ (55296 ≤ r ∧ r < 57344) := by unfold okR at hok; omega
    clear hok
    rcases hb with hb | hb | ⟨hb, hb'⟩
    all_goals
      go_enter Tryd.func8, Tryd.ntmps8
      go_wp2_with fail
      refine (awake _ h0 HC.out).mono ?_; rintro e w1 ⟨rfl, hb1⟩
      have HT1 := Lib.hid (HT.out.below hb1)
      go_wp2_with fail
      refine (class_any r _ hlo hhi HT1.out).mono ?_; rintro e w2 ⟨rfl, hb2⟩
      rw [V.out]
      go_wp2
      go_ret
      exact ⟨rfl, hb1.trans (hb2.mono hb1.size)⟩
end Go.Proofs.YtcbcceghkgajjaaDoor
