import Derived.Test.YtcbcceghkgajjaaDoorMath
import Derived.Lib.IsU
namespace Go.Proofs.CharsMath
open Go Go.Lib
theorem enc1 (c : Nat) (h : c < 128) : Utf8.decode ⟨#[UInt8.ofNat c]⟩ 0 = (c, 1) := by
  rw [decode_at]
  have g0 : ((⟨#[UInt8.ofNat c]⟩ : ByteArray).get! 0).toNat = c := by show (UInt8.ofNat c).toNat = c; rw [UInt8.toNat_ofNat']; omega
  rw [g0]; unfold decodeN; rw [if_pos h]
theorem enc2 (c : Nat) (h : 128 ≤ c) (h2 : c < 2048) : (Utf8.decode ⟨#[UInt8.ofNat (192 + c / 64), UInt8.ofNat (128 + c % 64)]⟩ 0).1 = c := by
  rw [decode_at]
  obtain ⟨s, hs⟩ : ∃ s : ByteArray, s = ⟨#[UInt8.ofNat (192 + c / 64), UInt8.ofNat (128 + c % 64)]⟩ := ⟨_, rfl⟩
  have g0 : (s.get! 0).toNat = 192 + c / 64 := by rw [hs]; show (UInt8.ofNat _).toNat = _; rw [UInt8.toNat_ofNat']; omega
  have g1 : (s.get! 1).toNat = 128 + c % 64 := by rw [hs]; show (UInt8.ofNat _).toNat = _; rw [UInt8.toNat_ofNat']; omega
  have hz : s.size = 2 := by rw [hs]; rfl
  rw [← hs, hz, Nat.zero_add, g0, g1]; unfold decodeN
  rw [if_neg (by omega), if_pos (by omega), if_pos (by omega)]
  simp only; omega
theorem enc3 (c : Nat) (h : 2048 ≤ c) (h2 : c < 65536) (hv : c < 55296 ∨ 57344 ≤ c) : (Utf8.decode ⟨#[UInt8.ofNat (224 + c / 4096), UInt8.ofNat (128 + c / 64 % 64), UInt8.ofNat (128 + c % 64)]⟩ 0).1 = c := by
  rw [decode_at]
  obtain ⟨s, hs⟩ : ∃ s : ByteArray, s = ⟨#[UInt8.ofNat (224 + c / 4096), UInt8.ofNat (128 + c / 64 % 64), UInt8.ofNat (128 + c % 64)]⟩ := ⟨_, rfl⟩
  have g0 : (s.get! 0).toNat = 224 + c / 4096 := by rw [hs]; show (UInt8.ofNat _).toNat = _; rw [UInt8.toNat_ofNat']; omega
  have g1 : (s.get! 1).toNat = 128 + c / 64 % 64 := by rw [hs]; show (UInt8.ofNat _).toNat = _; rw [UInt8.toNat_ofNat']; omega
  have g2 : (s.get! 2).toNat = 128 + c % 64 := by rw [hs]; show (UInt8.ofNat _).toNat = _; rw [UInt8.toNat_ofNat']; omega
  have hz : s.size = 3 := by rw [hs]; rfl
  rw [← hs, hz, Nat.zero_add, Nat.zero_add, g0, g1, g2]; unfold decodeN
  rw [if_neg (by omega), if_neg (by omega), if_pos (by omega), if_pos (by omega)]
  simp only; omega
theorem enc4 (c : Nat) (h : 65536 ≤ c) (h2 : c ≤ 1114111) : (Utf8.decode ⟨#[UInt8.ofNat (240 + c / 262144), UInt8.ofNat (128 + c / 4096 % 64), UInt8.ofNat (128 + c / 64 % 64), UInt8.ofNat (128 + c % 64)]⟩ 0).1 = c := by
  rw [decode_at]
  obtain ⟨s, hs⟩ : ∃ s : ByteArray, s = ⟨#[UInt8.ofNat (240 + c / 262144), UInt8.ofNat (128 + c / 4096 % 64), UInt8.ofNat (128 + c / 64 % 64), UInt8.ofNat (128 + c % 64)]⟩ := ⟨_, rfl⟩
  have g0 : (s.get! 0).toNat = 240 + c / 262144 := by rw [hs]; show (UInt8.ofNat _).toNat = _; rw [UInt8.toNat_ofNat']; omega
  have g1 : (s.get! 1).toNat = 128 + c / 4096 % 64 := by rw [hs]; show (UInt8.ofNat _).toNat = _; rw [UInt8.toNat_ofNat']; omega
  have g2 : (s.get! 2).toNat = 128 + c / 64 % 64 := by rw [hs]; show (UInt8.ofNat _).toNat = _; rw [UInt8.toNat_ofNat']; omega
  have g3 : (s.get! 3).toNat = 128 + c % 64 := by rw [hs]; show (UInt8.ofNat _).toNat = _; rw [UInt8.toNat_ofNat']; omega
  have hz : s.size = 4 := by rw [hs]; rfl
  rw [← hs, hz, Nat.zero_add, Nat.zero_add, Nat.zero_add, g0, g1, g2, g3]; unfold decodeN
  rw [if_neg (by omega), if_neg (by omega), if_neg (by omega), if_pos (by omega), if_pos (by omega)]
  simp only; omega
def okR (r : Int) : Prop := (0 ≤ r ∧ r < 55296) ∨ (57344 ≤ r ∧ r ≤ 1114111)
theorem enc_rn (r : Int) (h : okR r) : 0 < (Utf8.encode r).size ∧ (Utf8.encode r).size ≤ 4 ∧ rn (Utf8.encode r) 0 = r.toNat := by
  have hv : Utf8.valid r = true := by
    unfold okR at h
    simp only [Utf8.valid, Bool.or_eq_true, Bool.and_eq_true, decide_eq_true_eq]; omega
  unfold okR at h
  obtain ⟨c, hc⟩ : ∃ c : Nat, c = r.toNat := ⟨_, rfl⟩
  simp only [Utf8.encode, hv, if_true]
  rw [← hc]
  unfold rn
  by_cases h1 : c < 128
  · rw [if_pos h1]; exact ⟨by show 0 < 1; omega, by show 1 ≤ 4; omega, by rw [enc1 c h1]⟩
  rw [if_neg h1]
  by_cases h2 : c < 2048
  · rw [if_pos h2]; exact ⟨by show 0 < 2; omega, by show 2 ≤ 4; omega, enc2 c (by omega) h2⟩
  rw [if_neg h2]
  by_cases h3 : c < 65536
  · rw [if_pos h3]; exact ⟨by show 0 < 3; omega, by show 3 ≤ 4; omega, enc3 c (by omega) h3 (by omega)⟩
  rw [if_neg h3]
  exact ⟨by show 0 < 4; omega, by show 4 ≤ 4; omega, enc4 c (by omega) (by omega)⟩

/-! ### the tables of ranges -/
def inR (x : Rg) (r : Nat) : Prop := x.1 ≤ r ∧ r ≤ x.2.1 ∧ x.has r = true
theorem linGo_mem (T : Array Rg) (r : Nat) : ∀ f i, linGo T r f i = true → ∃ j, j < T.size ∧ inR (T.getD j (0, 0, 0)) r := by
  intro f
  induction f with
  | zero => intro i h; cases h
  | succ f ih =>
    intro i h
    unfold linGo at h
    by_cases h1 : i < T.size
    · rw [if_pos h1] at h
      by_cases h2 : r < (T.getD i (0, 0, 0)).1
      · rw [if_pos h2] at h; cases h
      · rw [if_neg h2] at h
        by_cases h3 : r ≤ (T.getD i (0, 0, 0)).2.1
        · rw [if_pos h3] at h; exact ⟨i, h1, by omega, h3, h⟩
        · rw [if_neg h3] at h; exact ih _ h
    · rw [if_neg h1] at h; cases h
theorem binGo_mem (T : Array Rg) (r : Nat) : ∀ f lo hi, hi ≤ T.size → binGo T r f lo hi = true → ∃ j, j < T.size ∧ inR (T.getD j (0, 0, 0)) r := by
  intro f
  induction f with
  | zero => intro lo hi _ h; cases h
  | succ f ih =>
    intro lo hi hz h
    simp only [binGo] at h
    split at h
    · rename_i hlt
      split at h
      · rename_i hc
        exact ⟨(lo + hi) / 2, by omega, hc.1, hc.2, h⟩
      · split at h
        · exact ih _ _ (by omega) h
        · exact ih _ _ hz h
    · cases h
theorem is16_mem (T : Array Rg) (r : Nat) (h : is16Go T r = true) : ∃ j, j < T.size ∧ inR (T.getD j (0, 0, 0)) r := by
  unfold is16Go at h
  split at h
  · exact linGo_mem T r _ _ h
  · exact binGo_mem T r _ _ _ (Nat.le_refl _) h
theorem is32_mem (T : Array Rg) (r : Nat) (h : is32Go T r = true) : ∃ j, j < T.size ∧ inR (T.getD j (0, 0, 0)) r := by
  unfold is32Go at h
  split at h
  · exact linGo_mem T r _ _ h
  · exact binGo_mem T r _ _ _ (Nat.le_refl _) h
def chk (T : List Rg) : Bool := T.all fun x => (List.range (x.2.1 - x.1 + 1)).all fun d => !x.has (x.1 + d) || isLetterU ((x.1 + d : Nat) : Int)
theorem chk32 : chk upperT.r32.toList = true := by decide +kernel
theorem chk16 : chk upperT.r16.toList = true := by decide +kernel
theorem chk_mem {T : List Rg} (h : chk T = true) {x : Rg} (hx : x ∈ T) {r : Nat} (hr : inR x r) : isLetterU (r : Int) = true := by
  have h1 := List.all_eq_true.1 h x hx
  have h2 := List.all_eq_true.1 h1 (r - x.1) (List.mem_range.2 (by have := hr.1; have := hr.2.1; omega))
  rw [show x.1 + (r - x.1) = r from by have := hr.1; omega, hr.2.2] at h2
  simpa using h2
theorem getD_mem (T : Array Rg) (j : Nat) (h : j < T.size) : T.getD j (0, 0, 0) ∈ T.toList := by
  simp [Array.getD, h]
theorem ext_getD (T : Array Rg) (a j : Nat) (h : j < (T.extract a T.size).size) : (T.extract a T.size).getD j (0, 0, 0) ∈ T.toList := by
  have hm := getD_mem _ j h
  simp only [Array.toList_extract] at hm
  exact List.mem_of_mem_drop (List.mem_of_mem_take hm)
def last16 (T : RTab) : Nat := (T.r16.getD (T.r16.size - 1) (0, 0, 0)).2.1
theorem u32_nn (r : Int) (h : 0 ≤ r) (h2 : r ≤ 2147483647) : u32Of r = r.toNat := by unfold u32Of; rw [Int.emod_eq_of_lt h (by omega)]
theorem u32_neg (r : Int) (h : r < 0) (h2 : -2147483648 ≤ r) : 2147483648 ≤ u32Of r := by unfold u32Of; omega
/-- what isExcludingLatin finds stands in a range. -/
theorem excl_mem (T : RTab) (r : Int) (hlo : -2147483648 ≤ r) (hhi : r ≤ 2147483647) (hl : last16 T < 65536) (h : exclGo T r = true) :
    0 ≤ r ∧ ∃ x, inR x r.toNat ∧ ((x ∈ T.r16.toList) ∨ (x ∈ T.r32.toList)) := by
  unfold exclGo at h
  by_cases h1 : T.off < T.r16.size ∧ u32Of r ≤ (T.r16.getD (T.r16.size - 1) (0, 0, 0)).2.1
  · rw [if_pos h1] at h
    have hle : u32Of r ≤ last16 T := h1.2
    have hr : 0 ≤ r := by
      by_cases hh : 0 ≤ r
      · exact hh
      · have := u32_neg r (by omega) hlo; omega
    rw [Nat.mod_eq_of_lt (by omega), u32_nn r hr hhi] at h
    obtain ⟨j, hj, hin⟩ := is16_mem _ _ h
    exact ⟨hr, _, hin, .inl (ext_getD _ _ _ hj)⟩
  · rw [if_neg h1] at h
    by_cases h2 : 0 < T.r32.size ∧ ((T.r32.getD 0 (0, 0, 0)).1 : Int) ≤ r
    · rw [if_pos h2] at h
      have hr : 0 ≤ r := by have := h2.2; omega
      rw [u32_nn r hr hhi] at h
      obtain ⟨j, hj, hin⟩ := is32_mem _ _ h
      exact ⟨hr, _, hin, .inr (getD_mem _ _ hj)⟩
    · rw [if_neg h2] at h; cases h
theorem upper_last : last16 upperT < 65536 := by decide +kernel
theorem letter_last : last16 letterT < 65536 := by decide +kernel
/-- an upper-case letter is a letter. -/
theorem upper_letter (r : Int) (hlo : -2147483648 ≤ r) (hhi : r ≤ 2147483647) (h : isUpperU r = true) : isLetterU r = true := by
  unfold isUpperU at h
  by_cases hl : latin1 r = true
  · rw [if_pos hl] at h
    unfold isLetterU; rw [if_pos hl]
    unfold isLetterL; rw [h]; rfl
  · rw [if_neg hl] at h
    obtain ⟨hr, x, hin, hx⟩ := excl_mem upperT r hlo hhi upper_last h
    rw [show r = (r.toNat : Int) from by omega]
    rcases hx with hx | hx
    · exact chk_mem chk16 hx hin
    · exact chk_mem chk32 hx hin
theorem sur16 : letterT.r16.toList.all (fun x => decide (x.2.1 < 55296) || decide (57343 < x.1)) = true := by decide +kernel
theorem sur32 : letterT.r32.toList.all (fun x => decide (57343 < x.1) && decide (x.2.1 ≤ 1114111)) = true := by decide +kernel
theorem top16 : letterT.r16.toList.all (fun x => decide (x.2.1 ≤ 1114111)) = true := by decide +kernel
/-- what is no rune is no letter. -/
theorem letter_ok (r : Int) (hlo : -2147483648 ≤ r) (hhi : r ≤ 2147483647) (h : isLetterU r = true) : okR r := by
  unfold isLetterU at h
  by_cases hl : latin1 r = true
  · have := of_decide_eq_true hl; unfold okR; omega
  · rw [if_neg hl] at h
    obtain ⟨hr, x, hin, hx⟩ := excl_mem letterT r hlo hhi letter_last h
    have h1 := hin.1; have h2 := hin.2.1
    unfold okR
    rcases hx with hx | hx
    · have a := List.all_eq_true.1 sur16 x hx
      have b := List.all_eq_true.1 top16 x hx
      simp only [Bool.or_eq_true, decide_eq_true_eq] at a b; omega
    · have a := List.all_eq_true.1 sur32 x hx
      simp only [Bool.and_eq_true, decide_eq_true_eq] at a; omega
theorem upper_not : ([95, 39, 32, 9, 10, 13, 40, 41, 44, 59, 61, 60, 62, 43, 45, 42, 124, 33, 58, 48, 49, 50, 51, 52, 53, 54, 55, 56, 57] : List Int).all (fun r => !isUpperU r) = true := by decide +kernel
end Go.Proofs.CharsMath
