import Derived.Test.YtcbcceghkgajjaaDoorMath
namespace Go.Proofs.CharsMath
open Go Go.Lib

def isNl (s : ByteArray) (i : Nat) : Bool := (s.get! i).toNat == 10
/-- the first line feed from i on, or the end. -/
def nlF (s : ByteArray) : Nat → Nat → Nat
  | 0, i => i
  | f + 1, i => if i < s.size ∧ isNl s i = false then nlF s f (i + 1) else i
def nl (s : ByteArray) (i : Nat) : Nat := nlF s (s.size - i) i
theorem nl_end (s : ByteArray) (i : Nat) (h : s.size ≤ i) : nl s i = i := by
  unfold nl; rw [show s.size - i = 0 from by omega]; rfl
theorem nl_stop (s : ByteArray) (i : Nat) (h : i < s.size) (hn : isNl s i = true) : nl s i = i := by
  unfold nl; rw [show s.size - i = (s.size - i - 1) + 1 from by omega]; simp [nlF, hn]
theorem nl_step (s : ByteArray) (i : Nat) (h : i < s.size) (hn : isNl s i = false) : nl s i = nl s (i + 1) := by
  unfold nl; rw [show s.size - i = (s.size - (i + 1)) + 1 from by omega]; simp only [nlF]; rw [if_pos ⟨h, hn⟩]
theorem nl_facts (s : ByteArray) : ∀ k i, i + k = s.size → i ≤ nl s i ∧ nl s i ≤ s.size ∧ (nl s i < s.size → isNl s (nl s i) = true) ∧ ∀ j, i ≤ j → j < nl s i → isNl s j = false := by
  intro k
  induction k with
  | zero => intro i h; rw [nl_end s i (by omega)]; exact ⟨by omega, by omega, by omega, by omega⟩
  | succ k ih =>
    intro i h
    cases hn : isNl s i with
    | true => rw [nl_stop s i (by omega) hn]; exact ⟨by omega, by omega, fun _ => hn, by omega⟩
    | false =>
      rw [nl_step s i (by omega) hn]
      obtain ⟨a, b, c, d⟩ := ih (i + 1) (by omega)
      refine ⟨by omega, b, c, fun j h1 h2 => ?_⟩
      by_cases hj : j = i
      · subst hj; exact hn
      · exact d j (by omega) h2
theorem nl_ge (s : ByteArray) (i : Nat) (h : i ≤ s.size) : i ≤ nl s i := (nl_facts s (s.size - i) i (by omega)).1
theorem nl_le (s : ByteArray) (i : Nat) (h : i ≤ s.size) : nl s i ≤ s.size := (nl_facts s (s.size - i) i (by omega)).2.1
theorem nl_ten (s : ByteArray) (i : Nat) (h : i ≤ s.size) (hl : nl s i < s.size) : isNl s (nl s i) = true := (nl_facts s (s.size - i) i (by omega)).2.2.1 hl
theorem nl_none (s : ByteArray) (i j : Nat) (h : i ≤ s.size) (h1 : i ≤ j) (h2 : j < nl s i) : isNl s j = false := (nl_facts s (s.size - i) i (by omega)).2.2.2 j h1 h2
/-- nothing but other bytes between i and j. -/
theorem nl_skip (s : ByteArray) : ∀ k i, i + k ≤ s.size → (∀ m, i ≤ m → m < i + k → isNl s m = false) → nl s i = nl s (i + k) := by
  intro k
  induction k with
  | zero => intros; rfl
  | succ k ih =>
    intro i h hn
    rw [nl_step s i (by omega) (hn i (by omega) (by omega)), ih (i + 1) (by omega) (fun m h1 h2 => hn m (by omega) (by omega))]
    congr 1; omega
theorem isNl_rn (s : ByteArray) (i : Nat) (h : i < s.size) : isNl s i = true ↔ rn s i = 10 := by
  unfold isNl; rw [beq_iff_eq]; exact (rn_ten s i h).symm
/-- a rune that is no line feed is passed over. -/
theorem nl_rune (s : ByteArray) (i : Nat) (h : i < s.size) (hr : ¬ rn s i = 10) : nl s i = nl s (i + wd s i) := by
  refine nl_skip s (wd s i) i (wd_le s i h) (fun m h1 h2 => ?_)
  by_cases hm : m = i
  · subst hm
    cases hc : isNl s m with
    | false => rfl
    | true => exact absurd ((isNl_rn s m h).1 hc) hr
  · have := inner s i m h (by omega) h2
    unfold isNl; rw [beq_eq_false_iff_ne]; omega

/-- where line k + 1 begins. -/
def LS (s : ByteArray) : Nat → Option Nat
  | 0 => some 0
  | k + 1 => match LS s k with
    | some a => if nl s a < s.size then some (nl s a + 1) else none
    | none => none
theorem LS_le (s : ByteArray) : ∀ k a, LS s k = some a → a ≤ s.size := by
  intro k
  induction k with
  | zero => intro a h; simp [LS] at h; omega
  | succ k ih =>
    intro a h
    simp only [LS] at h
    cases hk : LS s k with
    | none => rw [hk] at h; cases h
    | some b =>
      rw [hk] at h; simp only at h
      split at h
      · cases h; omega
      · cases h
theorem LS_none (s : ByteArray) (k : Nat) (h : LS s k = none) : ∀ m, k ≤ m → LS s m = none := by
  intro m hm
  obtain ⟨d, rfl⟩ := Nat.exists_eq_add_of_le hm
  induction d with
  | zero => exact h
  | succ d ih => have := ih (by omega); show LS s (k + d + 1) = none; simp only [LS, this]
theorem LS_next (s : ByteArray) (k a : Nat) (h : LS s k = some a) (hl : nl s a < s.size) : LS s (k + 1) = some (nl s a + 1) := by
  simp only [LS, h, if_pos hl]
theorem LS_last (s : ByteArray) (k a : Nat) (h : LS s k = some a) (hl : ¬ nl s a < s.size) : LS s (k + 1) = none := by
  simp only [LS, h, if_neg hl]
theorem LS_mono (s : ByteArray) (k a : Nat) (h : LS s k = some a) : ∀ d b, LS s (k + d + 1) = some b → nl s a + 1 ≤ b := by
  intro d
  induction d with
  | zero =>
    intro b hb
    by_cases hl : nl s a < s.size
    · have := LS_next s k a h hl; rw [show k + 0 + 1 = k + 1 from rfl] at hb; rw [this] at hb; cases hb; omega
    · have := LS_last s k a h hl; rw [show k + 0 + 1 = k + 1 from rfl] at hb; rw [this] at hb; cases hb
  | succ d ih =>
    intro b hb
    cases hc : LS s (k + d + 1) with
    | none => have := LS_none s _ hc (k + (d + 1) + 1) (by omega); rw [this] at hb; cases hb
    | some c =>
      have h1 := ih c hc
      by_cases hl : nl s c < s.size
      · have := LS_next s _ c hc hl; rw [show k + (d + 1) + 1 = k + d + 1 + 1 from by omega] at hb; rw [this] at hb; cases hb
        have := nl_ge s c (LS_le s _ _ hc); omega
      · have := LS_last s _ c hc hl; rw [show k + (d + 1) + 1 = k + d + 1 + 1 from by omega] at hb; rw [this] at hb; cases hb
/-- the line of a place is one alone. -/
theorem LS_one (s : ByteArray) (k m a b x : Nat) (h : LS s k = some a) (h' : LS s m = some b) (h1 : a ≤ x) (h2 : x ≤ nl s a) (h3 : b ≤ x) (h4 : x ≤ nl s b) : k = m ∧ a = b := by
  rcases Nat.lt_trichotomy k m with hlt | rfl | hlt
  · obtain ⟨d, rfl⟩ : ∃ d, m = k + d + 1 := ⟨m - k - 1, by omega⟩
    have := LS_mono s k a h d b h'; omega
  · rw [h] at h'; cases h'; exact ⟨rfl, rfl⟩
  · obtain ⟨d, rfl⟩ : ∃ d, k = m + d + 1 := ⟨k - m - 1, by omega⟩
    have := LS_mono s m b h' d a h; omega
theorem LS_count (s : ByteArray) : ∀ k a, LS s k = some a → k ≤ a := by
  intro k
  induction k with
  | zero => intros; omega
  | succ k ih =>
    intro a h
    cases hk : LS s k with
    | none => have := LS_none s _ hk (k + 1) (by omega); rw [this] at h; cases h
    | some b =>
      have h1 := ih b hk
      have := LS_mono s k b hk 0 a h
      have := nl_ge s b (LS_le s _ _ hk); omega

/-- the n-th line, counted from 1. -/
def lineO (s : ByteArray) (n : Int) : Option Nat := if 1 ≤ n then LS s (n - 1).toNat else none
def lineS (s : ByteArray) (n : Int) : ByteArray := match lineO s n with
  | some a => s.extract a (nl s a)
  | none => ByteArray.empty
def lineB (s : ByteArray) (n : Int) : Bool := (lineO s n).isSome
theorem line_some {s : ByteArray} {n : Int} {a : Nat} (h : lineO s n = some a) : lineS s n = s.extract a (nl s a) ∧ lineB s n = true := by
  unfold lineS lineB; rw [h]; exact ⟨rfl, rfl⟩
theorem line_none {s : ByteArray} {n : Int} (h : lineO s n = none) : lineS s n = ByteArray.empty ∧ lineB s n = false := by
  unfold lineS lineB; rw [h]; exact ⟨rfl, rfl⟩

/-- how many runes begin before lim, from i on. -/
def cntB (s : ByteArray) (lim : Nat) : Nat → Nat → Nat
  | 0, _ => 0
  | f + 1, i => if i < s.size then (if i < lim then 1 else 0) + cntB s lim f (i + wd s i) else 0
theorem cntB_zero (s : ByteArray) (lim : Nat) : ∀ f i, lim ≤ i → cntB s lim f i = 0 := by
  intro f
  induction f with
  | zero => intros; rfl
  | succ f ih => intro i h; simp only [cntB]; split; rw [if_neg (by omega), ih _ (by omega)]; rfl
theorem cntB_fuel (s : ByteArray) (lim : Nat) : ∀ f g i, s.size ≤ i + f → s.size ≤ i + g → cntB s lim f i = cntB s lim g i := by
  intro f
  induction f with
  | zero =>
    intro g i hf _
    cases g with
    | zero => rfl
    | succ g => simp only [cntB]; rw [if_neg (by omega)]
  | succ f ih =>
    intro g i hf hg
    by_cases h : i < s.size
    · have := wd_pos s i h
      obtain ⟨g, rfl⟩ : ∃ g', g = g' + 1 := ⟨g - 1, by omega⟩
      simp only [cntB, if_pos h]; rw [ih g _ (by omega) (by omega)]
    · cases g with
      | zero => simp only [cntB]; rw [if_neg h]
      | succ g => simp only [cntB, if_neg h]
/-- what Pos finds: the line of the place, and how many runes of it begin before. -/
theorem posGo_is (s : ByteArray) (a : Nat) (ha : a ≤ s.size) : ∀ f i l c b, s.size ≤ i + f → 1 ≤ l → LS s (l - 1) = some b → b ≤ i → i ≤ nl s b → nl s b = nl s i → b ≤ a → (a < i → a ≤ nl s b) →
    ∃ m b', LS s m = some b' ∧ (posGo s a f i l c).1 = m + 1 ∧ b' ≤ a ∧ a ≤ nl s b' ∧
      (if m + 1 = l then b' = b ∧ (posGo s a f i l c).2 = c + cntB s a f i else (posGo s a f i l c).2 = 1 + cntB s a s.size b') := by
  intro f
  induction f with
  | zero =>
    intro i l c b hf hl hL h1 h2 h3 h4 h5
    have := nl_le s b (LS_le s _ _ hL)
    exact ⟨l - 1, b, hL, by simp only [posGo]; omega, h4, by omega, by rw [if_pos (by omega)]; exact ⟨rfl, rfl⟩⟩
  | succ f ih =>
    intro i l c b hf hl hL h1 h2 h3 h4 h5
    by_cases hi : i < s.size ∧ i < a
    · have hs := hi.1
      have hw := wd_pos s i hs
      have hwl := wd_le s i hs
      by_cases hr : rn s i = 10
      · have hn := (isNl_rn s i hs).2 hr
        have hni : nl s b = i := by rw [h3, nl_stop s i hs hn]
        have hw1 := wd_ten s i hs hr
        have hnext := LS_next s _ b hL (by omega)
        rw [hni] at hnext
        have e : posGo s a (f + 1) i l c = posGo s a f (i + 1) (l + 1) 1 := by simp only [posGo, if_pos hi, if_pos hr, hw1]
        obtain ⟨m, b', g1, g2, g3, g4, g5⟩ := ih (i + 1) (l + 1) 1 (i + 1) (by omega) (by omega) (by rw [← hnext]; congr 1; omega) (by omega) (nl_ge s _ (by omega)) rfl (by omega) (by omega)
        rw [e]
        refine ⟨m, b', g1, g2, g3, g4, ?_⟩
        have hml : ¬ m + 1 = l := by
          intro hml
          have hb : LS s m = some b := by rw [← hL]; congr 1; omega
          rw [g1] at hb; cases hb; omega
        rw [if_neg hml]
        by_cases hm2 : m + 1 = l + 1
        · rw [if_pos hm2] at g5
          rw [g5.2, g5.1, cntB_fuel s a f s.size (i + 1) (by omega) (by omega)]
        · rw [if_neg hm2] at g5; exact g5
      · have e : posGo s a (f + 1) i l c = posGo s a f (i + wd s i) l (c + 1) := by simp only [posGo, if_pos hi, if_neg hr]
        have hnn := nl_rune s i hs hr
        obtain ⟨m, b', g1, g2, g3, g4, g5⟩ := ih (i + wd s i) l (c + 1) b (by omega) hl hL (by omega) (by rw [h3, hnn]; exact nl_ge s _ hwl) (by rw [h3, hnn]) h4 (by intro _; rw [h3, hnn]; have := nl_ge s (i + wd s i) hwl; omega)
        rw [e]
        refine ⟨m, b', g1, g2, g3, g4, ?_⟩
        by_cases hm : m + 1 = l
        · rw [if_pos hm] at g5 ⊢
          refine ⟨g5.1, ?_⟩
          rw [g5.2]; simp only [cntB, if_pos hs, if_pos hi.2]; omega
        · rw [if_neg hm] at g5 ⊢; exact g5
    · have e : posGo s a (f + 1) i l c = (l, c) := posGo_stop _ _ _ _ _ _ hi
      have := nl_le s b (LS_le s _ _ hL)
      rw [e]
      have hai : a ≤ i := by omega
      refine ⟨l - 1, b, hL, by simp only; omega, h4, by by_cases hh : a < i; exact h5 hh; omega, ?_⟩
      rw [if_pos (by omega)]
      exact ⟨rfl, by rw [cntB_zero s a _ i hai]; rfl⟩
theorem pos_is (s : ByteArray) (a : Nat) (ha : a ≤ s.size) : ∃ m b, LS s m = some b ∧ (posGo s a s.size 0 1 1) = (m + 1, 1 + cntB s a s.size b) ∧ b ≤ a ∧ a ≤ nl s b := by
  obtain ⟨m, b, g1, g2, g3, g4, g5⟩ := posGo_is s a ha s.size 0 1 1 0 (by omega) (by omega) rfl (by omega) (by omega) rfl (by omega) (by omega)
  refine ⟨m, b, g1, ?_, g3, g4⟩
  by_cases hm : m + 1 = 1
  · rw [if_pos hm] at g5
    exact Prod.ext g2 (by rw [g5.2, g5.1])
  · rw [if_neg hm] at g5
    exact Prod.ext g2 g5
end Go.Proofs.CharsMath
