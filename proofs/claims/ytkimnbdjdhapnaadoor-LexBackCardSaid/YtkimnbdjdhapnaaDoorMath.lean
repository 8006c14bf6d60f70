import GoSem.Core.Utf8
import Derived.Lib.DecodeN
namespace Go.Proofs.CharsMath
open Go Go.Lib

theorem decodeN_facts (n b0 b1 b2 b3 : Nat) (h0 : b0 < 256) (h1 : b1 < 256) (h2 : b2 < 256) (h3 : b3 < 256) (hn : 1 ≤ n) :
    (decodeN n b0 b1 b2 b3).1 ≤ 1114111 ∧ 1 ≤ (decodeN n b0 b1 b2 b3).2 ∧ (decodeN n b0 b1 b2 b3).2 ≤ n ∧ (decodeN n b0 b1 b2 b3).2 ≤ 4 ∧
    ((decodeN n b0 b1 b2 b3).1 < 128 ↔ b0 < 128) ∧ (b0 < 128 → decodeN n b0 b1 b2 b3 = (b0, 1)) ∧
    (2 ≤ (decodeN n b0 b1 b2 b3).2 → 128 ≤ b1) ∧ (3 ≤ (decodeN n b0 b1 b2 b3).2 → 128 ≤ b2) ∧ (4 ≤ (decodeN n b0 b1 b2 b3).2 → 128 ≤ b3) := by
  unfold decodeN
  repeat' split
  all_goals simp only []
  all_goals (refine ⟨?_, ?_, ?_, ?_, ?_, ?_, ?_, ?_, ?_⟩ <;> first | trivial | omega | (intro h; first | trivial | rfl | omega | (exfalso; omega)))

theorem get_lt (s : ByteArray) (i : Nat) : (s.get! i).toNat < 256 := (s.get! i).toNat_lt
theorem get_eq (s : ByteArray) (i : Nat) (h : i < s.size) : s.get! i = s[i]'h := by
  simp [ByteArray.get!, h]; rfl

/-- the rune at i and its width. -/
def rn (s : ByteArray) (i : Nat) : Nat := (Utf8.decode s i).1
def wd (s : ByteArray) (i : Nat) : Nat := (Utf8.decode s i).2

theorem wd_pos (s : ByteArray) (i : Nat) (h : i < s.size) : 1 ≤ wd s i := by
  unfold wd; rw [decode_at]; exact (decodeN_facts _ _ _ _ _ (get_lt _ _) (get_lt _ _) (get_lt _ _) (get_lt _ _) (by omega)).2.1
theorem wd_le (s : ByteArray) (i : Nat) (h : i < s.size) : i + wd s i ≤ s.size := by
  unfold wd; rw [decode_at]; have := (decodeN_facts (s.size - i) _ _ _ _ (get_lt s i) (get_lt s (i+1)) (get_lt s (i+2)) (get_lt s (i+3)) (by omega)).2.2.1; omega
theorem rn_le (s : ByteArray) (i : Nat) (h : i < s.size) : rn s i ≤ 1114111 := by
  unfold rn; rw [decode_at]; exact (decodeN_facts _ _ _ _ _ (get_lt _ _) (get_lt _ _) (get_lt _ _) (get_lt _ _) (by omega)).1
theorem rn_low (s : ByteArray) (i : Nat) (h : i < s.size) : rn s i < 128 ↔ (s.get! i).toNat < 128 := by
  unfold rn; rw [decode_at]; exact (decodeN_facts _ _ _ _ _ (get_lt _ _) (get_lt _ _) (get_lt _ _) (get_lt _ _) (by omega)).2.2.2.2.1
theorem rn_ascii (s : ByteArray) (i : Nat) (h : i < s.size) (ha : (s.get! i).toNat < 128) : rn s i = (s.get! i).toNat ∧ wd s i = 1 := by
  unfold rn wd; rw [decode_at]
  rw [(decodeN_facts (s.size - i) _ _ _ _ (get_lt s i) (get_lt s (i+1)) (get_lt s (i+2)) (get_lt s (i+3)) (by omega)).2.2.2.2.2.1 ha]; exact ⟨rfl, rfl⟩
theorem rn_ten (s : ByteArray) (i : Nat) (h : i < s.size) : rn s i = 10 ↔ (s.get! i).toNat = 10 := by
  constructor
  · intro hr
    have := (rn_low s i h).1 (by omega)
    rw [← (rn_ascii s i h this).1]; exact hr
  · intro hb; rw [(rn_ascii s i h (by omega)).1]; exact hb
theorem wd_ten (s : ByteArray) (i : Nat) (h : i < s.size) (hr : rn s i = 10) : wd s i = 1 :=
  (rn_ascii s i h (by have := (rn_ten s i h).1 hr; omega)).2
/-- the bytes inside a rune are above 127. -/
theorem inner (s : ByteArray) (i k : Nat) (h : i < s.size) (h1 : i < k) (h2 : k < i + wd s i) : 128 ≤ (s.get! k).toNat := by
  unfold wd at h2; rw [decode_at] at h2
  obtain ⟨-, -, -, a4, -, -, a1, a2, a3⟩ := decodeN_facts (s.size - i) _ _ _ _ (get_lt s i) (get_lt s (i+1)) (get_lt s (i+2)) (get_lt s (i+3)) (by omega)
  have hk : k = i + 1 ∨ k = i + 2 ∨ k = i + 3 := by omega
  rcases hk with rfl | rfl | rfl
  · exact a1 (by omega)
  · exact a2 (by omega)
  · exact a3 (by omega)

/-- Pos, rune by rune. -/
def posGo (s : ByteArray) (at_ : Nat) : Nat → Nat → Nat → Nat → Nat × Nat
  | 0, _, l, c => (l, c)
  | f + 1, i, l, c => if i < s.size ∧ i < at_ then (if rn s i = 10 then posGo s at_ f (i + wd s i) (l + 1) 1 else posGo s at_ f (i + wd s i) l (c + 1)) else (l, c)

theorem posGo_stop (s : ByteArray) (at_ f i l c : Nat) (h : ¬ (i < s.size ∧ i < at_)) : posGo s at_ f i l c = (l, c) := by
  cases f with
  | zero => rfl
  | succ f => simp only [posGo, if_neg h]

theorem moves (s : ByteArray) (at_ : Nat) (ha : at_ < s.size) : ∀ f i l c, s.size ≤ i + f → (i ≤ at_ ∨ (s.get! at_).toNat ≠ 10) →
    (if (s.get! at_).toNat = 10 then posGo s (at_ + 1) f i l c = ((posGo s at_ f i l c).1 + 1, 1)
     else posGo s (at_ + 1) f i l c = posGo s at_ f i l c ∨ posGo s (at_ + 1) f i l c = ((posGo s at_ f i l c).1, (posGo s at_ f i l c).2 + 1)) := by
  intro f
  induction f with
  | zero =>
    intro i l c hf hi
    rw [if_neg (by omega)]; exact .inl rfl
  | succ f ih =>
    intro i l c hf hi
    by_cases h1 : i < at_
    · have hs : i < s.size := by omega
      have hp := wd_pos s i hs
      have hi' : i + wd s i ≤ at_ ∨ (s.get! at_).toNat ≠ 10 := by
        by_cases hh : i + wd s i ≤ at_
        · exact .inl hh
        · have := inner s i at_ hs h1 (by omega); exact .inr (by omega)
      simp only [posGo, if_pos (show i < s.size ∧ i < at_ from ⟨hs, h1⟩), if_pos (show i < s.size ∧ i < at_ + 1 from ⟨hs, by omega⟩)]
      by_cases hr : rn s i = 10
      · simp only [if_pos hr]; exact ih _ _ _ (by omega) hi'
      · simp only [if_neg hr]; exact ih _ _ _ (by omega) hi'
    · by_cases h2 : i = at_
      · subst h2
        have hp := wd_pos s i ha
        simp only [posGo, if_neg (show ¬ (i < s.size ∧ i < i) from by omega), if_pos (show i < s.size ∧ i < i + 1 from ⟨ha, by omega⟩)]
        by_cases hr : rn s i = 10
        · rw [if_pos ((rn_ten s i ha).1 hr), if_pos hr, posGo_stop _ _ _ _ _ _ (by omega)]
        · rw [if_neg (fun h => hr ((rn_ten s i ha).2 h)), if_neg hr, posGo_stop _ _ _ _ _ _ (by omega)]; exact .inr rfl
      · rw [posGo_stop s (at_ + 1) _ _ _ _ (by omega), posGo_stop s at_ _ _ _ _ (by omega), if_neg (by omega)]; exact .inl rfl

/-- Runes, rune by rune. -/
def runesGo (s : ByteArray) : Nat → Nat → Nat → Nat
  | 0, _, n => n
  | f + 1, i, n => if i < s.size then runesGo s f (i + wd s i) (n + 1) else n
theorem runesGo_stop (s : ByteArray) (f i n : Nat) (h : ¬ i < s.size) : runesGo s f i n = n := by
  cases f with
  | zero => rfl
  | succ f => simp only [runesGo, if_neg h]
theorem decodeN_cut (m n b0 b1 b2 b3 c1 c2 c3 : Nat) (hm : 1 ≤ m) (hmn : m ≤ n) (e1 : 1 < m → c1 = b1) (e2 : 2 < m → c2 = b2) (e3 : 3 < m → c3 = b3)
    (x1 : m = 1 → c1 < 128) (x2 : m = 2 → c2 < 128) (x3 : m = 3 → c3 < 128) : decodeN n b0 c1 c2 c3 = decodeN m b0 b1 b2 b3 := by
  have hc : m = 1 ∨ m = 2 ∨ m = 3 ∨ 4 ≤ m := by omega
  rcases hc with rfl | rfl | rfl | h
  · have := x1 rfl
    have p1 : ¬ (1 < n ∧ c1 / 64 = 2) := by omega
    have q1 : ¬ (1 < 1 ∧ b1 / 64 = 2) := by omega
    simp only [decodeN, p1, q1, false_and, and_false, if_false]
  · obtain rfl := e1 (by omega)
    have := x2 rfl
    have p1 : (1 < n ∧ c1 / 64 = 2) = (1 < 2 ∧ c1 / 64 = 2) := propext (by omega)
    have p2 : ¬ (2 < n ∧ c2 / 64 = 2) := by omega
    have q2 : ¬ (2 < 2 ∧ b2 / 64 = 2) := by omega
    simp only [decodeN, p1, p2, q2, false_and, and_false, if_false]
  · obtain rfl := e1 (by omega)
    obtain rfl := e2 (by omega)
    have := x3 rfl
    have p1 : (1 < n ∧ c1 / 64 = 2) = (1 < 3 ∧ c1 / 64 = 2) := propext (by omega)
    have p2 : (2 < n ∧ c2 / 64 = 2) = (2 < 3 ∧ c2 / 64 = 2) := propext (by omega)
    have p3 : ¬ (3 < n ∧ c3 / 64 = 2) := by omega
    have q3 : ¬ (3 < 3 ∧ b3 / 64 = 2) := by omega
    simp only [decodeN, p1, p2, p3, q3, and_false, if_false]
  · obtain rfl := e1 (by omega)
    obtain rfl := e2 (by omega)
    obtain rfl := e3 (by omega)
    have p1 : (1 < n ∧ c1 / 64 = 2) = (1 < m ∧ c1 / 64 = 2) := propext (by omega)
    have p2 : (2 < n ∧ c2 / 64 = 2) = (2 < m ∧ c2 / 64 = 2) := propext (by omega)
    have p3 : (3 < n ∧ c3 / 64 = 2) = (3 < m ∧ c3 / 64 = 2) := propext (by omega)
    simp only [decodeN, p1, p2, p3]

theorem get_out (s : ByteArray) (i : Nat) (h : s.size ≤ i) : (s.get! i).toNat = 0 := by
  have : ¬ i < s.data.size := by have e : s.data.size = s.size := rfl; omega
  show (s.data[i]!).toNat = 0
  rw [getElem!_neg s.data i this]; rfl

/-- t lies in s from place k on. -/
def At (s : ByteArray) (k : Nat) (t : ByteArray) : Prop := k + t.size ≤ s.size ∧ ∀ j, j < t.size → s.get! (k + j) = t.get! j

/-- decoding in a piece that ends at the text's end. -/
theorem decode_tail (s t : ByteArray) (k i : Nat) (h : At s k t) (he : k + t.size = s.size) : Utf8.decode s (k + i) = Utf8.decode t i := by
  have g : ∀ j, s.get! (k + i + j) = t.get! (i + j) := by
    intro j
    by_cases hj : i + j < t.size
    · rw [Nat.add_assoc]; exact h.2 _ hj
    · apply UInt8.toNat_inj.1
      rw [get_out _ _ (by omega), get_out _ _ (by omega)]
  rw [decode_at, decode_at, g 1, g 2, g 3, show s.get! (k + i) = t.get! i from g 0, show s.size - (k + i) = t.size - i from by omega]

/-- decoding in a piece behind which stands a byte below 128. -/
theorem decode_head (s t : ByteArray) (k i : Nat) (h : At s k t) (hi : i < t.size) (hb : (s.get! (k + t.size)).toNat < 128) : Utf8.decode s (k + i) = Utf8.decode t i := by
  have g : ∀ j, i + j < t.size → s.get! (k + i + j) = t.get! (i + j) := fun j hj => by rw [Nat.add_assoc]; exact h.2 _ hj
  have hx : ∀ j, i + j = t.size → (s.get! (k + i + j)).toNat < 128 := fun j hj => by rw [Nat.add_assoc, hj]; exact hb
  rw [decode_at, decode_at, show s.get! (k + i) = t.get! i from g 0 (by omega)]
  exact decodeN_cut (t.size - i) (s.size - (k + i)) _ _ _ _ _ _ _ (by omega) (by have := h.1; omega) (fun hh => by rw [g 1 (by omega)]) (fun hh => by rw [g 2 (by omega)]) (fun hh => by rw [g 3 (by omega)])
    (fun hh => hx 1 (by omega)) (fun hh => hx 2 (by omega)) (fun hh => hx 3 (by omega))

theorem runesGo_add (s : ByteArray) : ∀ f i n m, runesGo s f i (n + m) = runesGo s f i n + m := by
  intro f
  induction f with
  | zero => intros; rfl
  | succ f ih =>
    intro i n m
    simp only [runesGo]
    split
    · rw [show n + m + 1 = n + 1 + m from by omega]; exact ih _ _ _
    · rfl
theorem runesGo_fuel (s : ByteArray) : ∀ f g i n, s.size ≤ i + f → s.size ≤ i + g → runesGo s f i n = runesGo s g i n := by
  intro f
  induction f with
  | zero => intro g i n hf _; rw [runesGo_stop _ _ _ _ (by omega), runesGo_stop _ _ _ _ (by omega)]
  | succ f ih =>
    intro g i n hf hg
    by_cases h : i < s.size
    · have := wd_pos s i h
      obtain ⟨g, rfl⟩ : ∃ g', g = g' + 1 := ⟨g - 1, by omega⟩
      simp only [runesGo, if_pos h]; exact ih _ _ _ (by omega) (by omega)
    · rw [runesGo_stop _ _ _ _ h, runesGo_stop _ _ _ _ h]
/-- the runes of a tail. -/
theorem runesGo_tail (s t : ByteArray) (k : Nat) (h : At s k t) (he : k + t.size = s.size) : ∀ f i n, runesGo s f (k + i) n = runesGo t f i n := by
  intro f
  induction f with
  | zero => intros; rfl
  | succ f ih =>
    intro i n
    by_cases hi : i < t.size
    · simp only [runesGo, if_pos hi, if_pos (show k + i < s.size from by omega)]
      rw [show wd s (k + i) = wd t i from by unfold wd; rw [decode_tail s t k i h he], Nat.add_assoc]; exact ih _ _
    · rw [runesGo_stop _ _ _ _ hi, runesGo_stop _ _ _ _ (by omega)]
def runes (s : ByteArray) : Nat := runesGo s s.size 0 0
/-- the runes of a text that is a and b, b beginning with a byte below 128. -/
theorem runes_join (s a b : ByteArray) (ha : At s 0 a) (hb : At s a.size b) (he : s.size = a.size + b.size) (hx : 0 < b.size → (b.get! 0).toNat < 128) : runes s = runes a + runes b := by
  have hz : (s.get! (0 + a.size)).toNat < 128 := by
    rw [Nat.zero_add]
    by_cases h : 0 < b.size
    · have := hb.2 0 h; rw [Nat.add_zero] at this; rw [this]; exact hx h
    · rw [get_out _ _ (by omega)]; decide
  have key : ∀ f i n, i ≤ a.size → s.size ≤ i + f → runesGo s f i n = runesGo a f i n + runes b := by
    intro f
    induction f with
    | zero =>
      intro i n hi hf
      have : b.size = 0 := by omega
      rw [show runes b = 0 from by unfold runes; rw [runesGo_stop _ _ _ _ (by omega)]]; rfl
    | succ f ih =>
      intro i n hi hf
      by_cases h : i < a.size
      · have d := decode_head s a 0 i ha h hz
        rw [Nat.zero_add] at d
        have hp := wd_pos a i h
        have hl := wd_le a i h
        simp only [runesGo, if_pos h, if_pos (show i < s.size from by omega)]
        rw [show wd s i = wd a i from by unfold wd; rw [d]]
        exact ih _ _ (by omega) (by omega)
      · obtain rfl : i = a.size := by omega
        rw [runesGo_stop a _ _ _ h]
        have this : runesGo s (f + 1) a.size n = runesGo b (f + 1) 0 n := runesGo_tail s b a.size hb he.symm (f + 1) 0 n
        rw [this, show n = 0 + n from by omega, runesGo_add, runesGo_fuel b (f + 1) b.size 0 0 (by omega) (by omega)]
        show _ = _ + runesGo b b.size 0 0
        omega
  unfold runes
  rw [key s.size 0 0 (by omega) (by omega), runesGo_fuel a s.size a.size 0 0 (by omega) (by omega)]; rfl
end Go.Proofs.CharsMath
