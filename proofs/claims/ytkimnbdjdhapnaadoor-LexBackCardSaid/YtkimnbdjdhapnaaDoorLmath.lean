import Derived.Test.YtkimnbdjdhapnaaDoorText
namespace Go.Proofs.YtkimnbdjdhapnaaDoor
open Go Go.Lib CharsMath
set_option linter.unusedVariables false
theorem toListD (s : ByteArray) : s.toList = s.data.toList := by
  have key : ∀ (k i : Nat) (r : List UInt8), k = s.size - i → ByteArray.toList.loop s i r = r.reverse ++ s.data.toList.drop i := by
    intro k
    induction k with
    | zero =>
      intro i r h
      rw [ByteArray.toList.loop, if_neg (by omega)]
      rw [List.drop_eq_nil_of_le (by show s.data.toList.length ≤ i; rw [Array.length_toList]; show s.size ≤ i; omega)]
      simp
    | succ k ih =>
      intro i r h
      rw [ByteArray.toList.loop, if_pos (by omega), ih (i + 1) _ (by omega)]
      have hl : i < s.data.toList.length := by rw [Array.length_toList]; show i < s.size; omega
      rw [List.drop_eq_getElem_cons hl, List.reverse_cons, List.append_assoc]
      congr 1
      rw [get_eq s i (by omega)]
      rfl
  unfold ByteArray.toList
  rw [key s.size 0 [] (by omega)]; simp
/-- do the two bytes at i read a, b? -/
def two (t : ByteArray) (i : Nat) (a b : UInt8) : Bool := (t.extract i (i + 2)).toList == [a, b]
theorem two_eq (t : ByteArray) (i : Nat) (a b : UInt8) (h : i + 1 < t.size) : two t i a b = (t.get! i == a && t.get! (i + 1) == b) := by
  have : (t.extract i (i + 2)).toList = [t.get! i, t.get! (i + 1)] := by
    rw [toListD]
    apply List.ext_getElem
    · rw [Array.length_toList]
      show (t.extract i (i + 2)).size = 2
      rw [ByteArray.size_extract]; omega
    · intro j h1 h2
      have h3 : j = 0 ∨ j = 1 := by simp at h2; omega
      have h4 : j < (t.extract i (i + 2)).size := by rw [ByteArray.size_extract]; omega
      have e : (t.extract i (i + 2)).data.toList[j] = (t.extract i (i + 2))[j]'h4 := rfl
      rw [e, ByteArray.getElem_extract]
      rcases h3 with rfl | rfl
      · rw [get_eq t i (by omega)]; rfl
      · rw [get_eq t (i + 1) (by omega)]; rfl
  unfold two
  rw [this]
  simp
abbrev Tok := Int × ByteArray × Nat × Nat
/-- the comment's end. -/
def gapGo (t : ByteArray) : Nat → Nat → Nat → Option Nat
  | 0, _, _ => none
  | f + 1, i, d => if i + 1 < t.size then (if two t i 40 42 = true then gapGo t f (i + 2) (d + 1) else if two t i 42 41 = true then (if d = 1 then some (i + 2) else gapGo t f (i + 2) (d - 1)) else gapGo t f (i + 1) d) else none
def gapV (t : ByteArray) : Option Nat :=
  if classV (rn t 0) = 3 then some (wd t 0) else if t.size < 2 then some 0 else if two t 0 40 42 = true then gapGo t (t.size + 1) 0 0 else some 0
def numT (t : ByteArray) : Nat → Nat → Int → Int × Nat
  | 0, _, _ => (0, 0)
  | f + 1, n, v => if n < t.size then (if classV ((t.get! n).toNat : Int) = 2 then (if (4611686018427387903 - (((t.get! n).toNat : Int) - 48)) / 10 < v then (0, 0) else numT t f (n + 1) (v * 10 + (((t.get! n).toNat : Int) - 48))) else (1, n)) else (1, n)
def endGo (t : ByteArray) : Nat → Nat → Nat
  | 0, _ => t.size
  | f + 1, i => if i < t.size then (if goesV (rn t i) = true then endGo t f (i + wd t i) else i) else t.size
def keys : List (List UInt8) := [[116, 121, 112, 101], [111, 102], [108, 101, 116], [114, 101, 99], [105, 110], [102, 117, 110], [105, 102], [116, 104, 101, 110], [101, 108, 115, 101], [109, 97, 116, 99, 104], [119, 105, 116, 104], [101, 110, 100], [114, 101, 102], [112, 114, 105, 110, 116], [114, 101, 97, 100], [114, 97, 105, 115, 101], [116, 114, 121], [116, 114, 117, 101], [102, 97, 108, 115, 101]]
def keyV (x : ByteArray) : Bool := keys.contains x.toList
def endV (t : ByteArray) : Nat := endGo t (t.size + 1) 0
def nameT (t : ByteArray) : Int × Nat := (if keyV (t.extract 0 (endV t)) = true then 4 else if upperV t = true then 3 else 2, endV t)
def tokV (t : ByteArray) : Int × Nat :=
  if classV (rn t 0) = 2 then numT t (t.size + 1) 0 0
  else if startsV (rn t 0) = true then nameT t
  else if 1 < t.size ∧ (two t 0 58 61 = true ∨ two t 0 45 62 = true) then (5, 2)
  else if rn t 0 = 58 ∨ rn t 0 = 62 ∨ classV (rn t 0) ≠ 4 then (0, 0) else (5, 1)
def lexGo (s : ByteArray) : Nat → Nat → List Tok → List Tok × Int × Nat
  | 0, _, l => (l, 0, 0)
  | f + 1, i, l => if i < s.size then
      (match gapV (s.extract i s.size) with
       | none => ([], 3, i)
       | some n => if 0 < n then lexGo s f (i + n) l else
         if (tokV (s.extract i s.size)).1 = 0 then ([], 3, i) else if l.length = 2000 then ([], 2, i)
         else lexGo s f (i + (tokV (s.extract i s.size)).2) (l ++ [((tokV (s.extract i s.size)).1, s.extract i (i + (tokV (s.extract i s.size)).2), i, i + (tokV (s.extract i s.size)).2)]))
    else (l, 0, 0)
def lexV (s : ByteArray) : List Tok × Int × Nat := if 4000 < s.size then ([], 2, 0) else lexGo s (s.size + 1) 0 []
-- laws of decoding in a prefix
theorem at_ext (t : ByteArray) (n : Nat) (h : n ≤ t.size) : At t 0 (t.extract 0 n) ∧ (t.extract 0 n).size = n := by
  have hs : (t.extract 0 n).size = n := by rw [ByteArray.size_extract]; omega
  refine ⟨⟨by omega, fun j hj => ?_⟩, hs⟩
  rw [get_eq t _ (by omega), get_eq _ _ hj, ByteArray.getElem_extract]
/-- a rune that is not broken is read alike in every text that holds it whole. -/
theorem decodeN_whole (n m b0 b1 b2 b3 c1 c2 c3 : Nat) (h1 : (decodeN n b0 b1 b2 b3).1 ≠ 65533 ∨ b0 < 128) (hm : (decodeN n b0 b1 b2 b3).2 ≤ m) (hn : 1 ≤ n)
    (e1 : 1 < m → c1 = b1) (e2 : 2 < m → c2 = b2) (e3 : 3 < m → c3 = b3) (hmn : m ≤ n) : decodeN m b0 c1 c2 c3 = decodeN n b0 b1 b2 b3 := by
  by_cases h0 : b0 < 128
  · unfold decodeN; rw [if_pos h0, if_pos h0]
  have h1' : (decodeN n b0 b1 b2 b3).1 ≠ 65533 := by rcases h1 with h | h; exact h; exact absurd h h0
  clear h1
  unfold decodeN at h1' hm ⊢
  rw [if_neg h0] at h1' hm
  rw [if_neg h0, if_neg h0]
  by_cases p2 : b0 / 32 = 6 ∧ (1 < n ∧ b1 / 64 = 2)
  · rw [if_pos p2] at h1' hm
    by_cases q : b0 % 32 * 64 + b1 % 64 ≥ 128
    · rw [if_pos q] at hm
      have hm : 2 ≤ m := hm
      obtain rfl := e1 (by omega)
      rw [if_pos p2, if_pos ⟨p2.1, by omega, p2.2.2⟩]
    · rw [if_neg q] at h1'; exact absurd rfl h1'
  rw [if_neg p2] at h1' hm
  by_cases p3 : b0 / 16 = 14 ∧ (1 < n ∧ b1 / 64 = 2) ∧ (2 < n ∧ b2 / 64 = 2)
  · rw [if_pos p3] at h1' hm
    split at hm
    · have hm : 3 ≤ m := hm
      obtain rfl := e1 (by omega)
      obtain rfl := e2 (by omega)
      rw [if_neg p2, if_pos p3, if_neg (fun h => by omega), if_pos ⟨p3.1, ⟨by omega, p3.2.1.2⟩, by omega, p3.2.2.2⟩]
    · rename_i q; rw [if_neg q] at h1'; exact absurd rfl h1'
  rw [if_neg p3] at h1' hm
  by_cases p4 : b0 / 8 = 30 ∧ (1 < n ∧ b1 / 64 = 2) ∧ (2 < n ∧ b2 / 64 = 2) ∧ (3 < n ∧ b3 / 64 = 2)
  · rw [if_pos p4] at h1' hm
    split at hm
    · have hm : 4 ≤ m := hm
      obtain rfl := e1 (by omega)
      obtain rfl := e2 (by omega)
      obtain rfl := e3 (by omega)
      rw [if_neg p2, if_neg p3, if_pos p4, if_neg (fun h => by omega), if_neg (fun h => by omega), if_pos ⟨p4.1, ⟨by omega, p4.2.1.2⟩, ⟨by omega, p4.2.2.1.2⟩, by omega, p4.2.2.2.2⟩]
    · rename_i q; rw [if_neg q] at h1'; exact absurd rfl h1'
  rw [if_neg p4] at h1'; exact absurd rfl h1'
/-- the same over texts: x is how t begins. -/
theorem decode_whole (t x : ByteArray) (i : Nat) (h : At t 0 x) (hi : i < x.size) (hr : rn t i ≠ 65533) (hw : i + wd t i ≤ x.size) : Utf8.decode x i = Utf8.decode t i := by
  have g : ∀ j, i + j < x.size → t.get! (i + j) = x.get! (i + j) := fun j hj => by have := h.2 _ hj; rwa [Nat.zero_add] at this
  have hs := h.1
  unfold rn at hr
  unfold wd at hw
  rw [decode_at] at hr hw
  rw [decode_at, decode_at, show x.get! i = t.get! i from (g 0 (by omega)).symm]
  exact decodeN_whole _ _ _ _ _ _ _ _ _ (.inl hr) (by omega) (by omega) (fun hh => by rw [g 1 (by omega)]) (fun hh => by rw [g 2 (by omega)]) (fun hh => by rw [g 3 (by omega)]) (by omega)
theorem class_bad : classV 65533 = 0 := by decide +kernel
theorem goes_rn {r : Nat} (h : goesV r = true) : r ≠ 65533 := by
  rintro rfl
  have : goesV ((65533 : Nat) : Int) = false := by decide +kernel
  rw [this] at h; cases h

/-- u is x, a blank, and whatever follows. -/
structure Sp (u x : ByteArray) : Prop where
  at_ : At u 0 x
  lt : x.size < u.size
  sp : u.get! x.size = 32
theorem Sp.get {u x : ByteArray} (h : Sp u x) {j : Nat} (hj : j < x.size) : u.get! j = x.get! j := by
  have := h.at_.2 _ hj; rwa [Nat.zero_add] at this
theorem Sp.dec {u x : ByteArray} (h : Sp u x) {i : Nat} (hi : i < x.size) : Utf8.decode u i = Utf8.decode x i := by
  have := decode_head u x 0 i h.at_ hi (by rw [Nat.zero_add, h.sp]; decide)
  rwa [Nat.zero_add] at this
theorem Sp.rn {u x : ByteArray} (h : Sp u x) {i : Nat} (hi : i < x.size) : CharsMath.rn u i = CharsMath.rn x i := by unfold CharsMath.rn; rw [h.dec hi]
theorem Sp.wd {u x : ByteArray} (h : Sp u x) {i : Nat} (hi : i < x.size) : CharsMath.wd u i = CharsMath.wd x i := by unfold CharsMath.wd; rw [h.dec hi]
theorem Sp.rn_end {u x : ByteArray} (h : Sp u x) : CharsMath.rn u x.size = 32 := by
  have := (rn_ascii u x.size h.lt (by rw [h.sp]; decide)).1
  rw [this, h.sp]; rfl
theorem Sp.ext {u x : ByteArray} (h : Sp u x) {a b : Nat} (hb : b ≤ x.size) (hab : a ≤ b) : u.extract a b = x.extract a b := by
  have hs := h.at_.1
  have l1 : (u.extract a b).size = b - a := by rw [ByteArray.size_extract]; omega
  have l2 : (x.extract a b).size = b - a := by rw [ByteArray.size_extract]; omega
  apply ByteArray.ext_getElem
  · rw [l1, l2]
  · intro i h1 h2
    rw [ByteArray.getElem_extract, ByteArray.getElem_extract, ← get_eq u _ (by omega), ← get_eq x _ (by omega)]
    exact h.get (by omega)
theorem Sp.two {u x : ByteArray} (h : Sp u x) (i : Nat) (a b : UInt8) (hi : i + 1 < x.size) : Proofs.YtkimnbdjdhapnaaDoor.two u i a b = Proofs.YtkimnbdjdhapnaaDoor.two x i a b := by
  have := h.lt
  rw [two_eq u i a b (by omega), two_eq x i a b hi, h.get (by omega), h.get hi]
theorem Sp.two_end {u x : ByteArray} (h : Sp u x) (i : Nat) (a b : UInt8) (hi : i + 1 = x.size) (hb : b ≠ 32) : Proofs.YtkimnbdjdhapnaaDoor.two u i a b = false := by
  have := h.lt
  rw [two_eq u i a b (by omega), hi, h.sp]
  simp [Ne.symm hb]
theorem class_sp : classV 32 = 3 := by decide
theorem goes_sp : goesV 32 = false := by decide
theorem num_sp {u x : ByteArray} (h : Sp u x) : ∀ (f g n : Nat) (v : Int), n ≤ x.size → x.size < n + f → x.size < n + g → numT u f n v = numT x g n v := by
  intro f
  induction f with
  | zero => intro g n v h1 h2 h3; omega
  | succ f ih =>
    intro g n v h1 h2 h3
    obtain ⟨g, rfl⟩ : ∃ q, g = q + 1 := ⟨g - 1, by omega⟩
    have hl := h.lt
    by_cases hn : n < x.size
    · simp only [numT, if_pos hn, if_pos (show n < u.size by omega), h.get hn]
      split
      · split
        · rfl
        · exact ih _ _ _ (by omega) (by omega) (by omega)
      · rfl
    · obtain rfl : n = x.size := by omega
      simp only [numT, if_neg hn, if_pos hl, h.sp]
      rw [if_neg (by decide)]
theorem end_sp {u x : ByteArray} (h : Sp u x) : ∀ (f g i : Nat), i ≤ x.size → x.size < i + f → x.size < i + g → endGo u f i = endGo x g i := by
  intro f
  induction f with
  | zero => intro g i h1 h2 h3; omega
  | succ f ih =>
    intro g i h1 h2 h3
    obtain ⟨g, rfl⟩ : ∃ q, g = q + 1 := ⟨g - 1, by omega⟩
    have hl := h.lt
    by_cases hn : i < x.size
    · have a1 := wd_pos x i hn
      have a2 := wd_le x i hn
      simp only [endGo, if_pos hn, if_pos (show i < u.size by omega), h.rn hn, h.wd hn]
      split
      · exact ih _ _ (by omega) (by omega) (by omega)
      · rfl
    · obtain rfl : i = x.size := by omega
      simp only [endGo, if_neg hn, if_pos hl, h.rn_end]
      rw [if_neg (by decide)]
theorem endGo_le (t : ByteArray) : ∀ f i, endGo t f i ≤ t.size := by
  intro f
  induction f with
  | zero => intro i; exact Nat.le_refl _
  | succ f ih =>
    intro i
    unfold endGo
    split
    · split
      · exact ih _
      · omega
    · omega
theorem end_spV {u x : ByteArray} (h : Sp u x) : endV u = endV x := by
  have := h.lt
  exact end_sp h _ _ 0 (by omega) (by omega) (by omega)
theorem upper_sp {u x : ByteArray} (h : Sp u x) (h0 : 0 < x.size) : upperV u = upperV x := by
  have := h.lt
  unfold upperV
  rw [if_pos h0, if_pos (by omega), h.rn h0]
/-- a word is the same with a blank behind it. -/
theorem tok_sp {u x : ByteArray} (h : Sp u x) (h0 : 0 < x.size) : tokV u = tokV x := by
  have hl := h.lt
  unfold tokV nameT
  rw [h.rn h0, end_spV h, upper_sp h h0, num_sp h (u.size + 1) (x.size + 1) 0 0 (by omega) (by omega) (by omega), h.ext (show endV x ≤ x.size from endGo_le x _ _) (Nat.zero_le _)]
  split
  · rfl
  split
  · rfl
  by_cases h1 : 1 < x.size
  · rw [h.two 0 58 61 (by omega), h.two 0 45 62 (by omega)]
    simp only [h1, show 1 < u.size by omega, true_and]
  · rw [h.two_end 0 58 61 (by omega) (by decide), h.two_end 0 45 62 (by omega) (by decide), if_neg (by simp), if_neg (show ¬ (1 < x.size ∧ (two x 0 58 61 = true ∨ two x 0 45 62 = true)) from fun h => h1 h.1)]

/-- x is how t begins. -/
structure Pre (t x : ByteArray) : Prop where
  at_ : At t 0 x
theorem Pre.le {t x : ByteArray} (h : Pre t x) : x.size ≤ t.size := by have := h.at_.1; omega
theorem Pre.get {t x : ByteArray} (h : Pre t x) {j : Nat} (hj : j < x.size) : t.get! j = x.get! j := by
  have := h.at_.2 _ hj; rwa [Nat.zero_add] at this
theorem Pre.ext {u x : ByteArray} (h : Pre u x) {a b : Nat} (hb : b ≤ x.size) (hab : a ≤ b) : u.extract a b = x.extract a b := by
  have hs := h.le
  have l1 : (u.extract a b).size = b - a := by rw [ByteArray.size_extract]; omega
  have l2 : (x.extract a b).size = b - a := by rw [ByteArray.size_extract]; omega
  apply ByteArray.ext_getElem
  · rw [l1, l2]
  · intro i h1 h2
    rw [ByteArray.getElem_extract, ByteArray.getElem_extract, ← get_eq u _ (by omega), ← get_eq x _ (by omega)]
    exact h.get (by omega)
theorem Pre.two {u x : ByteArray} (h : Pre u x) (i : Nat) (a b : UInt8) (hi : i + 1 < x.size) : Proofs.YtkimnbdjdhapnaaDoor.two u i a b = Proofs.YtkimnbdjdhapnaaDoor.two x i a b := by
  have := h.le
  rw [two_eq u i a b (by omega), two_eq x i a b hi, h.get (by omega), h.get hi]
theorem Pre.dec {u x : ByteArray} (h : Pre u x) {i : Nat} (hi : i < x.size) (hr : CharsMath.rn u i ≠ 65533) (hw : i + CharsMath.wd u i ≤ x.size) : CharsMath.rn x i = CharsMath.rn u i ∧ CharsMath.wd x i = CharsMath.wd u i := by
  have := decode_whole u x i h.at_ hi hr hw
  unfold CharsMath.rn CharsMath.wd
  rw [this]; exact ⟨rfl, rfl⟩
theorem pre_ext (t : ByteArray) (n : Nat) (h : n ≤ t.size) : Pre t (t.extract 0 n) := ⟨(at_ext t n h).1⟩
theorem ext_all (x : ByteArray) : x.extract 0 x.size = x := by
  apply ByteArray.ext_getElem
  · rw [ByteArray.size_extract]; omega
  · intro i h1 h2
    rw [ByteArray.getElem_extract]; congr 1; omega
theorem digit_byte {b : Nat} (h : classV (b : Int) = 2) : 48 ≤ b ∧ b ≤ 57 := by
  unfold classV at h
  split at h
  · cases h
  split at h
  · cases h
  split at h
  · cases h
  split at h
  · omega
  split at h <;> cases h
theorem num_pre {t x : ByteArray} (h : Pre t x) : ∀ (f g n : Nat) (v : Int), n ≤ x.size → x.size < n + g → numT t f n v = (1, x.size) → numT x g n v = (1, x.size) := by
  intro f
  induction f with
  | zero => intro g n v h1 h2 h3; simp [numT] at h3
  | succ f ih =>
    intro g n v h1 h2 h3
    obtain ⟨g, rfl⟩ : ∃ q, g = q + 1 := ⟨g - 1, by omega⟩
    have hl := h.le
    by_cases hn : n < x.size
    · simp only [numT, if_pos hn, if_pos (show n < t.size by omega), h.get hn] at h3 ⊢
      split
      · rename_i hc
        rw [if_pos hc] at h3
        split
        · rename_i hv; rw [if_pos hv] at h3; cases h3
        · rename_i hv; rw [if_neg hv] at h3
          exact ih _ _ _ (by omega) (by omega) h3
      · rename_i hc
        rw [if_neg hc] at h3; exact h3
    · simp only [numT, if_neg hn]
      rw [show n = x.size by omega]
theorem num_ge (t : ByteArray) : ∀ (f n : Nat) (v : Int), (numT t f n v).1 = 1 ∧ n ≤ (numT t f n v).2 ∧ (n ≤ t.size → (numT t f n v).2 ≤ t.size) ∨ (numT t f n v) = (0, 0) := by
  intro f
  induction f with
  | zero => intro n v; right; rfl
  | succ f ih =>
    intro n v
    unfold numT
    split
    · split
      · split
        · right; rfl
        · rcases ih (n + 1) (v * 10 + (((t.get! n).toNat : Int) - 48)) with h | h
          · left; exact ⟨h.1, by omega, fun h2 => h.2.2 (by omega)⟩
          · right; exact h
      · left; exact ⟨rfl, Nat.le_refl _, fun h => h⟩
    · left; exact ⟨rfl, Nat.le_refl _, fun h => h⟩
/-- where a number ends no digit stands. -/
theorem num_stop (t : ByteArray) : ∀ (f n : Nat) (v : Int), n ≤ t.size → t.size < n + f → (numT t f n v).1 = 1 → (numT t f n v).2 < t.size → ¬ (48 ≤ (t.get! (numT t f n v).2).toNat ∧ (t.get! (numT t f n v).2).toNat ≤ 57) := by
  intro f
  induction f with
  | zero => intro n v h1 h2; omega
  | succ f ih =>
    intro n v h1 h2
    unfold numT
    by_cases hn : n < t.size
    · rw [if_pos hn]
      by_cases hc : classV ((t.get! n).toNat : Int) = 2
      · rw [if_pos hc]
        split
        · intro h; cases h
        · exact ih _ _ (by omega) (by omega)
      · rw [if_neg hc]
        intro _ _ hd
        apply hc
        obtain ⟨d, hd2⟩ : ∃ d, d = (t.get! n).toNat := ⟨_, rfl⟩
        simp only [] at hd
        rw [← hd2] at hd ⊢
        have hk : d = 48 ∨ d = 49 ∨ d = 50 ∨ d = 51 ∨ d = 52 ∨ d = 53 ∨ d = 54 ∨ d = 55 ∨ d = 56 ∨ d = 57 := by omega
        rcases hk with rfl | rfl | rfl | rfl | rfl | rfl | rfl | rfl | rfl | rfl <;> rfl
    · rw [if_neg hn]
      intro _ h; exact absurd h hn
theorem end_ge (t : ByteArray) : ∀ (f i : Nat), i ≤ t.size → i ≤ endGo t f i := by
  intro f
  induction f with
  | zero => intro i h; exact h
  | succ f ih =>
    intro i h
    unfold endGo
    split
    · rename_i h2
      have := wd_le t i h2
      split
      · have := ih (i + wd t i) (by omega); omega
      · exact Nat.le_refl _
    · exact h
theorem end_pre {t x : ByteArray} (h : Pre t x) : ∀ (f g i : Nat), i ≤ x.size → t.size < i + f → x.size < i + g → endGo t f i = x.size → endGo x g i = x.size := by
  intro f
  induction f with
  | zero => intro g i h1 h2 h3 h4; have := h.le; omega
  | succ f ih =>
    intro g i h1 h2 h3 h4
    obtain ⟨g, rfl⟩ : ∃ q, g = q + 1 := ⟨g - 1, by omega⟩
    have hl := h.le
    by_cases hn : i < x.size
    · unfold endGo at h4
      rw [if_pos (show i < t.size by omega)] at h4
      by_cases hg : goesV (rn t i) = true
      · rw [if_pos hg] at h4
        have hw := wd_pos t i (by omega)
        have hw2 := wd_le t i (by omega)
        have hge := end_ge t f (i + wd t i) hw2
        have d := h.dec hn (goes_rn hg) (by omega)
        unfold endGo
        rw [if_pos hn, d.1, if_pos hg, d.2]
        exact ih _ _ (by omega) (by omega) (by omega) h4
      · rw [if_neg hg] at h4; omega
    · unfold endGo
      rw [if_neg hn]
theorem starts_goes {r : Int} (h : startsV r = true) : goesV r = true := by
  unfold startsV at h; unfold goesV
  simp at h ⊢; exact .inl h.2
theorem class_mark {r : Int} (h : classV r = 4) : r ∈ markL := by
  unfold classV at h
  split at h
  · cases h
  split at h
  · cases h
  split at h
  · assumption
  split at h
  · cases h
  split at h <;> cases h
theorem mark_low {r : Int} (h : r ∈ markL) : 33 ≤ r ∧ r < 125 := by
  simp only [markL, List.mem_cons, List.mem_nil_iff, or_false] at h; omega
theorem rn_pre {t x : ByteArray} (h : Pre t x) (h0 : 0 < x.size) (hr : rn t 0 < 128) : rn x 0 = rn t 0 ∧ wd x 0 = wd t 0 := by
  have hl := h.le
  have a := (rn_low t 0 (by omega)).1 hr
  have e1 := rn_ascii t 0 (by omega) a
  have e2 := rn_ascii x 0 h0 (by rw [← h.get h0]; exact a)
  rw [e1.1, e1.2, e2.1, e2.2, h.get h0]; exact ⟨rfl, rfl⟩
/-- a word by itself is that word. -/
theorem tok_pre {t : ByteArray} {k : Int} {n : Nat} (h0 : 0 < t.size) (h : tokV t = (k, n)) (hk : k ≠ 0) :
    0 < n ∧ n ≤ t.size ∧ tokV (t.extract 0 n) = (k, n) ∧ 1 ≤ k ∧ k ≤ 5 ∧ (k = 1 → n < t.size → ¬ (48 ≤ (t.get! n).toNat ∧ (t.get! n).toNat ≤ 57)) ∧ classV (rn t 0) ≠ 3 ∧ rn (t.extract 0 n) 0 = rn t 0 := by
  unfold tokV at h
  by_cases c1 : classV (rn t 0) = 2
  · rw [if_pos c1] at h
    have hg := num_ge t (t.size + 1) 0 0
    rw [h] at hg
    rcases hg with hg | hg
    · have hk1 : k = 1 := hg.1
      subst hk1
      have hn : n ≤ t.size := hg.2.2 (Nat.zero_le _)
      have hd0 : 48 ≤ rn t 0 ∧ rn t 0 ≤ 57 := digit_byte c1
      have a := (rn_low t 0 h0).1 (by omega)
      have e1 := rn_ascii t 0 h0 a
      have hn0 : 0 < n := by
        unfold numT at h
        rw [if_pos h0, ← e1.1, if_pos c1] at h
        rw [if_neg (by omega)] at h
        have := num_ge t t.size 1 (0 * 10 + (((rn t 0 : Nat) : Int) - 48))
        rw [h] at this
        rcases this with h2 | h2
        · have := h2.2.1; simp at this; omega
        · cases h2
      have P := pre_ext t n hn
      have hs := (at_ext t n hn).2
      have r0 := rn_pre P (by omega) (by omega)
      have hst := num_stop t (t.size + 1) 0 0 (by omega) (by omega)
      rw [h] at hst
      refine ⟨hn0, hn, ?_, by decide, by decide, fun _ h2 => hst rfl h2, by rw [c1]; decide, r0.1⟩
      unfold tokV
      rw [r0.1, if_pos c1]
      have := num_pre P (t.size + 1) ((t.extract 0 n).size + 1) 0 0 (by omega) (by omega) (by rw [hs]; exact h)
      rw [this, hs]
    · injection hg with h2; exact absurd h2 hk
  rw [if_neg c1] at h
  by_cases c2 : startsV (rn t 0) = true
  · rw [if_pos c2] at h
    unfold nameT at h
    injection h with h1 h2
    have hn : n ≤ t.size := by rw [← h2]; exact endGo_le t _ _
    have hg := starts_goes c2
    have hw := wd_pos t 0 h0
    have hw2 := wd_le t 0 h0
    have e0 : endV t = endGo t t.size (wd t 0) := by
      unfold endV; rw [endGo.eq_def]; simp only [if_pos h0, if_pos hg, Nat.zero_add]
    have hge := end_ge t t.size (wd t 0) (by omega)
    have hn1 : wd t 0 ≤ n := by omega
    have P := pre_ext t n hn
    have hs := (at_ext t n hn).2
    have r0 := P.dec (i := 0) (by omega) (goes_rn hg) (by omega)
    have hx0 : 0 < (t.extract 0 n).size := by omega
    have c3 : classV (rn t 0) ≠ 3 := by
      intro e
      unfold startsV at c2; rw [e] at c2; simp at c2
    have hend : endV (t.extract 0 n) = n := by
      have := end_pre P (t.size + 1) ((t.extract 0 n).size + 1) 0 (by omega) (by omega) (by omega) (by rw [hs]; exact h2)
      rw [hs] at this; unfold endV; rw [hs]; exact this
    refine ⟨by omega, hn, ?_, ?_, ?_, ?_, c3, r0.1⟩
    · unfold tokV nameT
      rw [r0.1, if_neg c1, if_pos c2, hend]
      have e5 : (t.extract 0 n).extract 0 n = t.extract 0 n := by have := ext_all (t.extract 0 n); rwa [hs] at this
      have e6 : upperV (t.extract 0 n) = upperV t := by unfold upperV; rw [if_pos h0, if_pos hx0, r0.1]
      rw [e5, e6, ← h1, h2]
    · rw [← h1]; repeat' split
      all_goals decide
    · rw [← h1]; repeat' split
      all_goals decide
    · intro hk1
      rw [← h1] at hk1
      split at hk1
      · cases hk1
      · split at hk1 <;> cases hk1
  rw [if_neg c2] at h
  by_cases c3 : 1 < t.size ∧ (two t 0 58 61 = true ∨ two t 0 45 62 = true)
  · rw [if_pos c3] at h
    injection h with h1 h2
    subst h1 h2
    have P := pre_ext t 2 (by omega)
    have hs := (at_ext t 2 (by omega)).2
    have low : (t.get! 0).toNat < 128 := by
      rcases c3.2 with e | e
      · rw [two_eq t 0 _ _ (by omega)] at e; simp at e; rw [e.1]; decide
      · rw [two_eq t 0 _ _ (by omega)] at e; simp at e; rw [e.1]; decide
    have r0 := rn_pre P (by omega) ((rn_low t 0 h0).2 low)
    have hc : classV (rn t 0) ≠ 3 := by
      rw [(rn_ascii t 0 h0 low).1]
      rcases c3.2 with e | e
      · rw [two_eq t 0 _ _ (by omega)] at e; simp at e; rw [e.1]; decide
      · rw [two_eq t 0 _ _ (by omega)] at e; simp at e; rw [e.1]; decide
    refine ⟨by omega, by omega, ?_, by decide, by decide, fun h => (by cases h), hc, r0.1⟩
    unfold tokV
    rw [r0.1, if_neg c1, if_neg c2, if_pos ⟨by omega, by rw [← P.two 0 58 61 (by omega), ← P.two 0 45 62 (by omega)]; exact c3.2⟩]
  rw [if_neg c3] at h
  by_cases c4 : rn t 0 = 58 ∨ rn t 0 = 62 ∨ classV (rn t 0) ≠ 4
  · rw [if_pos c4] at h
    injection h with h1 h2; exact absurd h1.symm hk
  rw [if_neg c4] at h
  injection h with h1 h2
  subst h1 h2
  have hc4 : classV (rn t 0) = 4 := by
    by_cases e : classV (rn t 0) = 4
    · exact e
    · exact absurd (.inr (.inr e)) c4
  have hm := mark_low (class_mark hc4)
  have P := pre_ext t 1 (by omega)
  have hs := (at_ext t 1 (by omega)).2
  have r0 := rn_pre P (by omega) (by omega)
  refine ⟨by omega, by omega, ?_, by decide, by decide, fun h => (by cases h), by rw [hc4]; decide, r0.1⟩
  unfold tokV
  rw [r0.1, if_neg c1, if_neg c2, if_neg (by omega), if_neg c4]

theorem gapGo_ge (t : ByteArray) : ∀ (f i d r : Nat), gapGo t f i d = some r → i < r ∧ r ≤ t.size := by
  intro f
  induction f with
  | zero => intro i d r h; cases h
  | succ f ih =>
    intro i d r h
    unfold gapGo at h
    split at h
    · split at h
      · have := ih _ _ _ h; omega
      · split at h
        · split at h
          · injection h with h; omega
          · have := ih _ _ _ h; omega
        · have := ih _ _ _ h; omega
    · cases h
theorem gapV_le (t : ByteArray) (h0 : 0 < t.size) (n : Nat) (h : gapV t = some n) : n ≤ t.size := by
  unfold gapV at h
  split at h
  · injection h with h; have := wd_le t 0 h0; omega
  split at h
  · injection h with h; omega
  split at h
  · exact (gapGo_ge t _ _ _ _ h).2
  · injection h with h; omega
/-- no blank, no comment begins it. -/
def Solid (x : ByteArray) : Prop := 0 < x.size ∧ classV (rn x 0) ≠ 3 ∧ (1 < x.size → two x 0 40 42 = false)
theorem gap_solid {x : ByteArray} (h : Solid x) : gapV x = some 0 := by
  unfold gapV
  rw [if_neg h.2.1]
  by_cases h1 : x.size < 2
  · rw [if_pos h1]
  · rw [if_neg h1, h.2.2 (by omega)]; rfl
theorem gap_solid_sp {u x : ByteArray} (h : Solid x) (hs : Sp u x) : gapV u = some 0 := by
  have := hs.lt
  unfold gapV
  rw [hs.rn h.1, if_neg h.2.1, if_neg (by have := h.1; omega)]
  by_cases h1 : 1 < x.size
  · rw [hs.two 0 40 42 (by omega), h.2.2 h1]; rfl
  · rw [hs.two_end 0 40 42 (by have := h.1; omega) (by decide)]; rfl
theorem gapGo_sp {u x : ByteArray} (h : Sp u x) (hu : u.size = x.size + 1) : ∀ (f g i d : Nat), x.size < i + f → x.size + 1 < i + g → gapGo u g i d = gapGo x f i d := by
  intro f
  induction f with
  | zero =>
    intro g i d h1 h2
    cases g with
    | zero => rfl
    | succ g => unfold gapGo; rw [if_neg (by omega)]
  | succ f ih =>
    intro g i d h1 h2
    by_cases hi : i + 1 < x.size
    · obtain ⟨g, rfl⟩ : ∃ q, g = q + 1 := ⟨g - 1, by omega⟩
      simp only [gapGo, if_pos hi, if_pos (show i + 1 < u.size by omega), h.two i 40 42 hi, h.two i 42 41 hi]
      split
      · exact ih _ _ _ (by omega) (by omega)
      split
      · split
        · rfl
        · exact ih _ _ _ (by omega) (by omega)
      · exact ih _ _ _ (by omega) (by omega)
    · have e : gapGo x (f + 1) i d = none := by unfold gapGo; rw [if_neg hi]
      rw [e]
      cases g with
      | zero => rfl
      | succ g =>
        by_cases hi2 : i + 1 < u.size
        · have hx : i + 1 = x.size := by omega
          unfold gapGo
          rw [if_pos hi2, h.two_end i 40 42 hx (by decide), h.two_end i 42 41 hx (by decide)]
          simp only [Bool.false_eq_true, if_false]
          cases g with
          | zero => rfl
          | succ g => unfold gapGo; rw [if_neg (by omega)]
        · unfold gapGo; rw [if_neg hi2]
theorem gap_sp {u x : ByteArray} (h : Sp u x) (hu : u.size = x.size + 1) (h0 : 0 < x.size) : gapV u = gapV x := by
  unfold gapV
  rw [h.rn h0, h.wd h0]
  split
  · rfl
  by_cases h1 : 1 < x.size
  · rw [h.two 0 40 42 (by omega), gapGo_sp h hu (x.size + 1) (u.size + 1) 0 0 (by omega) (by omega), if_neg (show ¬ u.size < 2 by omega), if_neg (show ¬ x.size < 2 by omega)]
  · rw [h.two_end 0 40 42 (by omega) (by decide), if_pos (show x.size < 2 by omega)]
    split <;> rfl
/-- a comment that is closed is closed whatever follows. -/
theorem gapGo_pre {u x : ByteArray} (h : Pre u x) : ∀ (f g i d r : Nat), f ≤ g → gapGo x f i d = some r → gapGo u g i d = some r := by
  intro f
  induction f with
  | zero => intro g i d r _ h1; cases h1
  | succ f ih =>
    intro g i d r hg h1
    obtain ⟨g, rfl⟩ : ∃ q, g = q + 1 := ⟨g - 1, by omega⟩
    have hl := h.le
    by_cases hi : i + 1 < x.size
    · simp only [gapGo, if_pos hi, if_pos (show i + 1 < u.size by omega), h.two i 40 42 hi, h.two i 42 41 hi] at h1 ⊢
      split
      · rename_i c; rw [if_pos c] at h1; exact ih _ _ _ _ (by omega) h1
      · rename_i c; rw [if_neg c] at h1
        split
        · rename_i c2; rw [if_pos c2] at h1
          split
          · rename_i c3; rw [if_pos c3] at h1; exact h1
          · rename_i c3; rw [if_neg c3] at h1; exact ih _ _ _ _ (by omega) h1
        · rename_i c2; rw [if_neg c2] at h1; exact ih _ _ _ _ (by omega) h1
    · unfold gapGo at h1; rw [if_neg hi] at h1; cases h1
-- what a word is
structure TokOK (s : ByteArray) (p : Nat) (x : Tok) : Prop where
  ahead : p ≤ x.2.2.1
  lt : x.2.2.1 < x.2.2.2
  le : x.2.2.2 ≤ s.size
  text : x.2.1 = s.extract x.2.2.1 x.2.2.2
  kind : 1 ≤ x.1 ∧ x.1 ≤ 5
  tok : tokV x.2.1 = (x.1, x.2.2.2 - x.2.2.1)
  solid : Solid x.2.1
  stop : x.1 = 1 → x.2.2.2 < s.size → ¬ (48 ≤ (s.get! x.2.2.2).toNat ∧ (s.get! x.2.2.2).toNat ≤ 57)
theorem TokOK.size {s : ByteArray} {p : Nat} {x : Tok} (h : TokOK s p x) : x.2.1.size = x.2.2.2 - x.2.2.1 := by
  have := h.le; have := h.lt
  rw [h.text, ByteArray.size_extract]; omega
def Toks (s : ByteArray) : Nat → List Tok → Nat → Prop
  | p, [], q => p ≤ q
  | p, x :: l, q => TokOK s p x ∧ Toks s x.2.2.2 l q
theorem Toks.more {s : ByteArray} {q r : Nat} (hr : q ≤ r) : ∀ {l : List Tok} {p : Nat}, Toks s p l q → Toks s p l r := by
  intro l
  induction l with
  | nil => intro p h; exact Nat.le_trans h hr
  | cons x l ih => intro p h; exact ⟨h.1, ih h.2⟩
theorem TokOK.less {s : ByteArray} {p q : Nat} {x : Tok} (h : TokOK s q x) (hp : p ≤ q) : TokOK s p x := ⟨Nat.le_trans hp h.ahead, h.lt, h.le, h.text, h.kind, h.tok, h.solid, h.stop⟩
theorem Toks.app {s : ByteArray} {q : Nat} {x : Tok} (hx : TokOK s q x) : ∀ {l : List Tok} {p : Nat}, Toks s p l q → Toks s p (l ++ [x]) x.2.2.2 := by
  intro l
  induction l with
  | nil => intro p h; exact ⟨hx.less h, Nat.le_refl _⟩
  | cons y l ih => intro p h; exact ⟨h.1, ih h.2⟩
theorem Toks.len {s : ByteArray} {q : Nat} : ∀ {l : List Tok} {p : Nat}, Toks s p l q → p + l.length ≤ q := by
  intro l
  induction l with
  | nil => intro p h; exact h
  | cons x l ih => intro p h; have := ih h.2; have a := h.1.ahead; have b := h.1.lt; simp only [List.length_cons]; omega
theorem Toks.all {s : ByteArray} {q : Nat} : ∀ {l : List Tok} {p : Nat}, Toks s p l q → ∀ x ∈ l, TokOK s 0 x := by
  intro l
  induction l with
  | nil => intro p h x hx; cases hx
  | cons y l ih =>
    intro p h x hx
    rcases List.mem_cons.1 hx with rfl | hx
    · exact h.1.less (Nat.zero_le _)
    · exact ih h.2 x hx
theorem suffix_at (s : ByteArray) (i : Nat) (h : i ≤ s.size) : At s i (s.extract i s.size) ∧ (s.extract i s.size).size = s.size - i := by
  have hs : (s.extract i s.size).size = s.size - i := by rw [ByteArray.size_extract]; omega
  refine ⟨⟨by omega, fun j hj => ?_⟩, hs⟩
  rw [get_eq s _ (by omega), get_eq _ _ hj, ByteArray.getElem_extract]
theorem ext_at {s t : ByteArray} {k a b : Nat} (h : At s k t) (hb : b ≤ t.size) (hab : a ≤ b) : s.extract (k + a) (k + b) = t.extract a b := by
  have hs := h.1
  have l1 : (s.extract (k + a) (k + b)).size = b - a := by rw [ByteArray.size_extract]; omega
  have l2 : (t.extract a b).size = b - a := by rw [ByteArray.size_extract]; omega
  apply ByteArray.ext_getElem
  · rw [l1, l2]
  · intro i h1 h2
    rw [ByteArray.getElem_extract, ByteArray.getElem_extract]
    have := h.2 (a + i) (by omega)
    rw [get_eq s _ (by omega), get_eq t _ (by omega)] at this
    rw [← this]
    congr 1; omega
/-- one word read. -/
theorem tok_ok {s : ByteArray} {i : Nat} (hi : i < s.size) (hg : gapV (s.extract i s.size) = some 0) (hk : (tokV (s.extract i s.size)).1 ≠ 0) :
    TokOK s i ((tokV (s.extract i s.size)).1, s.extract i (i + (tokV (s.extract i s.size)).2), i, i + (tokV (s.extract i s.size)).2) := by
  obtain ⟨A, hs⟩ := suffix_at s i (by omega)
  generalize s.extract i s.size = t at hg hk A hs ⊢
  have h0 : 0 < t.size := by omega
  obtain ⟨p1, p2, p3, p4, p5, p6, p7, p8⟩ := tok_pre (k := (tokV t).1) (n := (tokV t).2) h0 rfl hk
  generalize tokV t = kn at p1 p2 p3 p4 p5 p6 p8 ⊢
  obtain ⟨k, n⟩ := kn
  simp only [] at p1 p2 p3 p4 p5 p6 p8 ⊢
  have ex : s.extract i (i + n) = t.extract 0 n := by have := ext_at A (a := 0) (b := n) p2 (by omega); rwa [Nat.add_zero] at this
  have P := pre_ext t n p2
  have hx := (at_ext t n p2).2
  refine ⟨Nat.le_refl _, by show i < i + n; omega, by show i + n ≤ s.size; omega, rfl, ⟨p4, p5⟩, ?_, ⟨?_, ?_, ?_⟩, ?_⟩
  · show tokV (s.extract i (i + n)) = (k, i + n - i)
    rw [ex, p3]; congr 1; omega
  · show 0 < (s.extract i (i + n)).size
    rw [ex]; omega
  · show classV (rn (s.extract i (i + n)) 0) ≠ 3
    rw [ex, p8]; exact p7
  · show 1 < (s.extract i (i + n)).size → two (s.extract i (i + n)) 0 40 42 = false
    rw [ex, hx]
    intro h1
    rw [← P.two 0 40 42 (by omega)]
    unfold gapV at hg
    rw [if_neg p7, if_neg (by omega)] at hg
    split at hg
    · have := gapGo_ge _ _ _ _ _ hg; omega
    · rename_i c; simpa using c
  · intro hk1 hlt
    have := p6 hk1 (by show n < t.size; have : i + n < s.size := hlt; omega)
    have e := A.2 n (by have : i + n < s.size := hlt; omega)
    show ¬ (48 ≤ (s.get! (i + n)).toNat ∧ (s.get! (i + n)).toNat ≤ 57)
    rw [e]; exact this
/-- what Lex answers. -/
def Ans (s : ByteArray) (r : List Tok × Int × Nat) : Prop := (r.1 = [] ∧ (r.2.1 = 2 ∨ r.2.1 = 3) ∧ r.2.2 ≤ s.size) ∨ (r.2.1 = 0 ∧ r.2.2 = 0 ∧ Toks s 0 r.1 s.size)
theorem lexGo_ans (s : ByteArray) : ∀ (f i : Nat) (l : List Tok), i ≤ s.size → s.size + 1 ≤ i + f → Toks s 0 l i → Ans s (lexGo s f i l) := by
  intro f
  induction f with
  | zero => intro i l h1 h2; omega
  | succ f ih =>
    intro i l h1 h2 h3
    unfold lexGo
    by_cases hi : i < s.size
    · rw [if_pos hi]
      obtain ⟨A, hs⟩ := suffix_at s i (by omega)
      have htok := fun a b => tok_ok (s := s) (i := i) hi a b
      have hgl := gapV_le (s.extract i s.size) (by omega)
      cases hg : gapV (s.extract i s.size) with
      | none => exact .inl ⟨rfl, .inr rfl, h1⟩
      | some n =>
        have := hgl n hg
        simp only []
        by_cases hn : 0 < n
        · rw [if_pos hn]; exact ih _ _ (by omega) (by omega) (h3.more (by omega))
        · rw [if_neg hn]
          obtain rfl : n = 0 := by omega
          by_cases hk : (tokV (s.extract i s.size)).1 = 0
          · rw [if_pos hk]; exact .inl ⟨rfl, .inr rfl, h1⟩
          · rw [if_neg hk]
            split
            · exact .inl ⟨rfl, .inl rfl, h1⟩
            · have T := htok hg hk
              have a := T.lt
              have b := T.le
              refine ih _ _ b (by simp only [] at a; omega) ?_
              exact Toks.app T h3
    · rw [if_neg hi]
      obtain rfl : i = s.size := by omega
      exact .inr ⟨rfl, rfl, h3⟩
theorem lex_ans (s : ByteArray) : Ans s (lexV s) := by
  unfold lexV
  split
  · exact .inl ⟨rfl, .inl rfl, Nat.zero_le _⟩
  · exact lexGo_ans s _ 0 [] (Nat.zero_le _) (by omega) (Nat.le_refl 0)
/-- a word by itself. -/
theorem lex_solo {s : ByteArray} {p : Nat} {x : Tok} (h : TokOK s p x) (hs : s.size ≤ 4000) : lexV x.2.1 = ([(x.1, x.2.1, 0, x.2.1.size)], 0, 0) := by
  obtain ⟨k, y, a, b⟩ := x
  have hz := h.size
  have hle := h.le
  have hlt := h.lt
  have ht := h.tok
  have hk := h.kind
  have hsol := h.solid
  simp only [] at hz hle hlt ht hk hsol ⊢
  have h0 : 0 < y.size := by omega
  rw [← hz] at ht
  unfold lexV
  rw [if_neg (by omega)]
  unfold lexGo
  rw [if_pos h0, ext_all, gap_solid hsol]
  simp only []
  rw [if_neg (by omega), ht, if_neg (by simp only []; omega), if_neg (by simp)]
  simp only [Nat.zero_add, List.nil_append]
  rw [ext_all]
  obtain ⟨f, hf⟩ : ∃ f, y.size = f + 1 := ⟨y.size - 1, by omega⟩
  rw [show lexGo y y.size y.size [(k, y, 0, y.size)] = lexGo y (f + 1) y.size [(k, y, 0, y.size)] by rw [← hf]]
  unfold lexGo
  rw [if_neg (by omega)]

/-- from p on A is, for each word of l, a blank and that word. -/
def Rest (A : ByteArray) : Nat → List Tok → Prop
  | p, [] => p = A.size
  | p, x :: l => p < A.size ∧ A.get! p = 32 ∧ At A (p + 1) x.2.1 ∧ Rest A (p + 1 + x.2.1.size) l
theorem get_app (a b : ByteArray) (i : Nat) : (i < a.size → (a ++ b).get! i = a.get! i) ∧ (i < b.size → (a ++ b).get! (a.size + i) = b.get! i) := by
  constructor
  · intro h
    rw [get_eq (a ++ b) i (by rw [ByteArray.size_append]; omega), get_eq a i h, ByteArray.getElem_append_left h]
  · intro h
    rw [get_eq (a ++ b) _ (by rw [ByteArray.size_append]; omega), get_eq b i h, ByteArray.getElem_append_right (by omega)]
    congr 1; omega
theorem at_app (a b : ByteArray) : At (a ++ b) 0 a ∧ At (a ++ b) a.size b := by
  refine ⟨⟨by rw [ByteArray.size_append]; omega, fun j hj => ?_⟩, ⟨by rw [ByteArray.size_append]; exact Nat.le_refl _, fun j hj => (get_app a b j).2 hj⟩⟩
  rw [Nat.zero_add]; exact (get_app a b j).1 hj
theorem At.more {a x : ByteArray} {k : Nat} (b : ByteArray) (h : At a k x) : At (a ++ b) k x := by
  refine ⟨by rw [ByteArray.size_append]; have := h.1; omega, fun j hj => ?_⟩
  rw [(get_app a b (k + j)).1 (by have := h.1; omega)]; exact h.2 j hj
theorem Rest.le {A : ByteArray} : ∀ {l : List Tok} {p : Nat}, Rest A p l → p ≤ A.size := by
  intro l
  cases l with
  | nil => intro p h; exact Nat.le_of_eq h
  | cons x l => intro p h; exact Nat.le_of_lt h.1
def spB : ByteArray := ⟨#[32]⟩
theorem Rest.app {A : ByteArray} {x : Tok} : ∀ {l : List Tok} {p : Nat}, Rest A p l → Rest ((A ++ spB) ++ x.2.1) p (l ++ [x]) := by
  have z : (A ++ spB).size = A.size + 1 := by rw [ByteArray.size_append]; rfl
  intro l
  induction l with
  | nil =>
    intro p h
    have h : p = A.size := h
    subst h
    refine ⟨by rw [ByteArray.size_append, z]; omega, ?_, ?_, ?_⟩
    · rw [(get_app (A ++ spB) x.2.1 A.size).1 (by omega)]
      have := (get_app A spB 0).2 (by decide)
      rw [Nat.add_zero] at this; rw [this]; rfl
    · have := (at_app (A ++ spB) x.2.1).2; rwa [z] at this
    · show _ = _
      rw [ByteArray.size_append, z]
  | cons y l ih =>
    intro p h
    refine ⟨by rw [ByteArray.size_append, z]; have := h.1; omega, ?_, At.more _ (At.more _ h.2.2.1), ih h.2.2.2⟩
    rw [(get_app (A ++ spB) x.2.1 p).1 (by have := h.1; omega), (get_app A spB p).1 h.1]
    exact h.2.1
/-- how the words of l are read again from p on. -/
def again : Nat → List Tok → List Tok
  | _, [] => []
  | p, x :: l => (x.1, x.2.1, p + 1, p + 1 + x.2.1.size) :: again (p + 1 + x.2.1.size) l
theorem again_len : ∀ (l : List Tok) (p : Nat), (again p l).length = l.length := by
  intro l
  induction l with
  | nil => intro p; rfl
  | cons x l ih => intro p; simp [again, ih]
theorem again_get : ∀ (l : List Tok) (p i : Nat), i < l.length → ((again p l).getD i (0, ⟨#[]⟩, 0, 0)).1 = (l.getD i (0, ⟨#[]⟩, 0, 0)).1 ∧ ((again p l).getD i (0, ⟨#[]⟩, 0, 0)).2.1 = (l.getD i (0, ⟨#[]⟩, 0, 0)).2.1 := by
  intro l
  induction l with
  | nil => intro p i h; simp at h
  | cons x l ih =>
    intro p i h
    cases i with
    | zero => exact ⟨rfl, rfl⟩
    | succ i => exact ih _ i (by simp at h; omega)
def Fine (l : List Tok) : Prop := ∀ x ∈ l, 1 ≤ x.1 ∧ x.1 ≤ 5 ∧ tokV x.2.1 = (x.1, x.2.1.size) ∧ Solid x.2.1
theorem Toks.fine {s : ByteArray} {p q : Nat} {l : List Tok} (h : Toks s p l q) : Fine l := fun x hx => by
  have t := h.all x hx
  exact ⟨t.kind.1, t.kind.2, by rw [t.size]; exact t.tok, t.solid⟩
theorem sp_suffix {A x : ByteArray} {p : Nat} (h : At A p x) (hlt : p + x.size < A.size) (hg : A.get! (p + x.size) = 32) : Sp (A.extract p A.size) x := by
  obtain ⟨a, b⟩ := suffix_at A p (by omega)
  refine ⟨⟨by omega, fun j hj => ?_⟩, by omega, ?_⟩
  · rw [Nat.zero_add, ← a.2 j (by omega)]; exact h.2 j hj
  · rw [← a.2 x.size (by omega)]; exact hg
theorem blank_rn {t : ByteArray} (h0 : 0 < t.size) (h : t.get! 0 = 32) : gapV t = some 1 := by
  have e := rn_ascii t 0 h0 (by rw [h]; decide)
  unfold gapV
  rw [e.1, h, e.2]; rfl
theorem lexGo_blank {s : ByteArray} {i : Nat} (f : Nat) (l : List Tok) (hi : i < s.size) (h : s.get! i = 32) : lexGo s (f + 1) i l = lexGo s f (i + 1) l := by
  obtain ⟨A, hs⟩ := suffix_at s i (by omega)
  have e := A.2 0 (by omega)
  rw [Nat.add_zero, h] at e
  have g := blank_rn (t := s.extract i s.size) (by omega) e.symm
  rw [lexGo.eq_def]
  simp only [if_pos hi, g]
  rw [if_pos (by omega)]
theorem lexGo_again (A : ByteArray) : ∀ (l : List Tok) (f p : Nat) (acc : List Tok), Rest A p l → Fine l → acc.length + l.length ≤ 2000 → A.size + 1 ≤ p + f → lexGo A f p acc = (acc ++ again p l, 0, 0) := by
  intro l
  induction l with
  | nil =>
    intro f p acc h1 h2 h3 h4
    have h1 : p = A.size := h1
    cases f with
    | zero => omega
    | succ f => unfold lexGo; rw [if_neg (by omega)]; simp [again]
  | cons x l ih =>
    intro f p acc h1 h2 h3 h4
    obtain ⟨k, y, a, b⟩ := x
    obtain ⟨c1, c2, c3, c4⟩ := h1
    obtain ⟨f1, f2, f3, f4⟩ := h2 (k, y, a, b) (List.mem_cons_self ..)
    simp only [] at c1 c2 c3 c4 f1 f2 f3 f4
    have hy := f4.1
    have hat := c3.1
    obtain ⟨f, rfl⟩ : ∃ q, f = q + 1 := ⟨f - 1, by omega⟩
    rw [lexGo_blank f acc c1 c2]
    obtain ⟨f, rfl⟩ : ∃ q, f = q + 1 := ⟨f - 1, by omega⟩
    have hr : gapV (A.extract (p + 1) A.size) = some 0 ∧ tokV (A.extract (p + 1) A.size) = (k, y.size) := by
      cases l with
      | nil =>
        have e : p + 1 + y.size = A.size := c4
        have : A.extract (p + 1) A.size = y := by
          rw [← e]
          have := ext_at c3 (a := 0) (b := y.size) (Nat.le_refl _) (by omega)
          rw [Nat.add_zero, ext_all] at this; exact this
        rw [this]; exact ⟨gap_solid f4, f3⟩
      | cons z l =>
        have S := sp_suffix c3 c4.1 c4.2.1
        exact ⟨gap_solid_sp f4 S, by rw [tok_sp S hy]; exact f3⟩
    have ex : A.extract (p + 1) (p + 1 + y.size) = y := by
      have := ext_at c3 (a := 0) (b := y.size) (Nat.le_refl _) (by omega)
      rw [Nat.add_zero, ext_all] at this; exact this
    rw [lexGo.eq_def]
    simp only [if_pos (show p + 1 < A.size by omega), hr.1, hr.2]
    rw [if_neg (by omega), if_neg (by omega), if_neg (by simp only [List.length_cons] at h3; omega), ex]
    rw [ih f (p + 1 + y.size) _ c4 (fun z hz => h2 z (List.mem_cons_of_mem _ hz)) (by simp only [List.length_append, List.length_cons, List.length_nil] at h3 ⊢; omega) (by omega)]
    simp [again]
theorem lex_again {A : ByteArray} {l : List Tok} (h1 : Rest A 0 l) (h2 : Fine l) (h3 : l.length ≤ 2000) (h4 : A.size ≤ 4000) : lexV A = (again 0 l, 0, 0) := by
  unfold lexV
  rw [if_neg (by omega), lexGo_again A l _ 0 [] h1 h2 (by simpa using h3) (by omega)]
  rfl
-- blanks ahead and behind
def shift (L : Nat) (l : List Tok) : List Tok := l.map fun x => (x.1, x.2.1, L + x.2.2.1, L + x.2.2.2)
def shiftA (L : Nat) (r : List Tok × Int × Nat) : List Tok × Int × Nat := (shift L r.1, r.2.1, if r.2.1 = 0 then 0 else L + r.2.2)
theorem lexGo_shift {s U : ByteArray} {L : Nat} (hA : At U L s) (hz : U.size = L + s.size + 1) (hb : U.get! (L + s.size) = 32) : ∀ (f g i : Nat) (acc : List Tok), i ≤ s.size → s.size + 1 ≤ i + f → U.size + 1 ≤ L + i + g → lexGo U g (L + i) (shift L acc) = shiftA L (lexGo s f i acc) := by
  intro f
  induction f with
  | zero => intro g i acc h1 h2 h3; omega
  | succ f ih =>
    intro g i acc h1 h2 h3
    obtain ⟨g, rfl⟩ : ∃ q, g = q + 1 := ⟨g - 1, by omega⟩
    by_cases hi : i < s.size
    · obtain ⟨a1, a2⟩ := suffix_at s i (by omega)
      obtain ⟨b1, b2⟩ := suffix_at U (L + i) (by omega)
      have S : Sp (U.extract (L + i) U.size) (s.extract i s.size) := by
        refine ⟨⟨by omega, fun j hj => ?_⟩, by omega, ?_⟩
        · rw [Nat.zero_add, ← b1.2 j (by omega), ← a1.2 j (by omega), Nat.add_assoc]; exact hA.2 _ (by omega)
        · rw [← b1.2 _ (by omega), a2, show L + i + (s.size - i) = L + s.size by omega]; exact hb
      have G := gap_sp S (by omega) (by omega)
      have T := tok_sp S (by omega)
      have hgl := gapV_le (s.extract i s.size) (by omega)
      have tp := tok_pre (t := s.extract i s.size) (k := (tokV (s.extract i s.size)).1) (n := (tokV (s.extract i s.size)).2) (by omega) (by generalize tokV (s.extract i s.size) = q; cases q; rfl)
      rw [lexGo.eq_def U, lexGo.eq_def s]
      simp only [if_pos hi, if_pos (show L + i < U.size by omega), G, T]
      cases hg : gapV (s.extract i s.size) with
      | none => rfl
      | some n =>
        have := hgl n hg
        simp only []
        by_cases hn : 0 < n
        · rw [if_pos hn, if_pos hn, Nat.add_assoc]; exact ih _ _ _ (by omega) (by omega) (by omega)
        · rw [if_neg hn, if_neg hn]
          by_cases hk : (tokV (s.extract i s.size)).1 = 0
          · rw [if_pos hk, if_pos hk]; rfl
          · have tp := tp hk
            rw [if_neg hk, if_neg hk]
            have hl : (shift L acc).length = acc.length := by simp [shift]
            rw [hl]
            by_cases hc : acc.length = 2000
            · rw [if_pos hc, if_pos hc]; rfl
            · rw [if_neg hc, if_neg hc]
              generalize tokV (s.extract i s.size) = kn at tp ⊢
              obtain ⟨k, m⟩ := kn
              simp only [] at tp ⊢
              have ex : U.extract (L + i) (L + i + m) = s.extract i (i + m) := by
                have := ext_at hA (a := i) (b := i + m) (by omega) (by omega)
                rw [← this, Nat.add_assoc]
              rw [ex]
              have := ih g (i + m) (acc ++ [(k, s.extract i (i + m), i, i + m)]) (by omega) (by omega) (by omega)
              rw [← this]
              simp [shift, Nat.add_assoc]
    · obtain rfl : i = s.size := by omega
      rw [lexGo_blank g _ (by omega) hb]
      obtain ⟨g, rfl⟩ : ∃ q, g = q + 1 := ⟨g - 1, by omega⟩
      rw [lexGo.eq_def U, lexGo.eq_def s]
      simp only [if_neg (show ¬ s.size < s.size by omega), if_neg (show ¬ L + s.size + 1 < U.size by omega)]
      rfl
theorem lexGo_blanks {U : ByteArray} : ∀ (n f p : Nat) (acc : List Tok), (∀ j, j < n → p + j < U.size ∧ U.get! (p + j) = 32) → lexGo U (n + f) p acc = lexGo U f (p + n) acc := by
  intro n
  induction n with
  | zero => intro f p acc h; rw [Nat.zero_add, Nat.add_zero]
  | succ n ih =>
    intro f p acc h
    have h0 := h 0 (by omega)
    rw [Nat.add_zero] at h0
    rw [show n + 1 + f = (n + f) + 1 by omega, lexGo_blank (n + f) acc h0.1 h0.2, ih f (p + 1) acc (fun j hj => by have := h (j + 1) (by omega); rw [show p + 1 + j = p + (j + 1) by omega]; exact this)]
    rw [show p + 1 + n = p + (n + 1) by omega]
def remark : ByteArray := ⟨#[40, 42, 32, 120, 32, 40, 42, 32, 42, 41, 32, 42, 41]⟩
theorem remark_gap : gapGo remark 14 0 0 = some 13 ∧ classV (rn remark 0) ≠ 3 := by decide +kernel
theorem lex_blanks {s U : ByteArray} {n : Nat} (hR : At U 0 remark) (hn : ∀ j, j < n → U.get! (13 + j) = 32) (hA : At U (13 + n) s) (hz : U.size = 13 + n + s.size + 1) (hb : U.get! (13 + n + s.size) = 32) (h4 : U.size ≤ 4000) :
    lexV U = shiftA (13 + n) (lexV s) := by
  have P : Pre (U.extract 0 U.size) remark := by rw [ext_all]; exact ⟨hR⟩
  have hz0 : remark.size = 13 := rfl
  have hr : rn U 0 = 40 := by
    have := (rn_ascii U 0 (by omega) (by have := hR.2 0 (by decide); rw [Nat.zero_add] at this; rw [this]; decide)).1
    rw [this]
    have := hR.2 0 (by decide)
    rw [Nat.zero_add] at this; rw [this]; rfl
  have hg : gapV (U.extract 0 U.size) = some 13 := by
    have h2 : two U 0 40 42 = true := by
      have := (Pre.mk hR).two 0 40 42 (by decide)
      rw [this]; decide +kernel
    rw [ext_all]
    unfold gapV
    rw [hr, if_neg (by decide), if_neg (by omega), if_pos h2]
    exact gapGo_pre ⟨hR⟩ 14 _ 0 0 13 (by omega) remark_gap.1
  unfold lexV
  rw [if_neg (by omega), if_neg (by omega), lexGo.eq_def]
  simp only [if_pos (show 0 < U.size by omega), hg]
  rw [if_pos (by omega), Nat.zero_add, show U.size = n + (U.size - n) by omega, lexGo_blanks n (U.size - n) 13 [] (fun j hj => ⟨by omega, hn j hj⟩)]
  exact lexGo_shift hA hz hb (s.size + 1) (U.size - n) 0 [] (by omega) (by omega) (by omega)
end Go.Proofs.YtkimnbdjdhapnaaDoor
