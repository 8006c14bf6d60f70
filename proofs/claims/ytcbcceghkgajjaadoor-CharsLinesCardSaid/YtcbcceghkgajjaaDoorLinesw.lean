import Derived.Test.YtcbcceghkgajjaaDoorLine
import Derived.Test.YtcbcceghkgajjaaDoorRunes
namespace Go.Proofs.YtcbcceghkgajjaaDoor
open Go.ChangeShapes Go.WideShapes Go.ChangeAt Go.RowKit CharsMath
theorem clampE (x : Int) (n : Nat) : ∃ a : Nat, a ≤ n ∧ (x = a ∨ (x < 0 ∧ a = 0) ∨ ((n : Int) < x ∧ a = n)) := by
  by_cases h : x < 0
  · exact ⟨0, by omega, .inr (.inl ⟨h, rfl⟩)⟩
  · by_cases h2 : (n : Int) < x
    · exact ⟨n, by omega, .inr (.inr ⟨h2, rfl⟩)⟩
    · exact ⟨x.toNat, by omega, .inl (by omega)⟩
/-- two texts with the same bytes are one. -/
theorem ba_ext (a b : ByteArray) (hs : a.size = b.size) (h : ∀ i, i < a.size → a.get! i = b.get! i) : a = b := by
  apply ByteArray.ext
  apply Array.ext
  · exact hs
  · intro i h1 h2
    have := h i h1
    rw [get_eq a i h1, get_eq b i h2] at this
    exact this
theorem ext_all (s : ByteArray) : s.extract 0 s.size = s := by
  apply ba_ext
  · rw [ext_size s 0 s.size (by omega) (by omega)]; omega
  · intro i hi
    rw [ext_size s 0 s.size (by omega) (by omega)] at hi
    rw [ext_get s 0 s.size i (by omega) (by omega), Nat.zero_add]
def lf : ByteArray := { data := #[10] }
theorem ext_join (s : ByteArray) (b c : Nat) (hb : b < s.size) (hc : b + 1 ≤ c) (hcs : c ≤ s.size) (hn : isNl s b = true) : s.extract 0 b ++ lf ++ s.extract (b + 1) c = s.extract 0 c := by
  have z1 : (s.extract 0 b).size = b := by rw [ext_size s 0 b (by omega) (by omega)]; omega
  have z2 : lf.size = 1 := rfl
  have z3 : (s.extract (b + 1) c).size = c - (b + 1) := ext_size s (b + 1) c hc hcs
  have z4 : (s.extract 0 c).size = c := by rw [ext_size s 0 c (by omega) (by omega)]; omega
  have z12 : (s.extract 0 b ++ lf).size = b + 1 := by rw [size_add, z1, z2]
  apply ba_ext
  · rw [size_add, z12, z3, z4]; omega
  · intro i hi
    rw [size_add, z12, z3] at hi
    rw [ext_get s 0 c i hcs (by omega), Nat.zero_add]
    by_cases h1 : i < b + 1
    · rw [get_add_left _ _ i (by omega)]
      by_cases h2 : i < b
      · rw [get_add_left _ _ i (by omega), ext_get s 0 b i (by omega) (by omega), Nat.zero_add]
      · obtain rfl : i = b := by omega
        have := get_add_right (s.extract 0 i) lf 0 (by rw [z2]; omega)
        rw [z1, Nat.add_zero] at this
        rw [this]
        have h10 := beq_iff_eq.1 hn
        apply UInt8.toNat_inj.1
        rw [h10]; rfl
    · have := get_add_right (s.extract 0 b ++ lf) (s.extract (b + 1) c) (i - (b + 1)) (by omega)
      rw [z12, show b + 1 + (i - (b + 1)) = i from by omega] at this
      rw [this, ext_get s (b + 1) c _ hcs (by omega)]
      congr 1; omega
/-- the runes before a place of a line are no more than the line's. -/
theorem cnt_line (s : ByteArray) (a b : Nat) (hb : b ≤ s.size) (ha : a ≤ nl s b) : cntB s a s.size b ≤ runes (s.extract b (nl s b)) := by
  have hl := nl_le s b hb
  have hg := nl_ge s b hb
  obtain ⟨t, ht⟩ : ∃ t, t = s.extract b (nl s b) := ⟨_, rfl⟩
  have hz : t.size = nl s b - b := by rw [ht]; exact ext_size s b (nl s b) hg hl
  have hA : At s b t := by rw [ht]; exact ext_at s b (nl s b) hg hl
  have hx : (s.get! (b + t.size)).toNat < 128 := by
    rw [hz, show b + (nl s b - b) = nl s b from by omega]
    by_cases hh : nl s b < s.size
    · have := beq_iff_eq.1 (nl_ten s b hb hh); omega
    · rw [get_out s _ (by omega)]; omega
  rw [← ht]
  have key : ∀ f g i N, i ≤ t.size → t.size ≤ i + g → cntB s a f (b + i) + N ≤ runesGo t g i N := by
    intro f
    induction f with
    | zero =>
      intro g i N _ _
      have : ∀ g i N, N ≤ runesGo t g i N := by
        intro g
        induction g with
        | zero => intros; exact Nat.le_refl _
        | succ g ih => intro i N; simp only [runesGo]; split; have := ih (i + wd t i) (N + 1); omega; omega
      simp only [cntB]; have := this g i N; omega
    | succ f ih =>
      intro g i N hi hgi
      by_cases h : i < t.size
      · have hw := wd_le t i h
        have hp := wd_pos t i h
        obtain ⟨g, rfl⟩ : ∃ g', g = g' + 1 := ⟨g - 1, by omega⟩
        simp only [cntB, runesGo, if_pos h, if_pos (show b + i < s.size from by have := hA.1; omega)]
        rw [show wd s (b + i) = wd t i from by unfold wd; rw [decode_head s t b i hA h hx], show b + i + wd t i = b + (i + wd t i) from by omega]
        have := ih g (i + wd t i) (N + 1) hw (by omega)
        split <;> omega
      · obtain rfl : i = t.size := by omega
        rw [cntB_zero s a _ _ (by omega), runesGo_stop _ _ _ _ h]; omega
  have := key s.size t.size 0 0 (by omega) (by omega)
  rw [show b + 0 = b from rfl] at this
  unfold runes; omega
/-- what the loop over the lines knows. -/
def GK (s all : ByteArray) (k : Nat) : Prop := (k = 0 ∧ all = ByteArray.empty) ∨ (1 ≤ k ∧ ∃ A, LS s (k - 1) = some A ∧ all = s.extract 0 (nl s A))
theorem GK.last {s all : ByteArray} {k : Nat} (h : GK s all k) (hn : LS s k = none) : all = s := by
  rcases h with ⟨rfl, _⟩ | ⟨hk, A, hA, rfl⟩
  · cases hn
  · have h1 : ¬ nl s A < s.size := fun hh => by have := LS_next s _ A hA hh; rw [show k - 1 + 1 = k from by omega, hn] at this; cases this
    have := nl_le s A (LS_le s _ _ hA)
    rw [show nl s A = s.size from by omega, ext_all]
theorem GK.first {s all : ByteArray} {A : Nat} (h : GK s all 0) (hs : LS s 0 = some A) : GK s (all ++ s.extract A (nl s A)) 1 := by
  rcases h with ⟨_, rfl⟩ | ⟨hk, _⟩
  · simp only [LS, Option.some.injEq] at hs; subst hs
    refine .inr ⟨by omega, 0, rfl, ?_⟩
    exact ByteArray.empty_append
  · omega
theorem GK.next {s all : ByteArray} {k A : Nat} (h : GK s all k) (hk0 : 1 ≤ k) (hs : LS s k = some A) : GK s (all ++ lf ++ s.extract A (nl s A)) (k + 1) := by
  rcases h with ⟨rfl, _⟩ | ⟨hk, B, hB, rfl⟩
  · omega
  · have hl : nl s B < s.size := by
      by_cases hh : nl s B < s.size
      · exact hh
      · have := LS_last s _ B hB hh; rw [show k - 1 + 1 = k from by omega, hs] at this; cases this
    have hA := LS_next s _ B hB hl
    rw [show k - 1 + 1 = k from by omega, hs] at hA
    obtain rfl := Option.some.inj hA
    refine .inr ⟨by omega, _, hs, ?_⟩
    have hle := LS_le s _ _ hs
    exact ext_join s (nl s B) _ hl (nl_ge s _ hle) (nl_le s _ hle) (nl_ten s B (LS_le s _ _ hB) hl)
theorem GK.size {s all : ByteArray} {k : Nat} (h : GK s all k) : all.size ≤ s.size := by
  rcases h with ⟨_, rfl⟩ | ⟨_, A, hA, rfl⟩
  · exact Nat.zero_le _
  · have := nl_le s A (LS_le s _ _ hA); rw [ext_size s 0 _ (by omega) this]; omega
theorem lineO_nat (s : ByteArray) (k : Nat) : lineO s ((k : Int) + 1) = LS s k := by
  unfold lineO; rw [if_pos (by omega)]; congr 1; omega
set_option maxHeartbeats 4000000 in
theorem lines_walk (s : ByteArray) (x : Int) (w : World) (hs : s.size ≤ maxLen) (hw : hP w) :
    Calls Tryd.prog 5 #[.string s, .int .i64 x] w fun e w' => e = .returned (.bool true) ∧ Below w.heap.size w w' := by
  unfold maxLen at hs
  obtain ⟨h0, hc⟩ := hw
  have HC := Lib.hid hc; clear hc
  by_cases hl : (300 : Int) < s.size
  · go_enter Tryd.func5, Tryd.ntmps5
    go_wp2_with fail
    refine (awake _ h0 HC.out).mono ?_; rintro e w1 ⟨rfl, hb1⟩
    go_wp2
    all_goals (go_ret; exact ⟨rfl, hb1⟩)
  have hl' : s.size ≤ 300 := by omega
  clear hl
  obtain ⟨a, ha, hx⟩ := clampE x s.size
  have HX := Lib.hid hx; clear hx
  go_enter Tryd.func5, Tryd.ntmps5
  go_wp2_with fail
  refine (awake _ h0 HC.out).mono ?_; rintro e w1 ⟨rfl, hb1⟩
  go_wp2
  go_loopw [5, 6] (fun v n wr => ∃ (k : Nat) (all : ByteArray), n = .int .i64 ((k : Int) + 1) ∧ v = .string all ∧ k ≤ s.size + 1 ∧ all.size ≤ s.size ∧ Hid (GK s all k) ∧ Below w.heap.size w wr) (fun _ n _ => s.size + 3 - (intOf n).toNat)
  case atStart => exact ⟨0, ByteArray.empty, rfl, rfl, by omega, by exact Nat.zero_le _, Lib.hid (.inl ⟨rfl, rfl⟩), hb1⟩
  case round =>
    obtain ⟨k, all, rfl, rfl, hk, hal, hg, hbr⟩ := hrel
    cases hls : LS s k with
    | none =>
      obtain rfl := hg.out.last hls
      have hLO := line_none ((lineO_nat all k).trans hls)
      have HLO := Lib.hid hLO
      obtain ⟨m, b, g1, g2, g3, g4⟩ := pos_is all a ha
      have hmk : m < k := by
        by_cases hh : m < k
        · exact hh
        · have := LS_none all k hls m (by omega); rw [this] at g1; cases g1
      have HL2 := Lib.hid (line_some ((lineO_nat all m).trans g1))
      have hcl := cnt_line all a b (LS_le all _ _ g1) g4
      have hcb := cntB_le all a all.size b
      have HG2 := Lib.hid g2
      have hrl := runes_le (all.extract b (nl all b))
      have hez : (all.extract b (nl all b)).size ≤ all.size := by rw [ext_size all b _ (nl_ge all b (LS_le all _ _ g1)) (nl_le all b (LS_le all _ _ g1))]; have := nl_le all b (LS_le all _ _ g1); omega
      have HEZ := Lib.hid hez; clear hez
      obtain ⟨t, ht⟩ : ∃ t, t = all.extract b (nl all b) := ⟨_, rfl⟩
      rw [← ht] at hcl hrl HL2 HEZ
      have hrl2 : runes t ≤ all.size := Nat.le_trans hrl HEZ.out
      obtain ⟨c, hc⟩ : ∃ c, c = cntB all a all.size b := ⟨_, rfl⟩
      rw [← hc] at hcl hcb HG2
      have HTT := Lib.hid ht
      have HCC := Lib.hid hc
      clear ht hc hLO g1 g2 g3 g4 hls hg hrl
      go_wp2_with fail
      refine (line_any all _ _ (by omega)).mono ?_; rintro e w2 ⟨rfl, hb2⟩
      rw [HLO.out.1, HLO.out.2]
      go_wp2_with fail
      refine (pos_any all _ a _ (by omega) ha HX.out).mono ?_; rintro e w3 ⟨rfl, hb3⟩
      rw [HG2.out]
      go_wp2_with fail
      refine (line_any all _ _ (by omega)).mono ?_; rintro e w4 ⟨rfl, hb4⟩
      rw [HL2.out.1, HL2.out.2]
      go_wp2_with fail
      refine (runes_any t _ (by have := HEZ.out; unfold maxLen; omega)).mono ?_; rintro e w5 ⟨rfl, hb5⟩
      go_wp2
      go_ret
      exact ⟨by simp; omega, hbr.trans ((hb2.trans ((hb3.trans ((hb4.trans (hb5.mono hb4.size)).mono hb3.size)).mono hb2.size)).mono hbr.size)⟩
    | some A =>
      have hLO := line_some ((lineO_nat s k).trans hls)
      have HLO := Lib.hid hLO
      have hct := LS_count s k A hls
      have hAle := LS_le s k A hls
      have hnle := nl_le s A hAle
      have hnge := nl_ge s A hAle
      obtain ⟨t, ht⟩ : ∃ t, t = s.extract A (nl s A) := ⟨_, rfl⟩
      have hts : t.size ≤ s.size := by rw [ht, ext_size s A _ hnge hnle]; omega
      by_cases hk0 : k = 0
      · subst hk0
        have HN : Hid (GK s (all ++ t) 1) := Lib.hid (by rw [ht]; exact hg.out.first hls)
        rw [← ht] at HLO
        have HL1 : Hid (lineS s 1 = t ∧ lineB s 1 = true) := Lib.hid HLO.out
        have HTT := Lib.hid ht
        clear ht hls hg HLO hnle hnge hLO
        go_wp2_with fail
        refine (line_any s _ _ (by omega)).mono ?_; rintro e w2 ⟨rfl, hb2⟩
        rw [HL1.out.1, HL1.out.2]
        go_wp2
        go_roundw
        case rel => exact ⟨1, all ++ t, rfl, rfl, by omega, HN.out.size, HN, hbr.trans (hb2.mono hbr.size)⟩
        case measure => simp [intOf]
      · have HN : Hid (GK s (all ++ lf ++ t) (k + 1)) := Lib.hid (by rw [ht]; exact hg.out.next (by omega) hls)
        rw [← ht] at HLO
        have HTT := Lib.hid ht
        have hk1 : 1 ≤ k := by omega
        clear ht hls hg hnle hnge hk0 hLO
        go_wp2_with fail
        refine (line_any s _ _ (by omega)).mono ?_; rintro e w2 ⟨rfl, hb2⟩
        rw [HLO.out.1, HLO.out.2]
        go_wp2
        go_roundw
        case rel => exact ⟨k + 1, all ++ lf ++ t, by go_num, rfl, by omega, HN.out.size, HN, hbr.trans (hb2.mono hbr.size)⟩
        case measure => simp [intOf]; omega
end Go.Proofs.YtcbcceghkgajjaaDoor
