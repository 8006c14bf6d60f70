import Derived.Test.YtcbcceghkgajjaaDoorLmath
import Derived.Test.YtcbcceghkgajjaaDoorChars
import Derived.WalkLawsBesides
import Derived.Handy
import Derived.Lib.Hide
namespace Go.Proofs.YtcbcceghkgajjaaDoor
open Go.ChangeShapes Go.WideShapes Go.ChangeAt Go.RowKit CharsMath
theorem ret_sb {a b : ByteArray} {x y : Bool} (h : a = b) (h2 : x = y) : Ending.returned (.tuple #[.string a, .bool x]) = .returned (.tuple #[.string b, .bool y]) := by rw [h, h2]
/-- what a loop over the lines knows. -/
structure LK (s : ByteArray) (n : Int) (pos L A : Nat) : Prop where
  one : 1 ≤ L
  ls : LS s (L - 1) = some A
  eq : nl s A = nl s pos
  far : n < 1 ∨ (L : Int) ≤ n
theorem LK.hit {s : ByteArray} {n : Int} {pos L A : Nat} (h : LK s n pos L A) (hn : (L : Int) = n) : lineS s n = s.extract A (nl s pos) ∧ lineB s n = true := by
  have := h.one
  have e : lineO s n = some A := by
    unfold lineO; rw [if_pos (by omega), ← h.ls]; congr 1; omega
  rw [← h.eq]; exact line_some e
theorem LK.next {s : ByteArray} {n : Int} {pos L A : Nat} (h : LK s n pos L A) (hp : pos < s.size) (hn : isNl s pos = true) (hne : ¬ (L : Int) = n) : LK s n (pos + 1) (L + 1) (pos + 1) := by
  have h1 := h.one
  have e : nl s A = pos := by rw [h.eq, nl_stop s pos hp hn]
  have := LS_next s _ A h.ls (by omega)
  refine ⟨by omega, ?_, rfl, by have := h.far; omega⟩
  rw [show L + 1 - 1 = L - 1 + 1 from by omega, this, e]
theorem LK.last {s : ByteArray} {n : Int} {pos L A : Nat} (h : LK s n pos L A) (hp : ¬ pos < s.size) (hne : ¬ (L : Int) = n) : lineS s n = ByteArray.empty ∧ lineB s n = false := by
  have h1 := h.one
  refine line_none ?_
  unfold lineO
  by_cases hn : 1 ≤ n
  · rw [if_pos hn]
    have e : ¬ nl s A < s.size := by rw [h.eq, nl_end s pos (by omega)]; exact hp
    exact LS_none s (L - 1 + 1) (LS_last s _ A h.ls e) _ (by have := h.far; omega)
  · rw [if_neg hn]
set_option maxHeartbeats 1000000 in
theorem line_any (s : ByteArray) (n : Int) (w : World) (hs : s.size ≤ 1099511627776) :
    Calls Tryd.prog 11 #[.string s, .int .i64 n] w fun e w' => e = .returned (.tuple #[.string (lineS s n), .bool (lineB s n)]) ∧ Below w.heap.size w w' := by
  go_enter Tryd.func11, Tryd.ntmps11
  go_wp2
  go_loopw [6, 7] (fun l c w' => ∃ (pos L A : Nat), w' = w.iter s pos ∧ l = .int .i64 L ∧ c = .int .i64 A ∧ L ≤ pos + 1 ∧ A ≤ pos ∧ pos ≤ s.size ∧ Hid (LK s n pos L A)) (fun _ _ w' => s.size - w'.iterPos w.heap.size)
  case atStart => exact ⟨0, 1, 0, rfl, rfl, rfl, by omega, by omega, by omega, Lib.hid ⟨by omega, rfl, rfl, by omega⟩⟩
  case round =>
    obtain ⟨pos, L, A, rfl, rfl, rfl, hL, hA, hpl, hk⟩ := hrel
    by_cases hp : pos < s.size
    · have hnx : ∀ ty, (Instr.next (.pointer (some ⟨w.heap.size, 0, none⟩)) true ty).run Tryd.prog (w.iter s pos) = _ := fun ty => run_next_any w s pos ty hp
      have hw1 := wd_pos s pos hp
      have hw2 := wd_le s pos hp
      cases hr : ((((Utf8.decode s pos).1 : Nat) : Int) == 10) with
      | false =>
        have hr' : ¬ rn s pos = 10 := by have := beq_eq_false_iff_ne.1 hr; unfold rn; omega
        have hr2 : ((((Utf8.decode s pos).1 : Nat) : Int) != 10) = true := by rw [bne, hr]; rfl
        have HN := Lib.hid (nl_rune s pos hp hr')
        clear hr'
        go_wp2
        go_roundw
        case rel => exact ⟨pos + wd s pos, L, A, rfl, rfl, rfl, by omega, by omega, by omega, Lib.hid ⟨hk.out.one, hk.out.ls, by rw [hk.out.eq]; exact HN.out, hk.out.far⟩⟩
        case measure => unfold wd at hw1; simp; omega
      | true =>
        have hr' : rn s pos = 10 := by have := beq_iff_eq.1 hr; unfold rn; omega
        have hr2 : ((((Utf8.decode s pos).1 : Nat) : Int) != 10) = false := by rw [bne, hr]; rfl
        have hnl := (isNl_rn s pos hp).2 hr'
        have hwd := wd_ten s pos hp hr'
        have HNL := Lib.hid hnl; clear hnl
        have HST := Lib.hid (nl_stop s pos hp HNL.out)
        have HWD := Lib.hid hwd; clear hwd hr'
        cases hn : ((L : Int) == n) with
        | true =>
          have HH := Lib.hid (hk.out.hit (beq_iff_eq.1 hn))
          go_wp2
          go_ret2
          refine ⟨ret_sb ?_ HH.out.2.symm, below_iter _ _ _⟩
          rw [HH.out.1, HST.out]
        | false =>
          have HNX := Lib.hid (hk.out.next hp HNL.out (beq_eq_false_iff_ne.1 hn))
          go_wp2
          go_roundw
          case rel => exact ⟨pos + wd s pos, L + 1, pos + 1, rfl, by go_num, by go_num, by omega, by omega, by omega, by rw [HWD.out]; exact HNX⟩
          case measure => unfold wd at hw1; simp; omega
    · have hnx : ∀ ty, (Instr.next (.pointer (some ⟨w.heap.size, 0, none⟩)) true ty).run Tryd.prog (w.iter s pos) = _ := fun ty => run_next_end w s pos ty hp
      obtain rfl : pos = s.size := by omega
      clear hp
      cases hn : ((L : Int) == n) with
      | true =>
        have hn2 : ((L : Int) != n) = false := by rw [bne, hn]; rfl
        have HH := Lib.hid (hk.out.hit (beq_iff_eq.1 hn))
        go_wp2
        go_ret2
        refine ⟨ret_sb ?_ HH.out.2.symm, below_iter _ _ _⟩
        rw [HH.out.1, nl_end s s.size (by omega)]
      | false =>
        have hn2 : ((L : Int) != n) = true := by rw [bne, hn]; rfl
        have HH := Lib.hid (hk.out.last (by omega) (beq_eq_false_iff_ne.1 hn))
        go_wp2
        go_ret2
        exact ⟨ret_sb HH.out.1.symm HH.out.2.symm, below_iter _ _ _⟩
theorem isNl_eq (s : ByteArray) (i : Nat) (h : i < s.size) : isNl s i = ((((s[i]'h).toNat : Nat) : Int) == 10) := by
  unfold isNl; rw [get_eq s i h, Bool.eq_iff_iff, beq_iff_eq, beq_iff_eq]; omega
set_option maxHeartbeats 1000000 in
theorem rline_any (s : ByteArray) (n : Int) (w : World) (hs : s.size ≤ 1099511627776) :
    Calls Tryd.prog 16 #[.string s, .int .i64 n] w fun e w' => e = .returned (.tuple #[.string (lineS s n), .bool (lineB s n)]) ∧ Below w.heap.size w w' := by
  go_enter Tryd.func16, Tryd.ntmps16
  go_wp2
  go_loop [6, 7, 8] (fun l c iv => ∃ (i L A : Nat), iv = .int .i64 i ∧ l = .int .i64 L ∧ c = .int .i64 A ∧ L ≤ i + 1 ∧ A ≤ i ∧ i ≤ s.size + 1 ∧ Hid ((i ≤ s.size → LK s n i L A) ∧ (s.size < i → lineS s n = ByteArray.empty ∧ lineB s n = false))) (fun _ _ iv => s.size + 1 - (intOf iv).toNat)
  case atStart => exact ⟨0, 1, 0, rfl, rfl, rfl, by omega, by omega, by omega, Lib.hid ⟨fun _ => ⟨by omega, rfl, rfl, by omega⟩, fun h => by omega⟩⟩
  case round =>
    obtain ⟨i, L, A, rfl, rfl, rfl, hL, hA, hil, hk⟩ := hrel
    by_cases hp : i < s.size
    · have hnle : isNl s i = ((((s[i]'hp).toNat : Nat) : Int) == 10) := isNl_eq s i hp
      have HE := Lib.hid hnle; clear hnle
      have HK := Lib.hid (hk.out.1 (by omega))
      clear hk
      cases hr : ((((s[i]'hp).toNat : Nat) : Int) == 10) with
      | false =>
        have hr2 : ((((s[i]'hp).toNat : Nat) : Int) != 10) = true := by rw [bne, hr]; rfl
        have HN := Lib.hid (nl_step s i hp (HE.out.trans hr))
        go_wp2
        go_round
        case rel => exact ⟨i + 1, L, A, by go_num, rfl, rfl, by omega, by omega, by omega, Lib.hid ⟨fun _ => ⟨HK.out.one, HK.out.ls, by rw [HK.out.eq]; exact HN.out, HK.out.far⟩, fun h => by omega⟩⟩
        case measure => simp [intOf]; omega
      | true =>
        have hr2 : ((((s[i]'hp).toNat : Nat) : Int) != 10) = false := by rw [bne, hr]; rfl
        have HNL := Lib.hid (HE.out.trans hr)
        have HST := Lib.hid (nl_stop s i hp HNL.out)
        cases hn : ((L : Int) == n) with
        | true =>
          have HH := Lib.hid (HK.out.hit (beq_iff_eq.1 hn))
          go_wp2
          go_ret2
          refine ⟨ret_sb ?_ HH.out.2.symm, Below.refl _ _⟩
          rw [HH.out.1, HST.out]
        | false =>
          have HNX := Lib.hid (HK.out.next hp HNL.out (beq_eq_false_iff_ne.1 hn))
          go_wp2
          go_round
          case rel => exact ⟨i + 1, L + 1, i + 1, by go_num, by go_num, by go_num, by omega, by omega, by omega, Lib.hid ⟨fun _ => HNX.out, fun h => by omega⟩⟩
          case measure => simp [intOf]; omega
    · by_cases he : i = s.size
      · subst he
        have HK := Lib.hid (hk.out.1 (by omega))
        clear hk hp
        cases hn : ((L : Int) == n) with
        | true =>
          have HH := Lib.hid (HK.out.hit (beq_iff_eq.1 hn))
          go_wp2
          go_ret2
          refine ⟨ret_sb ?_ HH.out.2.symm, Below.refl _ _⟩
          rw [HH.out.1, nl_end s s.size (by omega)]
        | false =>
          have HNX := Lib.hid (HK.out.last (by omega) (beq_eq_false_iff_ne.1 hn))
          go_wp2
          go_round
          case rel => exact ⟨s.size + 1, L + 1, s.size + 1, by go_num, by go_num, by go_num, by omega, by omega, by omega, Lib.hid ⟨fun h => by omega, fun h => HNX.out⟩⟩
          case measure => simp [intOf]
      · obtain rfl : i = s.size + 1 := by omega
        have HH := Lib.hid (hk.out.2 (by omega))
        clear hk hp he
        go_wp2
        go_ret2
        exact ⟨ret_sb HH.out.1.symm HH.out.2.symm, Below.refl _ _⟩
theorem cntB_tail (s t : ByteArray) (k a : Nat) (h : At s k t) (he : k + t.size = s.size) : ∀ f i, cntB s a f (k + i) = cntB t (a - k) f i := by
  intro f
  induction f with
  | zero => intros; rfl
  | succ f ih =>
    intro i
    by_cases hi : i < t.size
    · simp only [cntB, if_pos hi, if_pos (show k + i < s.size from by omega)]
      rw [show wd s (k + i) = wd t i from by unfold wd; rw [decode_tail s t k i h he], Nat.add_assoc, ih]
      congr 1
      by_cases hh : k + i < a
      · rw [if_pos hh, if_pos (by omega)]
      · rw [if_neg hh, if_neg (by omega)]
    · simp only [cntB, if_neg hi, if_neg (show ¬ k + i < s.size from by omega)]
theorem cntB_le (s : ByteArray) (a : Nat) : ∀ f i, cntB s a f i ≤ f := by
  intro f
  induction f with
  | zero => intros; exact Nat.le_refl _
  | succ f ih => intro i; simp only [cntB]; have := ih (i + wd s i); split <;> (try split) <;> omega
theorem ext_size (s : ByteArray) (a b : Nat) (h : a ≤ b) (hb : b ≤ s.size) : (s.extract a b).size = b - a := by
  rw [ByteArray.size_extract]; omega
theorem ext_get (s : ByteArray) (a b i : Nat) (hb : b ≤ s.size) (hi : a + i < b) : (s.extract a b).get! i = s.get! (a + i) := by
  rw [get_eq _ _ (by rw [ext_size s a b (by omega) hb]; omega), get_eq s (a + i) (by omega)]
  exact ByteArray.getElem_extract ..
theorem ext_at (s : ByteArray) (a b : Nat) (h : a ≤ b) (hb : b ≤ s.size) : At s a (s.extract a b) :=
  ⟨by rw [ext_size s a b h hb]; omega, fun j hj => by rw [ext_size s a b h hb] at hj; exact (ext_get s a b j hb (by omega)).symm⟩
/-- what the two loops of the reference's Pos come to. -/
theorem rpos_eq (s : ByteArray) (a L F : Nat) (ha : a ≤ s.size) (hL : 1 ≤ L) (h : LS s (L - 1) = some F) (h1 : F ≤ a) (h2 : a ≤ nl s F) :
    posGo s a s.size 0 1 1 = (L, 1 + cntB (s.extract F s.size) (a - F) (s.extract F s.size).size 0) := by
  obtain ⟨m, b, g1, g2, g3, g4⟩ := pos_is s a ha
  obtain ⟨e1, e2⟩ := LS_one s _ _ _ _ a h g1 h1 h2 g3 g4
  subst e2
  rw [g2]
  have := cntB_tail s (s.extract F s.size) F a (ext_at s F s.size (by omega) (by omega)) (by rw [ext_size s F s.size (by omega) (by omega)]; omega) s.size 0
  rw [show F + 0 = F from rfl] at this
  rw [this, cntB_fuel (s.extract F s.size) (a - F) s.size (s.extract F s.size).size 0 (by rw [ext_size s F s.size (by omega) (by omega)]; omega) (by omega)]
  exact Prod.ext (by simp only; omega) rfl
set_option maxHeartbeats 2000000 in
theorem rpos_in (s : ByteArray) (x : Int) (a : Nat) (w : World) (hs : s.size ≤ 1099511627776) (ha : a ≤ s.size) (hx : x = a) :
    Calls Tryd.prog 15 #[.string s, .int .i64 x] w fun e w' => e = .returned (.tuple #[.int .i64 (posGo s a s.size 0 1 1).1, .int .i64 (posGo s a s.size 0 1 1).2]) ∧ Below w.heap.size w w' := by
  subst hx
  · go_enter Tryd.func15, Tryd.ntmps15
    go_wp2
    go_loop [6, 7, 8] (fun l c iv => ∃ (i L A : Nat), iv = .int .i64 i ∧ l = .int .i64 L ∧ c = .int .i64 A ∧ L ≤ i + 1 ∧ A ≤ i ∧ i ≤ a ∧ Hid (1 ≤ L ∧ LS s (L - 1) = some A ∧ nl s A = nl s i)) (fun _ _ iv => a - (intOf iv).toNat)
    case atStart => exact ⟨0, 1, 0, rfl, rfl, rfl, by omega, by omega, by omega, Lib.hid ⟨by omega, rfl, rfl⟩⟩
    case round =>
      obtain ⟨i, L, A, rfl, rfl, rfl, hL, hA, hil, hk⟩ := hrel
      by_cases hp : i < a
      · have hps : i < s.size := by omega
        have hnle : isNl s i = ((((s[i]'hps).toNat : Nat) : Int) == 10) := isNl_eq s i hps
        have HE := Lib.hid hnle; clear hnle
        cases hr : ((((s[i]'hps).toNat : Nat) : Int) == 10) with
        | false =>
          have HN := Lib.hid (nl_step s i hps (HE.out.trans hr))
          go_wp2
          go_round
          case rel => exact ⟨i + 1, L, A, by go_num, rfl, rfl, by omega, by omega, by omega, Lib.hid ⟨hk.out.1, hk.out.2.1, hk.out.2.2.trans HN.out⟩⟩
          case measure => simp [intOf]; omega
        | true =>
          have HST := Lib.hid (nl_stop s i hps (HE.out.trans hr))
          have HNX : Hid (1 ≤ L + 1 ∧ LS s (L + 1 - 1) = some (i + 1) ∧ nl s (i + 1) = nl s (i + 1)) := Lib.hid ⟨by omega, by
            have e := LS_next s _ A hk.out.2.1 (by rw [hk.out.2.2, HST.out]; exact hps)
            rw [hk.out.2.2, HST.out] at e
            rw [← e]; congr 1; have := hk.out.1; omega, rfl⟩
          go_wp2
          go_round
          case rel => exact ⟨i + 1, L + 1, i + 1, by go_num, by go_num, by go_num, by omega, by omega, by omega, HNX⟩
          case measure => simp [intOf]; omega
      · obtain rfl : a = i := by omega
        clear hp
        have hfin := rpos_eq s a L A ha hk.out.1 hk.out.2.1 hA (by rw [hk.out.2.2]; exact nl_ge s a ha)
        have HF := Lib.hid hfin; clear hfin
        have hts : (s.extract A s.size).size = s.size - A := ext_size s A s.size (by omega) (by omega)
        go_wp2
        obtain ⟨t, ht⟩ : ∃ t, t = s.extract A s.size := ⟨_, rfl⟩
        rw [← ht] at hts HF ⊢
        have HT := Lib.hid ht; clear ht
        have HTS := Lib.hid hts; clear hts
        go_loopw [9] (fun n w' => ∃ (pos f N : Nat), w' = w.iter t pos ∧ n = .int .i64 N ∧ N ≤ pos + 1 ∧ pos ≤ t.size ∧ t.size ≤ s.size ∧ Hid (N + cntB t (a - A) f pos = 1 + cntB t (a - A) t.size 0) ∧ t.size ≤ pos + f) (fun _ w' => t.size - w'.iterPos w.heap.size)
        case atStart => exact ⟨0, t.size, 1, rfl, rfl, by omega, by omega, by rw [HTS.out]; omega, Lib.hid rfl, by omega⟩
        case round =>
          obtain ⟨pos, f, N, rfl, rfl, hN, hpl, hts, hc, hb⟩ := hrel
          by_cases hp : pos < t.size
          · have hnx : ∀ ty, (Instr.next (.pointer (some ⟨w.heap.size, 0, none⟩)) true ty).run Tryd.prog (w.iter t pos) = _ := fun ty => run_next_any w t pos ty hp
            have hw1 := wd_pos t pos hp
            have hw2 := wd_le t pos hp
            obtain ⟨f, rfl⟩ : ∃ g, f = g + 1 := ⟨f - 1, by omega⟩
            have HC : Hid (N + ((if pos < a - A then 1 else 0) + cntB t (a - A) f (pos + wd t pos)) = 1 + cntB t (a - A) t.size 0) := by have := hc.out; simp only [cntB, if_pos hp] at this; exact Lib.hid this
            clear hc
            by_cases hlim : pos < a - A
            · have hlim2 : (A : Int) + pos < (a : Nat) := by omega
              go_wp2
              go_roundw
              case rel => exact ⟨pos + wd t pos, f, N + 1, rfl, by go_num, by omega, by omega, hts, Lib.hid (by have := HC.out; rw [if_pos hlim] at this; omega), by omega⟩
              case measure => unfold wd at hw1; simp; omega
            · have hlim2 : ((a : Nat) : Int) ≤ (A : Int) + pos := by omega
              go_wp2
              go_roundw
              case rel => exact ⟨pos + wd t pos, f, N, rfl, rfl, by omega, by omega, hts, Lib.hid (by have := HC.out; rw [if_neg hlim] at this; omega), by omega⟩
              case measure => unfold wd at hw1; simp; omega
          · have hnx : ∀ ty, (Instr.next (.pointer (some ⟨w.heap.size, 0, none⟩)) true ty).run Tryd.prog (w.iter t pos) = _ := fun ty => run_next_end w t pos ty hp
            have HZ : Hid (N = 1 + cntB t (a - A) t.size 0) := by
              have := hc.out
              have z : cntB t (a - A) f pos = 0 := by cases f with
                | zero => rfl
                | succ f => simp only [cntB, if_neg hp]
              rw [z] at this; exact Lib.hid (by omega)
            clear hc
            go_wp2
            go_ret2
            rw [HF.out, ← HZ.out]
            exact ⟨rfl, below_iter _ _ _⟩
set_option maxHeartbeats 2000000 in
theorem rpos_neg (s : ByteArray) (x : Int) (w : World) (hs : s.size ≤ 1099511627776) (hx : x < 0) :
    Calls Tryd.prog 15 #[.string s, .int .i64 x] w fun e w' => e = .returned (.tuple #[.int .i64 (posGo s 0 s.size 0 1 1).1, .int .i64 (posGo s 0 s.size 0 1 1).2]) ∧ Below w.heap.size w w' := by
  have ha : 0 ≤ s.size := by omega
  · go_enter Tryd.func15, Tryd.ntmps15
    go_wp2
    go_loop [6, 7, 8] (fun l c iv => ∃ (i L A : Nat), iv = .int .i64 i ∧ l = .int .i64 L ∧ c = .int .i64 A ∧ L ≤ i + 1 ∧ A ≤ i ∧ i ≤ 0 ∧ Hid (1 ≤ L ∧ LS s (L - 1) = some A ∧ nl s A = nl s i)) (fun _ _ iv => 0 - (intOf iv).toNat)
    case atStart => exact ⟨0, 1, 0, rfl, rfl, rfl, by omega, by omega, by omega, Lib.hid ⟨by omega, rfl, rfl⟩⟩
    case round =>
      obtain ⟨i, L, A, rfl, rfl, rfl, hL, hA, hil, hk⟩ := hrel
      · obtain rfl : 0 = i := by omega
        have hfin := rpos_eq s 0 L A ha hk.out.1 hk.out.2.1 hA (by rw [hk.out.2.2]; exact nl_ge s 0 ha)
        have HF := Lib.hid hfin; clear hfin
        have hts : (s.extract A s.size).size = s.size - A := ext_size s A s.size (by omega) (by omega)
        go_wp2
        obtain ⟨t, ht⟩ : ∃ t, t = s.extract A s.size := ⟨_, rfl⟩
        rw [← ht] at hts HF ⊢
        have HT := Lib.hid ht; clear ht
        have HTS := Lib.hid hts; clear hts
        go_loopw [9] (fun n w' => ∃ (pos f N : Nat), w' = w.iter t pos ∧ n = .int .i64 N ∧ N ≤ pos + 1 ∧ pos ≤ t.size ∧ t.size ≤ s.size ∧ Hid (N + cntB t (0 - A) f pos = 1 + cntB t (0 - A) t.size 0) ∧ t.size ≤ pos + f) (fun _ w' => t.size - w'.iterPos w.heap.size)
        case atStart => exact ⟨0, t.size, 1, rfl, rfl, by omega, by omega, by rw [HTS.out]; omega, Lib.hid rfl, by omega⟩
        case round =>
          obtain ⟨pos, f, N, rfl, rfl, hN, hpl, hts, hc, hb⟩ := hrel
          by_cases hp : pos < t.size
          · have hnx : ∀ ty, (Instr.next (.pointer (some ⟨w.heap.size, 0, none⟩)) true ty).run Tryd.prog (w.iter t pos) = _ := fun ty => run_next_any w t pos ty hp
            have hw1 := wd_pos t pos hp
            have hw2 := wd_le t pos hp
            obtain ⟨f, rfl⟩ : ∃ g, f = g + 1 := ⟨f - 1, by omega⟩
            have HC : Hid (N + ((if pos < 0 - A then 1 else 0) + cntB t (0 - A) f (pos + wd t pos)) = 1 + cntB t (0 - A) t.size 0) := by have := hc.out; simp only [cntB, if_pos hp] at this; exact Lib.hid this
            clear hc
            by_cases hlim : pos < 0 - A
            · omega
            · have hlim2 : ((0 : Nat) : Int) ≤ (A : Int) + pos := by omega
              go_wp2
              go_roundw
              case rel => exact ⟨pos + wd t pos, f, N, rfl, rfl, by omega, by omega, hts, Lib.hid (by have := HC.out; rw [if_neg hlim] at this; omega), by omega⟩
              case measure => unfold wd at hw1; simp; omega
          · have hnx : ∀ ty, (Instr.next (.pointer (some ⟨w.heap.size, 0, none⟩)) true ty).run Tryd.prog (w.iter t pos) = _ := fun ty => run_next_end w t pos ty hp
            have HZ : Hid (N = 1 + cntB t (0 - A) t.size 0) := by
              have := hc.out
              have z : cntB t (0 - A) f pos = 0 := by cases f with
                | zero => rfl
                | succ f => simp only [cntB, if_neg hp]
              rw [z] at this; exact Lib.hid (by omega)
            clear hc
            go_wp2
            go_ret2
            rw [HF.out, ← HZ.out]
            exact ⟨rfl, below_iter _ _ _⟩
set_option maxHeartbeats 2000000 in
theorem rpos_big (s : ByteArray) (x : Int) (w : World) (hs : s.size ≤ 1099511627776) (hx : (s.size : Int) < x) :
    Calls Tryd.prog 15 #[.string s, .int .i64 x] w fun e w' => e = .returned (.tuple #[.int .i64 (posGo s s.size s.size 0 1 1).1, .int .i64 (posGo s s.size s.size 0 1 1).2]) ∧ Below w.heap.size w w' := by
  have ha : s.size ≤ s.size := by omega
  · go_enter Tryd.func15, Tryd.ntmps15
    go_wp2
    go_loop [6, 7, 8] (fun l c iv => ∃ (i L A : Nat), iv = .int .i64 i ∧ l = .int .i64 L ∧ c = .int .i64 A ∧ L ≤ i + 1 ∧ A ≤ i ∧ i ≤ s.size ∧ Hid (1 ≤ L ∧ LS s (L - 1) = some A ∧ nl s A = nl s i)) (fun _ _ iv => s.size - (intOf iv).toNat)
    case atStart => exact ⟨0, 1, 0, rfl, rfl, rfl, by omega, by omega, by omega, Lib.hid ⟨by omega, rfl, rfl⟩⟩
    case round =>
      obtain ⟨i, L, A, rfl, rfl, rfl, hL, hA, hil, hk⟩ := hrel
      by_cases hp : i < s.size
      · have hps : i < s.size := by omega
        have hnle : isNl s i = ((((s[i]'hps).toNat : Nat) : Int) == 10) := isNl_eq s i hps
        have HE := Lib.hid hnle; clear hnle
        cases hr : ((((s[i]'hps).toNat : Nat) : Int) == 10) with
        | false =>
          have HN := Lib.hid (nl_step s i hps (HE.out.trans hr))
          go_wp2
          go_round
          case rel => exact ⟨i + 1, L, A, by go_num, rfl, rfl, by omega, by omega, by omega, Lib.hid ⟨hk.out.1, hk.out.2.1, hk.out.2.2.trans HN.out⟩⟩
          case measure => simp [intOf]; omega
        | true =>
          have HST := Lib.hid (nl_stop s i hps (HE.out.trans hr))
          have HNX : Hid (1 ≤ L + 1 ∧ LS s (L + 1 - 1) = some (i + 1) ∧ nl s (i + 1) = nl s (i + 1)) := Lib.hid ⟨by omega, by
            have e := LS_next s _ A hk.out.2.1 (by rw [hk.out.2.2, HST.out]; exact hps)
            rw [hk.out.2.2, HST.out] at e
            rw [← e]; congr 1; have := hk.out.1; omega, rfl⟩
          go_wp2
          go_round
          case rel => exact ⟨i + 1, L + 1, i + 1, by go_num, by go_num, by go_num, by omega, by omega, by omega, HNX⟩
          case measure => simp [intOf]; omega
      · obtain rfl : s.size = i := by omega
        clear hp
        have hfin := rpos_eq s s.size L A ha hk.out.1 hk.out.2.1 hA (by rw [hk.out.2.2]; exact nl_ge s s.size ha)
        have HF := Lib.hid hfin; clear hfin
        have hts : (s.extract A s.size).size = s.size - A := ext_size s A s.size (by omega) (by omega)
        go_wp2
        obtain ⟨t, ht⟩ : ∃ t, t = s.extract A s.size := ⟨_, rfl⟩
        rw [← ht] at hts HF ⊢
        have HT := Lib.hid ht; clear ht
        have HTS := Lib.hid hts; clear hts
        go_loopw [9] (fun n w' => ∃ (pos f N : Nat), w' = w.iter t pos ∧ n = .int .i64 N ∧ N ≤ pos + 1 ∧ pos ≤ t.size ∧ t.size ≤ s.size ∧ Hid (N + cntB t (s.size - A) f pos = 1 + cntB t (s.size - A) t.size 0) ∧ t.size ≤ pos + f) (fun _ w' => t.size - w'.iterPos w.heap.size)
        case atStart => exact ⟨0, t.size, 1, rfl, rfl, by omega, by omega, by rw [HTS.out]; omega, Lib.hid rfl, by omega⟩
        case round =>
          obtain ⟨pos, f, N, rfl, rfl, hN, hpl, hts, hc, hb⟩ := hrel
          by_cases hp : pos < t.size
          · have hnx : ∀ ty, (Instr.next (.pointer (some ⟨w.heap.size, 0, none⟩)) true ty).run Tryd.prog (w.iter t pos) = _ := fun ty => run_next_any w t pos ty hp
            have hw1 := wd_pos t pos hp
            have hw2 := wd_le t pos hp
            obtain ⟨f, rfl⟩ : ∃ g, f = g + 1 := ⟨f - 1, by omega⟩
            have HC : Hid (N + ((if pos < s.size - A then 1 else 0) + cntB t (s.size - A) f (pos + wd t pos)) = 1 + cntB t (s.size - A) t.size 0) := by have := hc.out; simp only [cntB, if_pos hp] at this; exact Lib.hid this
            clear hc
            by_cases hlim : pos < s.size - A
            · have hlim2 : (A : Int) + pos < (s.size : Nat) := by omega
              go_wp2
              go_roundw
              case rel => exact ⟨pos + wd t pos, f, N + 1, rfl, by go_num, by omega, by omega, hts, Lib.hid (by have := HC.out; rw [if_pos hlim] at this; omega), by omega⟩
              case measure => unfold wd at hw1; simp; omega
            · have hlim2 : ((s.size : Nat) : Int) ≤ (A : Int) + pos := by omega
              go_wp2
              go_roundw
              case rel => exact ⟨pos + wd t pos, f, N, rfl, rfl, by omega, by omega, hts, Lib.hid (by have := HC.out; rw [if_neg hlim] at this; omega), by omega⟩
              case measure => unfold wd at hw1; simp; omega
          · have hnx : ∀ ty, (Instr.next (.pointer (some ⟨w.heap.size, 0, none⟩)) true ty).run Tryd.prog (w.iter t pos) = _ := fun ty => run_next_end w t pos ty hp
            have HZ : Hid (N = 1 + cntB t (s.size - A) t.size 0) := by
              have := hc.out
              have z : cntB t (s.size - A) f pos = 0 := by cases f with
                | zero => rfl
                | succ f => simp only [cntB, if_neg hp]
              rw [z] at this; exact Lib.hid (by omega)
            clear hc
            go_wp2
            go_ret2
            rw [HF.out, ← HZ.out]
            exact ⟨rfl, below_iter _ _ _⟩
theorem rpos_any (s : ByteArray) (x : Int) (a : Nat) (w : World) (hs : s.size ≤ 1099511627776) (ha : a ≤ s.size) (hx : x = a ∨ (x < 0 ∧ a = 0) ∨ ((s.size : Int) < x ∧ a = s.size)) :
    Calls Tryd.prog 15 #[.string s, .int .i64 x] w fun e w' => e = .returned (.tuple #[.int .i64 (posGo s a s.size 0 1 1).1, .int .i64 (posGo s a s.size 0 1 1).2]) ∧ Below w.heap.size w w' := by
  rcases hx with rfl | ⟨hx, rfl⟩ | ⟨hx, rfl⟩
  · exact rpos_in s _ a w hs ha rfl
  · exact rpos_neg s x w hs hx
  · exact rpos_big s x w hs hx
end Go.Proofs.YtcbcceghkgajjaaDoor
