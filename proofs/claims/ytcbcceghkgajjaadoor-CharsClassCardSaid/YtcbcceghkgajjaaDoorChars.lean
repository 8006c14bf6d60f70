import Derived.Test.YtcbcceghkgajjaaDoorRows
import Derived.Test.YtcbcceghkgajjaaDoorMath
import Derived.WalkKit
import Derived.WalkLawsBesides
import Derived.Handy
import Derived.ProofKit
import Derived.OpenShut
import Derived.Lib.Hide
namespace Go.Proofs.YtcbcceghkgajjaaDoor
open Go.ChangeShapes Go.WideShapes Go.ChangeAt Go.RowKit CharsMath

theorem below_iter (w : World) (s : ByteArray) (p : Nat) : Below w.heap.size w (w.iter s p) := (Below.refl _ _).alloc (Nat.le_refl _) _
set_option maxHeartbeats 400000 in
theorem runes_any (s : ByteArray) (w : World) (hs : s.size ≤ maxLen) : Calls Tryd.prog 14 #[.string s] w fun e w' => e = .returned (.int .i64 (runes s)) ∧ Below w.heap.size w w' := by
  unfold maxLen at hs
  go_enter Tryd.func14, Tryd.ntmps14
  go_wp2
  go_loopw [3] (fun n w' => ∃ (pos f N : Nat), w' = w.iter s pos ∧ n = .int .i64 N ∧ N ≤ pos ∧ pos ≤ s.size ∧ runesGo s f pos N = runes s ∧ s.size ≤ pos + f) (fun _ w' => s.size - w'.iterPos w.heap.size)
  case atStart => exact ⟨0, s.size, 0, rfl, rfl, by omega, by omega, rfl, by omega⟩
  case round =>
    obtain ⟨pos, f, N, rfl, rfl, hN, hpl, hc, hb⟩ := hrel
    have HC := Lib.hid hc; clear hc
    by_cases hp : pos < s.size
    · have hnx : ∀ ty, (Instr.next (.pointer (some ⟨w.heap.size, 0, none⟩)) true ty).run Tryd.prog (w.iter s pos) = _ := fun ty => run_next_any w s pos ty hp
      have hw1 := wd_pos s pos hp
      have hw2 := wd_le s pos hp
      go_wp2
      go_roundw
      case rel =>
        obtain ⟨f, rfl⟩ : ∃ g, f = g + 1 := ⟨f - 1, by omega⟩
        refine ⟨pos + wd s pos, f, N + 1, rfl, by go_num, by omega, by omega, ?_, by omega⟩
        rw [← HC.out]
        simp only [runesGo, if_pos hp]
      case measure =>
        unfold wd at hw1
        simp
        omega
    · have hnx : ∀ ty, (Instr.next (.pointer (some ⟨w.heap.size, 0, none⟩)) true ty).run Tryd.prog (w.iter s pos) = _ := fun ty => run_next_end w s pos ty hp
      go_wp2
      go_ret
      have := HC.out
      rw [runesGo_stop _ _ _ _ hp] at this
      subst this
      exact ⟨rfl, below_iter _ _ _⟩

set_option maxHeartbeats 400000 in
theorem pos_any (s : ByteArray) (x : Int) (a : Nat) (w : World) (hs : s.size ≤ 1099511627776) (ha : a ≤ s.size) (hx : x = a ∨ (x < 0 ∧ a = 0) ∨ ((s.size : Int) < x ∧ a = s.size)) :
    Calls Tryd.prog 10 #[.string s, .int .i64 x] w fun e w' => e = .returned (.tuple #[.int .i64 (posGo s a s.size 0 1 1).1, .int .i64 (posGo s a s.size 0 1 1).2]) ∧ Below w.heap.size w w' := by
  rcases hx with rfl | ⟨hx, rfl⟩ | ⟨hx, rfl⟩
  · go_enter Tryd.func10, Tryd.ntmps10
    go_wp2
    go_loopw [4, 5] (fun l c w' => ∃ (pos f L C : Nat), w' = w.iter s pos ∧ l = .int .i64 L ∧ c = .int .i64 C ∧ L ≤ pos + 1 ∧ C ≤ pos + 1 ∧ pos ≤ s.size ∧ posGo s a f pos L C = posGo s a s.size 0 1 1 ∧ s.size ≤ pos + f) (fun _ _ w' => s.size - w'.iterPos w.heap.size)
    case atStart => exact ⟨0, s.size, 1, 1, rfl, rfl, rfl, by omega, by omega, by omega, rfl, by omega⟩
    case round =>
      obtain ⟨pos, f, L, C, rfl, rfl, rfl, hL, hC, hpl, hc, hb⟩ := hrel
      have HC := Lib.hid hc; clear hc
      by_cases hp : pos < s.size
      · have hnx : ∀ ty, (Instr.next (.pointer (some ⟨w.heap.size, 0, none⟩)) true ty).run Tryd.prog (w.iter s pos) = _ := fun ty => run_next_any w s pos ty hp
        have hw1 := wd_pos s pos hp
        have hw2 := wd_le s pos hp
        obtain ⟨f, rfl⟩ : ∃ g, f = g + 1 := ⟨f - 1, by omega⟩
        by_cases hge : a ≤ pos
        · have HG := Lib.hid (show posGo s a (f + 1) pos L C = (L, C) from posGo_stop _ _ _ _ _ _ (by omega))
          go_wp2
          go_ret2
          rw [← HC.out, HG.out]
          exact ⟨rfl, below_iter _ _ _⟩
        · have hlt : pos < a := by omega
          cases hr : ((((Utf8.decode s pos).1 : Nat) : Int) == 10) with
          | true =>
            have hr' : rn s pos = 10 := by have := beq_iff_eq.1 hr; unfold rn; omega
            have HG := Lib.hid (show posGo s a (f + 1) pos L C = posGo s a f (pos + wd s pos) (L + 1) 1 from by simp only [posGo]; rw [if_pos ⟨hp, hlt⟩, if_pos hr'])
            clear hge hr'
            go_wp2
            go_roundw
            case rel => exact ⟨pos + wd s pos, f, L + 1, 1, rfl, by go_num, rfl, by omega, by omega, by omega, by rw [← HG.out]; exact HC.out, by omega⟩
            case measure => unfold wd at hw1; simp; omega
          | false =>
            have hr' : ¬ rn s pos = 10 := by have := beq_eq_false_iff_ne.1 hr; unfold rn; omega
            have HG := Lib.hid (show posGo s a (f + 1) pos L C = posGo s a f (pos + wd s pos) L (C + 1) from by simp only [posGo]; rw [if_pos ⟨hp, hlt⟩, if_neg hr'])
            clear hge hr'
            go_wp2
            go_roundw
            case rel => exact ⟨pos + wd s pos, f, L, C + 1, rfl, rfl, by go_num, by omega, by omega, by omega, by rw [← HG.out]; exact HC.out, by omega⟩
            case measure => unfold wd at hw1; simp; omega
      · have hnx : ∀ ty, (Instr.next (.pointer (some ⟨w.heap.size, 0, none⟩)) true ty).run Tryd.prog (w.iter s pos) = _ := fun ty => run_next_end w s pos ty hp
        have HG := Lib.hid (show posGo s a f pos L C = (L, C) from posGo_stop _ _ _ _ _ _ (by omega))
        go_wp2
        go_ret2
        rw [← HC.out, HG.out]
        exact ⟨rfl, below_iter _ _ _⟩
  · go_enter Tryd.func10, Tryd.ntmps10
    go_wp2
    go_loopw [4, 5] (fun l c w' => ∃ (pos f L C : Nat), w' = w.iter s pos ∧ l = .int .i64 L ∧ c = .int .i64 C ∧ L ≤ pos + 1 ∧ C ≤ pos + 1 ∧ pos ≤ s.size ∧ posGo s 0 f pos L C = posGo s 0 s.size 0 1 1 ∧ s.size ≤ pos + f) (fun _ _ w' => s.size - w'.iterPos w.heap.size)
    case atStart => exact ⟨0, s.size, 1, 1, rfl, rfl, rfl, by omega, by omega, by omega, rfl, by omega⟩
    case round =>
      obtain ⟨pos, f, L, C, rfl, rfl, rfl, hL, hC, hpl, hc, hb⟩ := hrel
      have HC := Lib.hid hc; clear hc
      by_cases hp : pos < s.size
      · have hnx : ∀ ty, (Instr.next (.pointer (some ⟨w.heap.size, 0, none⟩)) true ty).run Tryd.prog (w.iter s pos) = _ := fun ty => run_next_any w s pos ty hp
        have hw1 := wd_pos s pos hp
        have hw2 := wd_le s pos hp
        obtain ⟨f, rfl⟩ : ∃ g, f = g + 1 := ⟨f - 1, by omega⟩
        by_cases hge : 0 ≤ pos
        · have HG := Lib.hid (show posGo s 0 (f + 1) pos L C = (L, C) from posGo_stop _ _ _ _ _ _ (by omega))
          go_wp2
          go_ret2
          rw [← HC.out, HG.out]
          exact ⟨rfl, below_iter _ _ _⟩
        · omega
      · have hnx : ∀ ty, (Instr.next (.pointer (some ⟨w.heap.size, 0, none⟩)) true ty).run Tryd.prog (w.iter s pos) = _ := fun ty => run_next_end w s pos ty hp
        have HG := Lib.hid (show posGo s 0 f pos L C = (L, C) from posGo_stop _ _ _ _ _ _ (by omega))
        go_wp2
        go_ret2
        rw [← HC.out, HG.out]
        exact ⟨rfl, below_iter _ _ _⟩
  · go_enter Tryd.func10, Tryd.ntmps10
    go_wp2
    go_loopw [4, 5] (fun l c w' => ∃ (pos f L C : Nat), w' = w.iter s pos ∧ l = .int .i64 L ∧ c = .int .i64 C ∧ L ≤ pos + 1 ∧ C ≤ pos + 1 ∧ pos ≤ s.size ∧ posGo s s.size f pos L C = posGo s s.size s.size 0 1 1 ∧ s.size ≤ pos + f) (fun _ _ w' => s.size - w'.iterPos w.heap.size)
    case atStart => exact ⟨0, s.size, 1, 1, rfl, rfl, rfl, by omega, by omega, by omega, rfl, by omega⟩
    case round =>
      obtain ⟨pos, f, L, C, rfl, rfl, rfl, hL, hC, hpl, hc, hb⟩ := hrel
      have HC := Lib.hid hc; clear hc
      by_cases hp : pos < s.size
      · have hnx : ∀ ty, (Instr.next (.pointer (some ⟨w.heap.size, 0, none⟩)) true ty).run Tryd.prog (w.iter s pos) = _ := fun ty => run_next_any w s pos ty hp
        have hw1 := wd_pos s pos hp
        have hw2 := wd_le s pos hp
        obtain ⟨f, rfl⟩ : ∃ g, f = g + 1 := ⟨f - 1, by omega⟩
        by_cases hge : s.size ≤ pos
        · have HG := Lib.hid (show posGo s s.size (f + 1) pos L C = (L, C) from posGo_stop _ _ _ _ _ _ (by omega))
          go_wp2
          go_ret2
          rw [← HC.out, HG.out]
          exact ⟨rfl, below_iter _ _ _⟩
        · have hlt : pos < s.size := by omega
          cases hr : ((((Utf8.decode s pos).1 : Nat) : Int) == 10) with
          | true =>
            have hr' : rn s pos = 10 := by have := beq_iff_eq.1 hr; unfold rn; omega
            have HG := Lib.hid (show posGo s s.size (f + 1) pos L C = posGo s s.size f (pos + wd s pos) (L + 1) 1 from by simp only [posGo]; rw [if_pos ⟨hp, hlt⟩, if_pos hr'])
            clear hge hr'
            go_wp2
            go_roundw
            case rel => exact ⟨pos + wd s pos, f, L + 1, 1, rfl, by go_num, rfl, by omega, by omega, by omega, by rw [← HG.out]; exact HC.out, by omega⟩
            case measure => unfold wd at hw1; simp; omega
          | false =>
            have hr' : ¬ rn s pos = 10 := by have := beq_eq_false_iff_ne.1 hr; unfold rn; omega
            have HG := Lib.hid (show posGo s s.size (f + 1) pos L C = posGo s s.size f (pos + wd s pos) L (C + 1) from by simp only [posGo]; rw [if_pos ⟨hp, hlt⟩, if_neg hr'])
            clear hge hr'
            go_wp2
            go_roundw
            case rel => exact ⟨pos + wd s pos, f, L, C + 1, rfl, rfl, by go_num, by omega, by omega, by omega, by rw [← HG.out]; exact HC.out, by omega⟩
            case measure => unfold wd at hw1; simp; omega
      · have hnx : ∀ ty, (Instr.next (.pointer (some ⟨w.heap.size, 0, none⟩)) true ty).run Tryd.prog (w.iter s pos) = _ := fun ty => run_next_end w s pos ty hp
        have HG := Lib.hid (show posGo s s.size f pos L C = (L, C) from posGo_stop _ _ _ _ _ _ (by omega))
        go_wp2
        go_ret2
        rw [← HC.out, HG.out]
        exact ⟨rfl, below_iter _ _ _⟩
theorem class_a (w : World) (h : w.cell? ⟨0, 97, none⟩ = some (.int .u8 192)) : Calls Tryd.prog 12 #[.int .i32 97] w fun e w' => e = .returned (.int .i64 1) ∧ w = w' := by
  have hb : (bits BinOp.and IntKind.u8 192 96 != 0) = true := by decide
  go_enter Tryd.func12, Tryd.ntmps12
  go_wp2
  go_ret
  exact ⟨rfl, rfl⟩
theorem class_p (w : World) : Calls Tryd.prog 12 #[.int .i32 40] w fun e w' => e = .returned (.int .i64 4) ∧ w = w' := by
  go_enter Tryd.func12, Tryd.ntmps12
  go_wp2
  go_ret
  exact ⟨rfl, rfl⟩
def anl : ByteArray := { data := #[97, 10, 98, 99] }
def eax : ByteArray := { data := #[195, 169, 120] }
theorem pos_awake : posGo anl 3 anl.size 0 1 1 = (2, 2) := by decide +kernel
theorem runes_awake : runes eax = 2 := by decide +kernel
theorem awake (w : World) (h0 : 0 < w.heap.size) (h : w.cell? ⟨0, 97, none⟩ = some (.int .u8 192)) : Calls Tryd.prog 9 #[] w fun e w' => e = .returned (.bool true) ∧ Below w.heap.size w w' := by
  have H := Lib.hid h; clear h
  go_enter Tryd.func9, Tryd.ntmps9
  go_wp2_with fail
  refine (pos_any anl 3 3 _ (by decide) (by decide) (.inl rfl)).mono ?_; rintro e w1 ⟨rfl, hb1⟩
  rw [pos_awake]
  have hc1 : w1.cell? ⟨0, 97, none⟩ = some (.int .u8 192) := (hb1.cell (p := ⟨0, 97, none⟩) h0).trans H.out
  have HC1 := Lib.hid hc1; clear hc1
  go_wp2_with fail
  refine (class_a _ HC1.out).mono ?_; rintro e w' ⟨rfl, rfl⟩
  go_wp2_with fail
  refine (class_p _).mono ?_; rintro e w' ⟨rfl, rfl⟩
  go_wp2_with fail
  refine (runes_any eax _ (by decide)).mono ?_; rintro e w2 ⟨rfl, hb2⟩
  rw [runes_awake]
  go_wp2
  go_ret
  exact ⟨rfl, hb1.trans (hb2.mono (by have := hb1.size; omega))⟩
def hP (w : World) : Prop := 0 < w.heap.size ∧ w.cell? ⟨0, 97, none⟩ = some (.int .u8 192)
theorem moves_fact (s : ByteArray) (a : Nat) (ha : a < s.size) :
    if (s.get! a).toNat = 10 then posGo s (a + 1) s.size 0 1 1 = ((posGo s a s.size 0 1 1).1 + 1, 1)
     else posGo s (a + 1) s.size 0 1 1 = posGo s a s.size 0 1 1 ∨ posGo s (a + 1) s.size 0 1 1 = ((posGo s a s.size 0 1 1).1, (posGo s a s.size 0 1 1).2 + 1) :=
  moves s a ha s.size 0 1 1 (by omega) (.inl (by omega))
theorem posGo_bd (s : ByteArray) (a : Nat) : ∀ f i l c, (posGo s a f i l c).1 ≤ l + f ∧ (posGo s a f i l c).2 ≤ max c 1 + f := by
  intro f
  induction f with
  | zero => intro i l c; exact ⟨by simp [posGo], by simp only [posGo]; omega⟩
  | succ f ih =>
    intro i l c
    simp only [posGo]
    split
    · split
      · have := ih (i + wd s i) (l + 1) 1; omega
      · have := ih (i + wd s i) l (c + 1); omega
    · simp only; omega
set_option maxHeartbeats 1000000 in
theorem moves_walk (s : ByteArray) (x : Int) (w : World) (hs : s.size ≤ maxLen) (hw : hP w) :
    Calls Tryd.prog 7 #[.string s, .int .i64 x] w fun e w' => e = .returned (.bool true) ∧ Below w.heap.size w w' := by
  unfold maxLen at hs
  obtain ⟨h0, hc⟩ := hw
  have HC := Lib.hid hc; clear hc
  by_cases hl : (300 : Int) < s.size
  · go_enter Tryd.func7, Tryd.ntmps7
    go_wp2_with fail
    refine (awake _ h0 HC.out).mono ?_; rintro e w1 ⟨rfl, hb1⟩
    go_wp2
    all_goals (go_ret; exact ⟨rfl, hb1⟩)
  have hl' : s.size ≤ 300 := by omega
  clear hl
  by_cases hx : x < 0
  · go_enter Tryd.func7, Tryd.ntmps7
    go_wp2_with fail
    refine (awake _ h0 HC.out).mono ?_; rintro e w1 ⟨rfl, hb1⟩
    go_wp2
    all_goals (go_ret; exact ⟨rfl, hb1⟩)
  obtain ⟨a, rfl⟩ : ∃ a : Nat, x = a := ⟨x.toNat, by omega⟩
  clear hx
  by_cases hg : s.size ≤ a
  · go_enter Tryd.func7, Tryd.ntmps7
    go_wp2_with fail
    refine (awake _ h0 HC.out).mono ?_; rintro e w1 ⟨rfl, hb1⟩
    go_wp2
    all_goals (go_ret; exact ⟨rfl, hb1⟩)
  have ha : a < s.size := by omega
  clear hg
  have hm := moves_fact s a ha
  have hbd := posGo_bd s a s.size 0 1 1
  rw [get_eq s a ha] at hm
  have HM := Lib.hid hm; clear hm
  obtain ⟨p, hp⟩ : ∃ p, p = posGo s a s.size 0 1 1 := ⟨_, rfl⟩
  obtain ⟨q, hq⟩ : ∃ q, q = posGo s (a + 1) s.size 0 1 1 := ⟨_, rfl⟩
  rw [← hp] at hbd
  have HM2 : Hid (if (s[a]'ha).toNat = 10 then q = (p.1 + 1, 1) else q = p ∨ q = (p.1, p.2 + 1)) := by rw [hp, hq]; exact HM
  clear HM
  have HP := Lib.hid hp; clear hp
  have HQ := Lib.hid hq; clear hq
  obtain ⟨p1, p2⟩ := p
  have hbd1 : p1 ≤ 301 := by have := hbd.1; simp only at this; omega
  have hbd2 : p2 ≤ 301 := by have := hbd.2; simp only at this; omega
  clear hbd
  by_cases ht : (s[a]'ha).toNat = 10
  · have hq := HM2.out; rw [if_pos ht] at hq
    subst hq
    have htb : (((s[a]'ha).toNat : Int) == 10) = true := by rw [ht]; rfl
    clear ht HM2
    go_enter Tryd.func7, Tryd.ntmps7
    go_wp2_with fail
    refine (awake _ h0 HC.out).mono ?_; rintro e w1 ⟨rfl, hb1⟩
    go_wp2_with fail
    refine (pos_any s _ a _ (by omega) (by omega) (.inl rfl)).mono ?_; rintro e w2 ⟨rfl, hb2⟩
    rw [← HP.out]
    go_wp2_with fail
    refine (pos_any s _ (a + 1) _ (by omega) (by omega) (.inl (by omega))).mono ?_; rintro e w3 ⟨rfl, hb3⟩
    rw [← HQ.out]
    go_wp2
    go_ret
    exact ⟨rfl, hb1.trans ((hb2.trans (hb3.mono hb2.size)).mono hb1.size)⟩
  · have hq := HM2.out; rw [if_neg ht] at hq
    have htb : (((s[a]'ha).toNat : Int) == 10) = false := by rw [beq_eq_false_iff_ne]; omega
    clear ht HM2
    rcases hq with rfl | rfl
    all_goals
      go_enter Tryd.func7, Tryd.ntmps7
      go_wp2_with fail
      refine (awake _ h0 HC.out).mono ?_; rintro e w1 ⟨rfl, hb1⟩
      go_wp2_with fail
      refine (pos_any s _ a _ (by omega) (by omega) (.inl rfl)).mono ?_; rintro e w2 ⟨rfl, hb2⟩
      rw [← HP.out]
      go_wp2_with fail
      refine (pos_any s _ (a + 1) _ (by omega) (by omega) (.inl (by omega))).mono ?_; rintro e w3 ⟨rfl, hb3⟩
      rw [← HQ.out]
      go_wp2
      all_goals (go_ret; exact ⟨rfl, hb1.trans ((hb2.trans (hb3.mono hb2.size)).mono hb1.size)⟩)
end Go.Proofs.YtcbcceghkgajjaaDoor
