import Derived.Test.YtcbcceghkgajjaaDoorChars
import Derived.WalkKit
import Derived.WalkLawsBesides
import Derived.Handy
import Derived.ProofKit
import Derived.OpenShut
import Derived.Lib.Hide
namespace Go.Proofs.YtcbcceghkgajjaaDoor
open Go.ChangeShapes Go.WideShapes Go.ChangeAt Go.RowKit CharsMath

theorem size_add (a b : ByteArray) : (a ++ b).size = a.size + b.size := ByteArray.size_append
theorem get_add_left (a b : ByteArray) (i : Nat) (h : i < a.size) : (a ++ b).get! i = a.get! i := by
  rw [get_eq _ _ (by rw [size_add]; omega), get_eq _ _ h]; exact ByteArray.getElem_append_left h
theorem get_add_right (a b : ByteArray) (i : Nat) (h : i < b.size) : (a ++ b).get! (a.size + i) = b.get! i := by
  rw [get_eq _ _ (by rw [size_add]; omega), get_eq _ _ h]
  rw [ByteArray.getElem_append_right (by omega)]
  congr 1; omega
theorem runes_le (s : ByteArray) : runes s ≤ s.size := by
  have : ∀ f i n, runesGo s f i n ≤ n + f := by
    intro f
    induction f with
    | zero => intro i n; simp [runesGo]
    | succ f ih => intro i n; simp only [runesGo]; split; have := ih (i + wd s i) (n + 1); omega; omega
  have := this s.size 0 0; unfold runes; omega
theorem runes_add (a b : ByteArray) (hx : 0 < b.size → (b.get! 0).toNat < 128) : runes (a ++ b) = runes a + runes b :=
  runes_join (a ++ b) a b ⟨by rw [size_add]; omega, fun j hj => by rw [Nat.zero_add]; exact get_add_left a b j hj⟩ ⟨by rw [size_add]; omega, fun j hj => get_add_right a b j hj⟩ (size_add a b) hx

set_option maxHeartbeats 1000000 in
theorem runes_walk (a b : ByteArray) (w : World) (hs : a.size ≤ maxLen) (ht : b.size ≤ maxLen) (hw : hP w) :
    Calls Tryd.prog 6 #[.string a, .string b] w fun e w' => e = .returned (.bool true) ∧ Below w.heap.size w w' := by
  unfold maxLen at hs ht
  obtain ⟨h0, hc⟩ := hw
  have HC := Lib.hid hc; clear hc
  by_cases hl : (200 : Int) < a.size
  · go_enter Tryd.func6, Tryd.ntmps6
    go_wp2_with fail
    refine (awake _ h0 HC.out).mono ?_; rintro e w1 ⟨rfl, hb1⟩
    go_wp2
    all_goals (go_ret; exact ⟨rfl, hb1⟩)
  by_cases hm : (200 : Int) < b.size
  · have hl' : a.size ≤ 200 := by omega
    clear hl
    go_enter Tryd.func6, Tryd.ntmps6
    go_wp2_with fail
    refine (awake _ h0 HC.out).mono ?_; rintro e w1 ⟨rfl, hb1⟩
    go_wp2
    all_goals (go_ret; exact ⟨rfl, hb1⟩)
  have hl' : a.size ≤ 200 := by omega
  have hm' : b.size ≤ 200 := by omega
  clear hl hm
  go_enter Tryd.func6, Tryd.ntmps6
  go_wp2_with fail
  refine (awake _ h0 HC.out).mono ?_; rintro e w1 ⟨rfl, hb1⟩
  go_wp2
  go_loopw [5] (fun n w' => ∃ (pos f N : Nat), w' = w1.iter a pos ∧ n = .int .i64 N ∧ N ≤ pos ∧ pos ≤ a.size ∧ runesGo a f pos N = runes a ∧ a.size ≤ pos + f) (fun _ w' => a.size - w'.iterPos w1.heap.size)
  case atStart => exact ⟨0, a.size, 0, rfl, rfl, by omega, by omega, rfl, by omega⟩
  case round =>
    obtain ⟨pos, f, N, rfl, rfl, hN, hpl, hc, hb⟩ := hrel
    have HR := Lib.hid hc; clear hc
    by_cases hp : pos < a.size
    · have hnx : ∀ ty, (Instr.next (.pointer (some ⟨w1.heap.size, 0, none⟩)) true ty).run Tryd.prog (w1.iter a pos) = _ := fun ty => run_next_any w1 a pos ty hp
      have hw1 := wd_pos a pos hp
      have hw2 := wd_le a pos hp
      go_wp2
      go_roundw
      case rel =>
        obtain ⟨f, rfl⟩ : ∃ g, f = g + 1 := ⟨f - 1, by omega⟩
        refine ⟨pos + wd a pos, f, N + 1, rfl, by go_num, by omega, by omega, ?_, by omega⟩
        rw [← HR.out]
        simp only [runesGo, if_pos hp]
      case measure =>
        unfold wd at hw1
        simp
        omega
    · have hnx : ∀ ty, (Instr.next (.pointer (some ⟨w1.heap.size, 0, none⟩)) true ty).run Tryd.prog (w1.iter a pos) = _ := fun ty => run_next_end w1 a pos ty hp
      have hN' := HR.out
      rw [runesGo_stop _ _ _ _ hp] at hN'
      subst hN'
      have hbi : Below w.heap.size w (w1.iter a pos) := hb1.trans ((below_iter _ _ _).mono hb1.size)
      have ra := runes_le a
      have rb := runes_le b
      by_cases h128 : ∃ h : 0 < b.size, 128 ≤ (b[0]'h).toNat
      · obtain ⟨hbz, h128⟩ := h128
        have h1 : (128 : Int) ≤ ((b[0]'hbz).toNat : Int) := by omega
        clear h128
        go_wp2_with fail
        refine (runes_any a _ (by unfold maxLen; omega)).mono ?_; rintro e w2 ⟨rfl, hb2⟩
        go_wp2
        all_goals (go_ret; exact ⟨rfl, hbi.trans (hb2.mono hbi.size)⟩)
      · have radd := runes_add a b (fun h => by rw [get_eq b 0 h]; have : ¬ 128 ≤ (b[0]'h).toNat := fun hh => h128 ⟨h, hh⟩; omega)
        have RA := Lib.hid radd; clear radd
        have hsz : (a ++ b).size ≤ maxLen := by rw [size_add]; unfold maxLen; omega
        have HSZ := Lib.hid hsz; clear hsz
        by_cases hbz : 0 < b.size
        · have h1 : decide ((128 : Int) ≤ ((b[0]'hbz).toNat : Int)) = false := by rw [decide_eq_false_iff_not]; have : ¬ 128 ≤ (b[0]'hbz).toNat := fun hh => h128 ⟨hbz, hh⟩; omega
          clear h128
          go_wp2_with fail
          refine (runes_any a _ (by unfold maxLen; omega)).mono ?_; rintro e w2 ⟨rfl, hb2⟩
          go_wp2_with fail
          refine (runes_any (a ++ b) _ HSZ.out).mono ?_; rintro e w3 ⟨rfl, hb3⟩
          rw [RA.out]
          go_wp2_with fail
          refine (runes_any a _ (by unfold maxLen; omega)).mono ?_; rintro e w4 ⟨rfl, hb4⟩
          go_wp2_with fail
          refine (runes_any b _ (by unfold maxLen; omega)).mono ?_; rintro e w5 ⟨rfl, hb5⟩
          go_wp2
          go_ret
          refine ⟨?_, hbi.trans ((hb2.trans ((hb3.trans ((hb4.trans (hb5.mono hb4.size)).mono hb3.size)).mono hb2.size)).mono hbi.size)⟩
          first | rfl | simp
        · have hbz2 : (b.size : Int) ≤ 0 := by omega
          clear h128 hbz
          go_wp2_with fail
          refine (runes_any a _ (by unfold maxLen; omega)).mono ?_; rintro e w2 ⟨rfl, hb2⟩
          go_wp2_with fail
          refine (runes_any (a ++ b) _ HSZ.out).mono ?_; rintro e w3 ⟨rfl, hb3⟩
          rw [RA.out]
          go_wp2_with fail
          refine (runes_any a _ (by unfold maxLen; omega)).mono ?_; rintro e w4 ⟨rfl, hb4⟩
          go_wp2_with fail
          refine (runes_any b _ (by unfold maxLen; omega)).mono ?_; rintro e w5 ⟨rfl, hb5⟩
          go_wp2
          go_ret
          refine ⟨?_, hbi.trans ((hb2.trans ((hb3.trans ((hb4.trans (hb5.mono hb4.size)).mono hb3.size)).mono hb2.size)).mono hbi.size)⟩
          first | rfl | simp
end Go.Proofs.YtcbcceghkgajjaaDoor
