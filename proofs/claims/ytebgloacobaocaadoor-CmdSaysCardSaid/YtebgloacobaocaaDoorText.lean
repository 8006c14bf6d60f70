import Derived.Test.YtebgloacobaocaaDoorSmall
import Derived.Lib.OthersKept
namespace Go.Proofs.YtebgloacobaocaaDoor
open Go.ChangeShapes Go.WideShapes Go.ChangeAt Go.RowKit Go.Shelf Go.Lib CharsMath
set_option linter.unusedVariables false
/-- the walk over s stands at pos. -/
def It (w wr : World) (s : ByteArray) (pos : Nat) : Prop := Below w.heap.size w wr ∧ wr.heap[w.heap.size]? = some (.stringIter s pos)
theorem It.start (w : World) (s : ByteArray) : It w (w.iter s 0) s 0 := ⟨below_iter w s 0, World.iter_heap w s 0⟩
theorem It.step {w wr w' : World} {s : ByteArray} {pos : Nat} (p' : Nat) (h : It w wr s pos) (hb : Below (wr.iterAt w.heap.size s p').heap.size (wr.iterAt w.heap.size s p') w') : It w w' s p' := by
  have hlt : w.heap.size < wr.heap.size := (Array.getElem?_eq_some_iff.1 h.2).1
  have b1 := below_iterAt h.1 (Nat.le_refl _) s p'
  refine ⟨b1.trans (hb.mono b1.size), (hb.block _ (by rw [iterAt_size]; exact hlt)).trans (iterAt_heap wr _ s pos p' h.2)⟩
theorem It.move {w wr : World} {s : ByteArray} {pos : Nat} (p' : Nat) (h : It w wr s pos) : It w (wr.iterAt w.heap.size s p') s p' := h.step p' (Below.refl _ _)
theorem It.same {w wr w' : World} {s : ByteArray} {pos : Nat} (h : It w wr s pos) (hb : Below wr.heap.size wr w') : It w w' s pos := by
  have hlt : w.heap.size < wr.heap.size := (Array.getElem?_eq_some_iff.1 h.2).1
  exact ⟨h.1.trans (hb.mono h.1.size), (hb.block _ hlt).trans h.2⟩
def shapedGo (s : ByteArray) : Nat → Nat → Bool
  | 0, _ => false
  | f + 1, i => if i < s.size then (if i = 0 ∧ startsV (rn s i) = false then false else if goesV (rn s i) = false then false else shapedGo s f (i + wd s i)) else decide (0 < s.size)
def shapedV (s : ByteArray) : Bool := shapedGo s (s.size + 1) 0
theorem size0 {s : ByteArray} (h : s.size = 0) : s = ⟨#[]⟩ := by
  obtain ⟨d⟩ := s
  have : d.size = 0 := h
  rw [Array.eq_empty_of_size_eq_zero this]
theorem loop_len (s : ByteArray) : ∀ (k i : Nat) (r : List UInt8), k = s.size - i → (ByteArray.toList.loop s i r).length = r.length + k := by
  intro k
  induction k with
  | zero =>
    intro i r h
    rw [ByteArray.toList.loop]
    rw [if_neg (by omega)]
    simp
  | succ k ih =>
    intro i r h
    rw [ByteArray.toList.loop]
    rw [if_pos (by omega), ih (i + 1) _ (by omega)]
    simp; omega
theorem toList_len (s : ByteArray) : s.toList.length = s.size := by
  unfold ByteArray.toList
  rw [loop_len s s.size 0 [] (by omega)]; simp
theorem nonempty_B (s : ByteArray) : (!s.toList.isEmpty) = decide (0 < s.size) := by
  rw [← toList_len]
  cases s.toList <;> simp
set_option maxRecDepth 100000 in
set_option maxHeartbeats 2000000 in
theorem shaped_any (s : ByteArray) (w : World) (hs : s.size ≤ maxLen) (hT : Tabs w) : Calls Tryd.prog 35 #[.string s] w fun e w' => e = .returned (.bool (shapedV s)) ∧ Below w.heap.size w w' := by
  unfold maxLen at hs
  have HT : Hid (Tabs w) := Lib.hid hT
  clear hT
  go_enter Tryd.func35, Tryd.ntmps35
  go_wp2
  go_loopg [3] (s.size + 1) (fun gk _ wr => ∃ (pos f : Nat), Hid (It w wr s pos) ∧ pos ≤ s.size ∧ gk = f + 1 ∧ s.size ≤ pos + f ∧ Hid (shapedGo s (f + 1) pos = shapedV s))
  case atStart => exact ⟨0, s.size, Lib.hid (It.start w s), by omega, rfl, by omega, Lib.hid rfl⟩
  case round =>
    obtain ⟨pos, f, IT, hp, rfl, hf, hc⟩ := hrel
    by_cases hps : pos < s.size
    · have hnx := fun ty => run_next_any_at (P := Tryd.prog) wr w.heap.size s pos ty IT.out.2 hps
      have hw1 := wd_pos s pos hps
      have hw2 := wd_le s pos hps
      have hr := rn_le s pos hps
      obtain ⟨r, hrr⟩ : ∃ r, r = (Utf8.decode s pos).1 := ⟨_, rfl⟩
      obtain ⟨p2, hp2⟩ : ∃ p2, p2 = pos + (Utf8.decode s pos).2 := ⟨_, rfl⟩
      have er : rn s pos = r := hrr.symm
      have ep : pos + wd s pos = p2 := hp2.symm
      rw [← hrr, ← hp2] at hnx
      rw [er] at hr
      have I2 := Lib.hid (IT.out.move p2)
      have HC : Hid ((if pos = 0 ∧ startsV r = false then false else if goesV r = false then false else shapedGo s f p2) = shapedV s) := Lib.hid (by rw [← hc.out, ← er, ← ep]; simp only [shapedGo]; rw [if_pos hps, er])
      have T2 := Lib.hid (HT.out.below I2.out.1)
      have CS := Lib.hid (fun W (hT : Tabs W) => starts_any (r : Int) W (by omega) (by omega) hT)
      have CG := Lib.hid (fun W (hT : Tabs W) => goes_any (r : Int) W (by omega) (by omega) hT)
      have hpl : pos < p2 := by omega
      have hpl2 : p2 ≤ s.size := by omega
      obtain ⟨f, rfl⟩ : ∃ g, f = g + 1 := ⟨f - 1, by omega⟩
      obtain ⟨W2, hW2⟩ : ∃ W2, W2 = wr.iterAt w.heap.size s p2 := ⟨_, rfl⟩
      rw [← hW2] at hnx I2 T2
      clear hrr hp2 er ep IT hc hW2
      by_cases h0 : pos = 0
      · subst h0
        cases hst : startsV r with
        | false =>
          have FV : Hid (shapedV s = false) := Lib.hid (by rw [← HC.out, if_pos ⟨rfl, hst⟩])
          go_wp2_with fail
          refine (CS.out _ T2.out).mono ?_; rintro e w3 ⟨rfl, hb3⟩
          rw [hst]
          have HB : Hid (Below w.heap.size w w3) := Lib.hid (I2.out.same hb3).1
          clear hst hb3
          go_wp2
          go_ret
          exact ⟨by rw [FV.out]; rfl, HB.out⟩
        | true =>
          have HST := Lib.hid hst
          go_wp2_with fail
          refine (CS.out _ T2.out).mono ?_; rintro e w3 ⟨rfl, hb3⟩
          rw [hst]
          have I3 := Lib.hid (I2.out.same hb3)
          have T3 := Lib.hid (T2.out.below hb3)
          clear hst hb3
          cases hgo : goesV r with
          | false =>
            have FV : Hid (shapedV s = false) := Lib.hid (by rw [← HC.out]; rw [if_neg (by rw [HST.out]; simp), if_pos hgo])
            go_wp2_with fail
            refine (CG.out _ T3.out).mono ?_; rintro e w4 ⟨rfl, hb4⟩
            rw [hgo]
            have HB : Hid (Below w.heap.size w w4) := Lib.hid (I3.out.same hb4).1
            clear hgo hb4
            go_wp2
            go_ret
            exact ⟨by rw [FV.out]; rfl, HB.out⟩
          | true =>
            have FV : Hid (shapedGo s (f + 1) p2 = shapedV s) := Lib.hid (by rw [← HC.out]; rw [if_neg (by rw [HST.out]; simp), if_neg (by rw [hgo]; simp)])
            go_wp2_with fail
            refine (CG.out _ T3.out).mono ?_; rintro e w4 ⟨rfl, hb4⟩
            rw [hgo]
            have I4 := Lib.hid (I3.out.same hb4)
            clear hgo hb4 HC
            go_wp2
            go_roundg (f + 1)
            case measure => omega
            case rel => exact ⟨p2, f, I4, hpl2, rfl, by omega, FV⟩
      · have e0 := ne_b (show (pos : Int) ≠ 0 by omega)
        have e0' : (pos == 0) = false := beq_eq_false_iff_ne.2 h0
        have H0 := Lib.hid h0
        clear h0
        cases hgo : goesV r with
        | false =>
          have FV : Hid (shapedV s = false) := Lib.hid (by rw [← HC.out]; rw [if_neg (fun h => H0.out h.1), if_pos hgo])
          go_wp2_with fail
          refine (CG.out _ T2.out).mono ?_; rintro e w4 ⟨rfl, hb4⟩
          rw [hgo]
          have HB : Hid (Below w.heap.size w w4) := Lib.hid (I2.out.same hb4).1
          clear hgo hb4
          go_wp2
          go_ret
          exact ⟨by rw [FV.out]; rfl, HB.out⟩
        | true =>
          have FV : Hid (shapedGo s (f + 1) p2 = shapedV s) := Lib.hid (by rw [← HC.out]; rw [if_neg (fun h => H0.out h.1), if_neg (by rw [hgo]; simp)])
          go_wp2_with fail
          refine (CG.out _ T2.out).mono ?_; rintro e w4 ⟨rfl, hb4⟩
          rw [hgo]
          have I4 := Lib.hid (I2.out.same hb4)
          clear hgo hb4 HC
          go_wp2
          go_roundg (f + 1)
          case measure => omega
          case rel => exact ⟨p2, f, I4, hpl2, rfl, by omega, FV⟩
    · have hnx := fun ty => run_next_end_at (P := Tryd.prog) wr w.heap.size s pos ty IT.out.2 hps
      have FV : Hid (shapedV s = decide (0 < s.size)) := Lib.hid (by
        rw [← hc.out]; simp only [shapedGo]; rw [if_neg hps])
      have HB := Lib.hid IT.out.1
      clear IT hc
      go_wp2
      go_ret
      refine ⟨?_, HB.out⟩
      rw [FV.out, ← nonempty_B]
      rfl
end Go.Proofs.YtebgloacobaocaaDoor
