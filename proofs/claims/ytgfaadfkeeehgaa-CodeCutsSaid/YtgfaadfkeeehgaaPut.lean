import Derived.Test.YtgfaadfkeeehgaaAdd
import Derived.WalkSpells
namespace Go.Proofs.Ytgfaadfkeeehgaa
open Go.ChangeShapes Go.WideShapes Go.ChangeAt Go.RowKit
set_option linter.unusedVariables false
/-- a slice of bytes that reads xs: nil, or some address. -/
def Src (w : World) (v : Value) (xs : List Nat) : Prop :=
  (v = .slice none 0 0 ∧ xs = []) ∨ ∃ a c, v = .slice (some a) xs.length c ∧ ∀ j u, (bys xs)[j]? = some u → w.cell? (a.add j) = some u
theorem Src.below {w w' : World} {v : Value} {xs : List Nat} (h : Src w v xs) (hb : Below w.heap.size w w') : Src w' v xs := by
  rcases h with h | ⟨a, c, h1, h2⟩
  · exact .inl h
  · refine .inr ⟨a, c, h1, fun j u hu => ?_⟩
    have := h2 j u hu
    rw [hb.cell (World.block_lt_of_cell? w _ this)]; exact this
theorem Src.of_own {w : World} {base n : Nat} {v : Value} {xs : List Nat} (own : w.ownsRow base 5 1 v n (bys xs)) : Src w v xs := by
  have hl := own.1
  rw [bys_len] at hl
  rcases own.2 with ⟨rfl, h⟩ | ⟨g, cap, cur, rfl, _, _, _, _, _, _⟩
  · left; exact ⟨rfl, List.eq_nil_of_length_eq_zero (by omega)⟩
  · right
    exact ⟨⟨g, 0, none⟩, cap, by rw [show xs.length = n by omega], own.cells (g := g) rfl⟩
theorem own_len {w : World} {base n : Nat} {v : Value} {xs : List Nat} (own : w.ownsRow base 5 1 v n (bys xs)) : n = xs.length := by have := own.1; rw [bys_len] at this; omega
theorem own_mono {w : World} {b b' : Nat} {e : TypeId} {size n : Nat} {v : Value} {xs : List Value} (h : w.ownsRow b' e size v n xs) (hb : b ≤ b') : w.ownsRow b e size v n xs := by
  refine ⟨h.1, ?_⟩
  rcases h.2 with h2 | ⟨g, cap, cur, e1, e2, e3⟩
  · exact .inl h2
  · exact .inr ⟨g, cap, cur, e1, Nat.le_trans hb e2, e3⟩
theorem own_below {w w' : World} {b : Nat} {e : TypeId} {size n : Nat} {v : Value} {xs : List Value} (h : w.ownsRow b e size v n xs) (hb : Below w.heap.size w w') : w'.ownsRow b e size v n xs :=
  h.kept (row := none) ⟨hb.os, hb.tape, hb.output, hb.size, fun i hi _ => hb.block i hi⟩ (by rcases v.ownBlock with _ | q; exact .inl rfl; exact .inr (by simp))
theorem clone_some {w : World} {a : Addr} {c : Nat} {xs : List Nat} (h : ∀ j u, (bys xs)[j]? = some u → w.cell? (a.add j) = some u) (hl : xs.length ≤ 1000000) :
    Calls Try.prog 17 #[.slice (some a) xs.length c] w fun e w' => ∃ v, e = .returned v ∧ w'.ownsRow w.heap.size 5 1 v xs.length (bys xs) ∧ Below w.heap.size w w' := by
  obtain ⟨i0, hi0, hz0, hz1, hz2⟩ := info_parts info5
  have hh : ∀ j u, (bys xs)[j]? = some u → (w.alloc (.cells #[] 5)).cell? (a.add j) = some u := fun j u hu => by
    have := h j u hu
    rw [(below_alloc w (.cells #[] 5)).cell (World.block_lt_of_cell? w _ this)]; exact this
  have H := Lib.hid hh
  have en : ∀ W, (binOp .eql 28 (.slice (some a) xs.length c) (.slice none 0 0)).run Try.prog W = .ok (.bool false) W := fun W => Lib.run_eql_slice_nil W 28 5 (some a) xs.length c 0 0 Try.underlying28
  clear h hh
  go_enter Try.func17, Try.ntmps17
  go_wp2_with (at_builtin; refine wpList_append_own _ rfl (.tmp 5) (.tmp 6) 28 rfl w.heap.size 5 i0 (.int .u8 0) 1 1 Try.underlying28 hi0 hz0 hz1 hz2 rfl (by decide) _ 0 [] rfl (World.ownsRow_lit w #[] 0 (Nat.le_refl _) (by unfold maxLen; omega) rfl) a _ _ (bys xs) rfl (by simp [bys]) H.out (bys_one xs) (by unfold maxLen; omega) (by omega) (by simp) ?_)
  intro v2 w2 own2 gr2 _
  have hb2 : Below w.heap.size w w2 := (below_alloc w (.cells #[] 5)).grown gr2 (by simp) (fun q hq => by simp [Value.ownBlock] at hq; omega)
  have OWN2 := Lib.hid own2; have HB2 := Lib.hid hb2
  clear own2 gr2 hb2
  go_wp2
  go_ret
  exact ⟨_, rfl, by have := OWN2.out; simpa using this, HB2.out⟩
theorem clone_src {w : World} {v : Value} {xs : List Nat} (h : Src w v xs) (hl : xs.length ≤ 1000000) :
    Calls Try.prog 17 #[v] w fun e w' => ∃ v, e = .returned v ∧ w'.ownsRow w.heap.size 5 1 v xs.length (bys xs) ∧ Below w.heap.size w w' := by
  rcases h with ⟨rfl, rfl⟩ | ⟨a, c, rfl, h⟩
  · exact (Try.slices_Clone_nil 0 0 w).mono fun e w' ⟨he, hw⟩ => ⟨_, he, by subst hw; exact World.ownsRow_nil _ _ _ _, by subst hw; exact Below.refl _ _⟩
  · exact clone_some h hl
/-- what Put makes. -/
def putS (o : Int) (a b : Int) : List Nat := if 0 ≤ o ∧ o ≤ 63 then addS o.toNat a b else []
set_option maxRecDepth 100000 in
theorem put_src {w : World} {v : Value} {xs : List Nat} (o a b : Int) (h : Src w v xs) (hl : xs.length ≤ 900000)
    (ha1 : Hid (-9223372036854775808 ≤ a)) (ha2 : Hid (a < 9223372036854775808)) (hb1 : Hid (-9223372036854775808 ≤ b)) (hb2 : Hid (b < 9223372036854775808)) :
    Calls Try.prog 11 #[v, .agg #[.int .i64 o, .int .i64 a, .int .i64 b]] w fun e w' => ∃ v' n', e = .returned v' ∧ w'.ownsRow w.heap.size 5 1 v' n' (bys (xs ++ putS o a b)) ∧ Below w.heap.size w w' := by
  have SRC := Lib.hid (h.below (below_alloc w (.cells #[.int .i64 o, .int .i64 a, .int .i64 b] 24)))
  clear h
  obtain ⟨b00, b01, b02⟩ := box3 w (.int .i64 o) (.int .i64 a) (.int .i64 b) 24
  have B0 := Lib.hid b00; have B1 := Lib.hid b01; have B2 := Lib.hid b02
  clear b00 b01 b02
  have BLT : Hid (w.heap.size < (w.alloc (.cells #[.int .i64 o, .int .i64 a, .int .i64 b] 24)).heap.size) := Lib.hid (by simp)
  have BA := Lib.hid (below_alloc w (.cells #[.int .i64 o, .int .i64 a, .int .i64 b] 24))
  by_cases hg : 0 ≤ o ∧ o ≤ 63
  · have GV : Hid ((decide (0 ≤ o) && decide (o ≤ 63)) = true) := Lib.hid (by simp [hg.1, hg.2])
    obtain ⟨k, rfl⟩ : ∃ k : Nat, o = k := ⟨o.toNat, by omega⟩
    have hk : k < 64 := by omega
    have PS : Hid (putS (k : Int) a b = addS k a b) := Lib.hid (by unfold putS; rw [if_pos hg]; rfl)
    clear hg
    go_enter Try.func11, Try.ntmps11
    go_wp2_with fail
    refine (clone_src SRC.out (by omega)).mono ?_; rintro e w2 ⟨v2, rfl, own2, hb2⟩
    have hb2' := BA.out.trans (hb2.mono BA.out.size)
    have b0 := (hb2.cell (p := ⟨w.heap.size, 0, none⟩) BLT.out).trans B0.out
    have b1 := (hb2.cell (p := ⟨w.heap.size, 1, none⟩) BLT.out).trans B1.out
    have b2 := (hb2.cell (p := ⟨w.heap.size, 2, none⟩) BLT.out).trans B2.out
    have OWN2 := Lib.hid own2; have HB2 := Lib.hid hb2'
    have blt2 : w.heap.size < w2.heap.size := Nat.lt_of_lt_of_le BLT.out hb2.size
    clear own2 hb2 hb2'
    go_wp2_with fail
    refine (good_any _ _ _ _).mono ?_; rintro e w3 ⟨rfl, hb3⟩
    rw [GV.out]
    have b0 := (hb3.cell (p := ⟨w.heap.size, 0, none⟩) blt2).trans b0
    have b1 := (hb3.cell (p := ⟨w.heap.size, 1, none⟩) blt2).trans b1
    have b2 := (hb3.cell (p := ⟨w.heap.size, 2, none⟩) blt2).trans b2
    have own3 : w3.ownsRow w.heap.size 5 1 v2 xs.length (bys xs) := own_mono (own_below OWN2.out hb3) (Nat.le_of_lt BLT.out)
    have OWN3 := Lib.hid own3
    have HB3 := Lib.hid (HB2.out.trans (hb3.mono (Nat.le_of_lt blt2)))
    have hs3 : w.heap.size ≤ w3.heap.size := HB3.out.size
    clear own3 hb3
    go_wp2_with fail
    refine (add_any k a b hk OWN3.out hs3 (by omega) ha1 ha2 hb1 hb2).mono ?_; rintro e w4 ⟨v4, n4, rfl, own4, g4, hn4⟩
    have OWN4 := Lib.hid own4
    have HB4 := Lib.hid (HB3.out.trans (g4.below OWN3.out hs3))
    clear own4 g4
    go_wp2
    go_ret
    exact ⟨_, n4, rfl, by rw [PS.out]; exact OWN4.out, HB4.out⟩
  · have GV : Hid ((decide (0 ≤ o) && decide (o ≤ 63)) = false) := Lib.hid (by
      rcases Classical.em (0 ≤ o) with h | h
      · have : ¬ o ≤ 63 := fun h2 => hg ⟨h, h2⟩
        simp [this]
      · simp [h])
    have PS : Hid (putS o a b = []) := Lib.hid (by unfold putS; rw [if_neg hg])
    clear hg
    go_enter Try.func11, Try.ntmps11
    go_wp2_with fail
    refine (clone_src SRC.out (by omega)).mono ?_; rintro e w2 ⟨v2, rfl, own2, hb2⟩
    have hb2' := BA.out.trans (hb2.mono BA.out.size)
    have b0 := (hb2.cell (p := ⟨w.heap.size, 0, none⟩) BLT.out).trans B0.out
    have b1 := (hb2.cell (p := ⟨w.heap.size, 1, none⟩) BLT.out).trans B1.out
    have b2 := (hb2.cell (p := ⟨w.heap.size, 2, none⟩) BLT.out).trans B2.out
    have OWN2 := Lib.hid own2; have HB2 := Lib.hid hb2'
    have blt2 : w.heap.size < w2.heap.size := Nat.lt_of_lt_of_le BLT.out hb2.size
    clear own2 hb2 hb2'
    go_wp2_with fail
    refine (good_any _ _ _ _).mono ?_; rintro e w3 ⟨rfl, hb3⟩
    rw [GV.out]
    have own3 : w3.ownsRow w.heap.size 5 1 v2 xs.length (bys xs) := own_mono (own_below OWN2.out hb3) (Nat.le_of_lt BLT.out)
    have OWN3 := Lib.hid own3
    have HB3 := Lib.hid (HB2.out.trans (hb3.mono (Nat.le_of_lt blt2)))
    clear own3 hb3
    go_wp2
    go_ret
    exact ⟨_, xs.length, rfl, by rw [PS.out, List.append_nil]; exact OWN3.out, HB3.out⟩
theorem add_nil (w : World) (o : Nat) (a b : Int) (ho : o < 64) (ha1 : Hid (-9223372036854775808 ≤ a)) (ha2 : Hid (a < 9223372036854775808)) (hb1 : Hid (-9223372036854775808 ≤ b)) (hb2 : Hid (b < 9223372036854775808)) :
    Calls Try.prog 18 #[.slice none 0 0, .agg #[.int .i64 o, .int .i64 a, .int .i64 b]] w fun e w' => ∃ A c, e = .returned (.slice A (addS o a b).length c) ∧ Below w.heap.size w w' :=
  (add_any o a b ho (World.ownsRow_nil w w.heap.size 5 1) (Nat.le_refl _) (by omega) ha1 ha2 hb1 hb2 (xs := [])).mono fun e w' ⟨v', n', he, own, g, _⟩ => by
    have hl := own_len own
    rw [List.nil_append] at hl
    have hb := g.below (World.ownsRow_nil w w.heap.size 5 1) (Nat.le_refl _)
    rcases own.2 with ⟨rfl, h⟩ | ⟨g', cap, cur, rfl, _⟩
    · exact ⟨none, 0, by rw [he, ← hl, h], hb⟩
    · exact ⟨_, _, by rw [he, ← hl], hb⟩
set_option maxRecDepth 100000 in
theorem size_any {w : World} (o a b : Int) (ha1 : Hid (-9223372036854775808 ≤ a)) (ha2 : Hid (a < 9223372036854775808)) (hb1 : Hid (-9223372036854775808 ≤ b)) (hb2 : Hid (b < 9223372036854775808)) :
    Calls Try.prog 15 #[.agg #[.int .i64 o, .int .i64 a, .int .i64 b]] w fun e w' => e = .returned (.int .i64 ((putS o a b).length : Nat)) ∧ Below w.heap.size w w' := by
  obtain ⟨b00, b01, b02⟩ := box3 w (.int .i64 o) (.int .i64 a) (.int .i64 b) 24
  have B0 := Lib.hid b00; have B1 := Lib.hid b01; have B2 := Lib.hid b02
  clear b00 b01 b02
  have BLT : Hid (w.heap.size < (w.alloc (.cells #[.int .i64 o, .int .i64 a, .int .i64 b] 24)).heap.size) := Lib.hid (by simp)
  have BA := Lib.hid (below_alloc w (.cells #[.int .i64 o, .int .i64 a, .int .i64 b] 24))
  by_cases hg : 0 ≤ o ∧ o ≤ 63
  · have GV : Hid ((decide (0 ≤ o) && decide (o ≤ 63)) = true) := Lib.hid (by simp [hg.1, hg.2])
    obtain ⟨k, rfl⟩ : ∃ k : Nat, o = k := ⟨o.toNat, by omega⟩
    have hk : k < 64 := by omega
    have PS : Hid (putS (k : Int) a b = addS k a b) := Lib.hid (by unfold putS; rw [if_pos hg]; rfl)
    clear hg
    go_enter Try.func15, Try.ntmps15
    go_wp2_with fail
    refine (good_any _ _ _ _).mono ?_; rintro e w3 ⟨rfl, hb3⟩
    rw [GV.out]
    have b0 := (hb3.cell (p := ⟨w.heap.size, 0, none⟩) BLT.out).trans B0.out
    have b1 := (hb3.cell (p := ⟨w.heap.size, 1, none⟩) BLT.out).trans B1.out
    have b2 := (hb3.cell (p := ⟨w.heap.size, 2, none⟩) BLT.out).trans B2.out
    have HB3 := Lib.hid (bt BA.out hb3)
    clear hb3
    go_wp2_with fail
    refine (add_nil _ k a b hk ha1 ha2 hb1 hb2).mono ?_; rintro e w4 ⟨A, c, rfl, hb4⟩
    have HB4 := Lib.hid (bt HB3.out hb4)
    go_wp2
    go_ret
    exact ⟨by rw [PS.out]; rfl, HB4.out⟩
  · have GV : Hid ((decide (0 ≤ o) && decide (o ≤ 63)) = false) := Lib.hid (by
      rcases Classical.em (0 ≤ o) with h | h
      · have : ¬ o ≤ 63 := fun h2 => hg ⟨h, h2⟩
        simp [this]
      · simp [h])
    have PS : Hid (putS o a b = []) := Lib.hid (by unfold putS; rw [if_neg hg])
    clear hg
    go_enter Try.func15, Try.ntmps15
    go_wp2_with fail
    refine (good_any _ _ _ _).mono ?_; rintro e w3 ⟨rfl, hb3⟩
    rw [GV.out]
    have HB3 := Lib.hid (bt BA.out hb3)
    clear hb3
    go_wp2
    go_ret
    exact ⟨by rw [PS.out]; rfl, HB3.out⟩
end Go.Proofs.Ytgfaadfkeeehgaa
