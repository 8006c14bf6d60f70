import Derived.Test.YtkimnbdjdhapnaaDoorLmath
import Derived.Deep.LoopGhost
namespace Go.Proofs.YtkimnbdjdhapnaaDoor
open Go.ChangeShapes Go.WideShapes Go.ChangeAt Go.RowKit Go.Shelf Go.Lib CharsMath
set_option linter.unusedVariables false
theorem dec_any (t : ByteArray) (h0 : 0 < t.size) (w : World) (hT : Tabs w) : Calls Tryd.prog 11 #[.string t] w fun e w' => e = .returned (.tuple #[.int .i32 (rn t 0), .int .i64 (wd t 0)]) ∧ Below w.heap.size w w' := by
  have := Tryd.utf8_DecodeRuneInString t w hT.utf
  have e : Lib.decodeGo t = Utf8.decode t 0 := by unfold Lib.decodeGo; rw [if_neg (by omega)]
  rw [e] at this
  exact this
def gapN (g : Option Nat) : Int := ((g.getD 0 : Nat) : Int)
set_option maxHeartbeats 4000000 in
set_option maxRecDepth 100000 in
theorem gap_any (t : ByteArray) (h0 : 0 < t.size) (w : World) (hs : t.size ≤ 1000000) (hT : Tabs w) : Calls Tryd.prog 9 #[.string t] w fun e w' => e = .returned (.tuple #[.int .i64 (gapN (gapV t)), .bool (gapV t).isSome]) ∧ Below w.heap.size w w' := by
  have HT := Lib.hid hT
  have DE := Lib.hid (fun W (hT : Tabs W) => dec_any t h0 W hT)
  have hr := rn_le t 0 h0
  have hw := wd_le t 0 h0
  obtain ⟨r, hrr⟩ : ∃ r, r = rn t 0 := ⟨_, rfl⟩
  obtain ⟨m, hm⟩ : ∃ m, m = wd t 0 := ⟨_, rfl⟩
  have GV : Hid (gapV t = if classV r = 3 then some m else if t.size < 2 then some 0 else if two t 0 40 42 = true then gapGo t (t.size + 1) 0 0 else some 0) := Lib.hid (by unfold gapV; rw [← hrr, ← hm])
  rw [← hrr] at hr
  rw [← hrr, ← hm] at DE
  rw [← hm] at hw
  have CC := Lib.hid (fun W (hT : Tabs W) => class_any (r : Int) W (by omega) (by omega) hT)
  obtain ⟨cl, hcl⟩ : ∃ cl, cl = classV (r : Int) := ⟨_, rfl⟩
  rw [← hcl] at CC GV
  obtain ⟨G, hG⟩ : ∃ G, G = gapV t := ⟨_, rfl⟩
  rw [← hG] at GV ⊢
  clear hT hrr hm hcl hG
  by_cases h3 : cl = 3
  · subst h3
    have GV2 : Hid (G = some m) := Lib.hid (by rw [GV.out, if_pos rfl])
    clear GV
    go_enter Tryd.func9, Tryd.ntmps9
    go_wp2_with fail
    refine (DE.out _ HT.out).mono ?_; rintro e w1 ⟨rfl, hb1⟩
    have B1 := Lib.hid hb1
    have T1 := Lib.hid (HT.out.below hb1)
    clear hb1
    go_wp2_with fail
    refine (CC.out _ T1.out).mono ?_; rintro e w2 ⟨rfl, hb2⟩
    have B2 := Lib.hid (bt B1.out hb2)
    clear hb2
    go_wp2_with fail
    go_returns
    exact ⟨by rw [GV2.out]; rfl, B2.out⟩
  have ec : (cl == 3) = false := beq_eq_false_iff_ne.2 h3
  have GV3 : Hid (G = if t.size < 2 then some 0 else if two t 0 40 42 = true then gapGo t (t.size + 1) 0 0 else some 0) := Lib.hid (by rw [GV.out, if_neg h3])
  clear GV h3
  by_cases hz : t.size < 2
  · have dz := decide_eq_true (show (t.size : Int) < 2 by omega)
    have GV2 : Hid (G = some 0) := Lib.hid (by rw [GV3.out, if_pos hz])
    clear GV3
    go_enter Tryd.func9, Tryd.ntmps9
    go_wp2_with fail
    refine (DE.out _ HT.out).mono ?_; rintro e w1 ⟨rfl, hb1⟩
    have B1 := Lib.hid hb1
    have T1 := Lib.hid (HT.out.below hb1)
    clear hb1
    go_wp2_with fail
    refine (CC.out _ T1.out).mono ?_; rintro e w2 ⟨rfl, hb2⟩
    have B2 := Lib.hid (bt B1.out hb2)
    clear hb2
    go_wp2_with fail
    go_returns
    exact ⟨by rw [GV2.out]; rfl, B2.out⟩
  have dz := decide_eq_false (show ¬ (t.size : Int) < 2 by omega)
  have z2 : (2 : Int) ≤ (t.size : Int) := by omega
  cases h2 : two t 0 40 42 with
  | false =>
    have hq : ((t.extract 0 2).toList == [40, 42]) = false := h2
    have GV2 : Hid (G = some 0) := Lib.hid (by rw [GV3.out, if_neg hz, h2]; rfl)
    clear GV3 h2
    go_enter Tryd.func9, Tryd.ntmps9
    go_wp2_with fail
    refine (DE.out _ HT.out).mono ?_; rintro e w1 ⟨rfl, hb1⟩
    have B1 := Lib.hid hb1
    have T1 := Lib.hid (HT.out.below hb1)
    clear hb1
    go_wp2_with fail
    refine (CC.out _ T1.out).mono ?_; rintro e w2 ⟨rfl, hb2⟩
    have B2 := Lib.hid (bt B1.out hb2)
    clear hb2
    go_wp2_with fail
    go_returns
    exact ⟨by rw [GV2.out]; rfl, B2.out⟩
  | true =>
    have hq : ((t.extract 0 2).toList == [40, 42]) = true := h2
    have H2 := Lib.hid h2
    have GV2 : Hid (gapGo t (t.size + 1) 0 0 = G) := Lib.hid (by rw [GV3.out, if_neg hz, h2]; rfl)
    clear GV3 h2
    go_enter Tryd.func9, Tryd.ntmps9
    go_wp2_with fail
    refine (DE.out _ HT.out).mono ?_; rintro e w1 ⟨rfl, hb1⟩
    have B1 := Lib.hid hb1
    have T1 := Lib.hid (HT.out.below hb1)
    clear hb1
    go_wp2_with fail
    refine (CC.out _ T1.out).mono ?_; rintro e w2 ⟨rfl, hb2⟩
    have B2 := Lib.hid (bt B1.out hb2)
    clear hb2
    go_wp2_with fail
    clear hq
    go_loopg [6, 7] (t.size + 1) (fun gk dv iv wr => ∃ (i f d : Nat), dv = .int .i64 d ∧ iv = .int .i64 i ∧ wr = w2 ∧ i ≤ t.size ∧ gk = f + 1 ∧ t.size ≤ i + f ∧ d ≤ i ∧ (d = 0 → i = 0) ∧ Hid (gapGo t (f + 1) i d = G))
    case atStart => exact ⟨0, t.size, 0, rfl, rfl, rfl, by omega, rfl, by omega, by omega, fun _ => rfl, GV2⟩
    case round =>
      obtain ⟨i, f, d, rfl, rfl, rfl, hi, rfl, hf, hdi, hd0, hc⟩ := hrel
      by_cases hps : i + 1 < t.size
      · have db := decide_eq_true (show (i : Int) + 1 < t.size by omega)
        obtain ⟨P, hP⟩ : ∃ P : Nat, (i : Int) + 2 = P := ⟨i + 2, by omega⟩
        have HPi : Hid (P = i + 2) := Lib.hid (by omega)
        have q0 : (0 : Int) ≤ (i : Int) := by omega
        have q1 : (i : Int) ≤ (P : Int) := by omega
        have q2 : (P : Int) ≤ (t.size : Int) := by omega
        obtain ⟨f, rfl⟩ : ∃ g, f = g + 1 := ⟨f - 1, by omega⟩
        have HC : Hid ((if two t i 40 42 = true then gapGo t (f + 1) (i + 2) (d + 1) else if two t i 42 41 = true then (if d = 1 then some (i + 2) else gapGo t (f + 1) (i + 2) (d - 1)) else gapGo t (f + 1) (i + 1) d) = G) := Lib.hid (by rw [← hc.out]; rw [gapGo.eq_def t (f + 1 + 1)]; simp only [if_pos hps])
        clear hc
        cases k1 : two t i 40 42 with
        | true =>
          have e1 : ((t.extract i P).toList == [40, 42]) = true := by rw [HPi.out]; exact k1
          have FV : Hid (gapGo t (f + 1) P (d + 1) = G) := Lib.hid (by rw [← HC.out, k1, HPi.out]; rfl)
          clear HC k1
          go_wp2_with fail
          go_roundg (f + 1)
          case measure => have := HPi.out; omega
          case rel => exact ⟨P, f, d + 1, by go_num, by first | rfl | go_num, rfl, by have := HPi.out; omega, rfl, by have := HPi.out; omega, by have := HPi.out; omega, fun h => by omega, FV⟩
        | false =>
          have e1 : ((t.extract i P).toList == [40, 42]) = false := by rw [HPi.out]; exact k1
          have hi0 : i ≠ 0 := by rintro rfl; rw [H2.out] at k1; cases k1
          have hd1 : 1 ≤ d := by
            rcases Nat.eq_zero_or_pos d with h | h
            · exact absurd (hd0 h) hi0
            · exact h
          cases k2 : two t i 42 41 with
          | true =>
            have e2 : ((t.extract i P).toList == [42, 41]) = true := by rw [HPi.out]; exact k2
            by_cases hd : d = 1
            · subst hd
              have FV : Hid (G = some P) := Lib.hid (by rw [← HC.out, k1, k2, HPi.out]; rfl)
              clear HC k1 k2
              go_wp2_with fail
              go_returns
              exact ⟨by rw [FV.out]; rfl, B2.out⟩
            · obtain ⟨d2, rfl⟩ : ∃ q, d = q + 2 := ⟨d - 2, by omega⟩
              have FV : Hid (gapGo t (f + 1) P (d2 + 1) = G) := Lib.hid (by rw [← HC.out, k1, k2, HPi.out, if_neg hd]; rfl)
              clear HC k1 k2
              go_wp2_with fail
              go_roundg (f + 1)
              case measure => have := HPi.out; omega
              case rel => exact ⟨P, f, d2 + 1, by go_num, by first | rfl | go_num, rfl, by have := HPi.out; omega, rfl, by have := HPi.out; omega, by have := HPi.out; omega, fun h => by omega, FV⟩
          | false =>
            have e2 : ((t.extract i P).toList == [42, 41]) = false := by rw [HPi.out]; exact k2
            have FV : Hid (gapGo t (f + 1) (i + 1) d = G) := Lib.hid (by rw [← HC.out, k1, k2]; rfl)
            obtain ⟨d2, rfl⟩ : ∃ q, d = q + 1 := ⟨d - 1, by omega⟩
            clear HC k1 k2
            go_wp2_with fail
            go_roundg (f + 1)
            case measure => have := HPi.out; omega
            case rel => exact ⟨i + 1, f, d2 + 1, by go_num, by go_num, rfl, by have := HPi.out; omega, rfl, by have := HPi.out; omega, by have := HPi.out; omega, fun h => by omega, FV⟩
      · have db := decide_eq_false (show ¬ (i : Int) + 1 < t.size by omega)
        have FV : Hid (G = none) := Lib.hid (by rw [← hc.out]; rw [gapGo.eq_def]; simp only [if_neg hps])
        clear hc
        go_wp2_with fail
        go_returns
        exact ⟨by rw [FV.out]; rfl, B2.out⟩
end Go.Proofs.YtkimnbdjdhapnaaDoor
