import Derived.Test.YtkimnbdjdhapnaaDoorLmath
namespace Go.Proofs.YtkimnbdjdhapnaaDoor
open Go.ChangeShapes Go.WideShapes Go.ChangeAt Go.RowKit Go.Shelf Go.Lib CharsMath
set_option linter.unusedVariables false
theorem ne_of_beq {a b : Int} (h : a ≠ b) : (a == b) = false := beq_eq_false_iff_ne.2 h
set_option maxHeartbeats 4000000 in
set_option maxRecDepth 100000 in
theorem num_any (t : ByteArray) (w : World) (hs : t.size ≤ 1000000) (hT : Tabs w) : Calls Tryd.prog 13 #[.string t] w fun e w' => e = .returned (.tuple #[.int .i64 (numT t (t.size + 1) 0 0).1, .int .i64 (numT t (t.size + 1) 0 0).2]) ∧ Below w.heap.size w w' := by
  have HT := Lib.hid hT
  clear hT
  obtain ⟨R, hR⟩ : ∃ R, R = numT t (t.size + 1) 0 0 := ⟨_, rfl⟩
  rw [← hR]
  have HR := Lib.hid hR.symm
  clear hR
  obtain ⟨Rk, Rn⟩ := R
  simp only []
  go_enter Tryd.func13, Tryd.ntmps13
  go_wp2
  go_loopg [3, 4] (t.size + 1) (fun gk nv vv wr => ∃ (n f : Nat) (v : Int), nv = .int .i64 n ∧ vv = .int .i64 v ∧ Hid (Below w.heap.size w wr) ∧ n ≤ t.size ∧ gk = f + 1 ∧ t.size ≤ n + f ∧ 0 ≤ v ∧ v ≤ 4611686018427387903 ∧ Hid (numT t (f + 1) n v = (Rk, Rn)))
  case atStart => exact ⟨0, t.size, 0, rfl, rfl, Lib.hid (Below.refl _ _), by omega, rfl, by omega, by omega, by omega, HR⟩
  case round =>
    obtain ⟨n, f, v, rfl, rfl, HB, hn, rfl, hf, hv0, hv1, hc⟩ := hrel
    by_cases hps : n < t.size
    · have db := decide_eq_true (show (n : Int) < t.size by omega)
      obtain ⟨b, hb⟩ : ∃ b, (t[n]'hps).toNat = b := ⟨_, rfl⟩
      have hg : Hid ((t.get! n).toNat = b) := Lib.hid (by rw [get_eq t n hps, hb])
      have hb2 : b < 256 := by rw [← hb]; exact (t[n]'hps).toNat_lt
      have CC := Lib.hid (fun W (hT : Tabs W) => class_any (b : Int) W (by omega) (by omega) hT)
      have T1 := Lib.hid (HT.out.below HB.out)
      have HC : Hid ((if classV (b : Int) = 2 then (if (4611686018427387903 - ((b : Int) - 48)) / 10 < v then (0, 0) else numT t f (n + 1) (v * 10 + ((b : Int) - 48))) else (1, n)) = (Rk, Rn)) := Lib.hid (by rw [← hc.out, ← hg.out]; simp only [numT]; rw [if_pos hps])
      have CD : Hid (classV (b : Int) = 2 → 48 ≤ b ∧ b ≤ 57) := Lib.hid digit_byte
      obtain ⟨cl, hcl⟩ : ∃ cl, cl = classV (b : Int) := ⟨_, rfl⟩
      rw [← hcl] at CC HC CD
      clear hg hc hcl
      by_cases h2 : cl = 2
      · subst h2
        obtain ⟨d1, d2⟩ := CD.out rfl
        obtain ⟨dg, hdg⟩ : ∃ dg : Nat, (b : Int) - 48 = dg := ⟨b - 48, by omega⟩
        have hd9 : dg ≤ 9 := by omega
        have HC2 : Hid ((if (4611686018427387903 - (dg : Int)) / 10 < v then (0, 0) else numT t f (n + 1) (v * 10 + (dg : Int))) = (Rk, Rn)) := Lib.hid (by have := HC.out; rw [if_pos rfl, hdg] at this; exact this)
        clear HC CD
        have hdiv : (4611686018427387903 - (dg : Int)).tdiv 10 = (4611686018427387903 - (dg : Int)) / 10 := Int.tdiv_eq_ediv_of_nonneg (by omega)
        obtain ⟨q, hq⟩ : ∃ q : Int, q = (4611686018427387903 - (dg : Int)) / 10 := ⟨_, rfl⟩
        rw [← hq] at HC2 hdiv
        have HQ := Lib.hid hq
        have hq1 : q ≤ 461168601842738790 := by omega
        have hq2 : 461168601842738789 ≤ q := by omega
        have u8 : IntKind.u8.wrap ((b : Int) - 48) = (dg : Int) := by rw [hdg]; simp only [IntKind.wrap, IntKind.bits, IntKind.signed]; simp; omega
        clear hq
        by_cases hbig : q < v
        · have dq := decide_eq_true hbig
          have FV : Hid (Rk = 0 ∧ Rn = 0) := Lib.hid (by have := HC2.out; rw [if_pos hbig] at this; injection this with a b; exact ⟨a.symm, b.symm⟩)
          clear HC2 HQ
          go_wp2_with fail
          refine (CC.out _ T1.out).mono ?_; rintro e w3 ⟨rfl, hb3⟩
          have B3 := Lib.hid (bt HB.out hb3)
          clear hb3
          go_wp2
          go_returns
          exact ⟨by rw [FV.out.1, FV.out.2]; rfl, B3.out⟩
        · have dq := decide_eq_false hbig
          obtain ⟨v2, hv2⟩ : ∃ v2 : Int, v2 = v * 10 + (dg : Int) := ⟨_, rfl⟩
          have FV : Hid (numT t f (n + 1) v2 = (Rk, Rn)) := Lib.hid (by have := HC2.out; rw [if_neg hbig] at this; rw [hv2]; exact this)
          have hvq : v ≤ q := by omega
          have hv20 : 0 ≤ v2 := by omega
          have hv21 : v2 ≤ 4611686018427387903 := by have := HQ.out; omega
          obtain ⟨f, rfl⟩ : ∃ g, f = g + 1 := ⟨f - 1, by omega⟩
          have HV := Lib.hid hv2
          clear HC2 HQ hv2
          go_wp2_with fail
          refine (CC.out _ T1.out).mono ?_; rintro e w3 ⟨rfl, hb3⟩
          have B3 := Lib.hid (bt HB.out hb3)
          clear hb3
          go_wp2
          go_roundg (f + 1)
          case measure => omega
          case rel => exact ⟨n + 1, f, v2, by go_num, congrArg (Value.int .i64) (by rw [HV.out]), B3, by omega, rfl, by omega, hv20, hv21, FV⟩
      · have ec := ne_of_beq h2
        have FV : Hid (Rk = 1 ∧ Rn = n) := Lib.hid (by have := HC.out; rw [if_neg h2] at this; injection this with a b; exact ⟨a.symm, b.symm⟩)
        clear HC CD h2
        go_wp2_with fail
        refine (CC.out _ T1.out).mono ?_; rintro e w3 ⟨rfl, hb3⟩
        have B3 := Lib.hid (bt HB.out hb3)
        clear hb3
        go_wp2
        go_returns
        exact ⟨by rw [FV.out.1, FV.out.2]; rfl, B3.out⟩
    · have db := decide_eq_false (show ¬ (n : Int) < t.size by omega)
      have FV : Hid (Rk = 1 ∧ Rn = n) := Lib.hid (by have := hc.out; simp only [numT] at this; rw [if_neg hps] at this; injection this with a b; exact ⟨a.symm, b.symm⟩)
      clear hc
      go_wp2
      go_returns
      exact ⟨by rw [FV.out.1, FV.out.2]; rfl, HB.out⟩
end Go.Proofs.YtkimnbdjdhapnaaDoor
