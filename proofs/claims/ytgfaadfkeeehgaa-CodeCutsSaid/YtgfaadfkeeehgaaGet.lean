import Derived.Test.YtgfaadfkeeehgaaFold
import Derived.BigQuiet
import Derived.Deep.QuietTactic
namespace Go.Proofs.Ytgfaadfkeeehgaa
open Go.ChangeShapes Go.WideShapes Go.ChangeAt Go.RowKit
/-- what k bytes of a number say so far. -/
def accG (bs : List Nat) : Nat → Int
  | 0 => 0
  | k + 1 => bits .or .u64 (accG bs k) (IntKind.u64.wrap (IntKind.u64.wrap (bits .and .u8 (bs.getD k 0 : Nat) 127) * 2 ^ (7 * k)))
/-- the number that the bytes begin with and its length, from byte k on. -/
def resG (bs : List Nat) : Nat → Nat → Int × Int
  | 0, _ => (0, 0)
  | f + 1, k => if k < bs.length then
      if 9 < k ∨ (k = 9 ∧ 1 < bs.getD k 0) then (0, 0)
      else if bs.getD k 0 < 128 then (if bs.getD k 0 = 0 ∧ 0 < k then (0, 0) else (accG bs (k + 1), k + 1))
      else resG bs f (k + 1)
    else (0, 0)
set_option maxRecDepth 100000 in
theorem get_any {w : World} {h o cap : Nat} {bs : List Nat} (hb : ∀ j, j < bs.length → w.cell? ⟨h, o + j, none⟩ = some (.int .u8 (bs.getD j 0 : Nat))) (hl : bs.length ≤ 1000000) :
    Calls Try.prog 22 #[.slice (some ⟨h, o, none⟩) bs.length cap] w fun e w' => e = .returned (.tuple #[.int .u64 (resG bs (bs.length + 1) 0).1, .int .i64 (resG bs (bs.length + 1) 0).2]) ∧ w = w' := by
  have CX := Lib.hid hb; clear hb
  obtain ⟨r, hr⟩ : ∃ r, r = resG bs (bs.length + 1) 0 := ⟨_, rfl⟩
  rw [← hr]
  have HR := Lib.hid hr; clear hr
  go_enter Try.func22, Try.ntmps22
  go_wp2
  go_loop [2, 8] (fun b i => ∃ k : Nat, k ≤ bs.length ∧ i = .int .i64 k ∧ ∃ z, Hid (z = accG bs k) ∧ b = .int .u64 z ∧ Hid (r = resG bs (bs.length - k + 1) k)) (fun _ i => bs.length - (intOf i).toNat)
  case atStart => exact ⟨0, by omega, rfl, 0, Lib.hid rfl, rfl, HR⟩
  case round =>
    obtain ⟨k, hk, rfl, z, hz, rfl, hres⟩ := hrel
    by_cases hlt : k < bs.length
    · have cx := CX.out k hlt
      have hres' : Hid (r = if 9 < k ∨ (k = 9 ∧ 1 < bs.getD k 0) then (0, 0)
        else if bs.getD k 0 < 128 then (if bs.getD k 0 = 0 ∧ 0 < k then (0, 0) else (accG bs (k + 1), (k : Int) + 1))
        else resG bs (bs.length - k) (k + 1)) := Lib.hid (by rw [hres.out]; simp only [resG]; rw [if_pos hlt])
      have HA : Hid (accG bs (k + 1) = bits .or .u64 z (IntKind.u64.wrap (IntKind.u64.wrap (bits .and .u8 (bs.getD k 0 : Nat) 127) * 2 ^ (7 * k)))) := Lib.hid (by rw [hz.out]; rfl)
      obtain ⟨c, hc⟩ : ∃ c, c = bs.getD k 0 := ⟨_, rfl⟩
      rw [← hc] at cx hres' HA
      have HC := Lib.hid hc; clear hc
      by_cases h9 : 9 < k
      · have e9 : ((k : Int) == 9) = false := beq_eq_false_iff_ne.2 (by omega)
        have d9 : decide (9 < (k : Int)) = true := decide_eq_true (by omega)
        have E : Hid (r = (0, 0)) := Lib.hid (by rw [hres'.out, if_pos (Or.inl h9)])
        clear h9
        go_wp2
        go_returns
        rw [E.out]
        exact ⟨rfl, rfl⟩
      · have d9 : decide (9 < (k : Int)) = false := decide_eq_false (by omega)
        have hk9 : k ≤ 9 := by omega
        by_cases hbad : k = 9 ∧ 1 < c
        · have e9 : ((k : Int) == 9) = true := beq_iff_eq.2 (by omega)
          have d1 : decide (1 < (c : Int)) = true := decide_eq_true (by omega)
          have E : Hid (r = (0, 0)) := Lib.hid (by rw [hres'.out, if_pos (Or.inr hbad)])
          clear hbad h9
          go_wp2
          go_returns
          rw [E.out]
          exact ⟨rfl, rfl⟩
        have hr2 : Hid (r = if c < 128 then (if c = 0 ∧ 0 < k then (0, 0) else (accG bs (k + 1), (k : Int) + 1))
          else resG bs (bs.length - k) (k + 1)) := Lib.hid (by rw [hres'.out, if_neg (by omega)])
        obtain ⟨t, ht, htb⟩ : ∃ t, ((k : Int) == 9) = t ∧ (t = true → decide (1 < (c : Int)) = false) := ⟨_, rfl, fun e => decide_eq_false (by have := beq_iff_eq.1 e; omega)⟩
        have HB := Lib.hid hbad
        have H9 := Lib.hid h9
        clear hbad h9 hres'
        by_cases hc8 : c < 128
        · have d8 : decide ((c : Int) < 128) = true := decide_eq_true (by omega)
          by_cases hz0 : c = 0 ∧ 0 < k
          · have E : Hid (r = (0, 0)) := Lib.hid (by rw [hr2.out, if_pos hc8, if_pos hz0])
            have e0 : ((c : Int) == 0) = true := beq_iff_eq.2 (by omega)
            have k0 : decide (0 < (k : Int)) = true := decide_eq_true (by omega)
            have k1 : decide (0 < k) = true := decide_eq_true (by omega)
            have k2 : 0 < k := hz0.2
            clear hz0 hc8
            cases t with
            | true =>
              have d1 := htb rfl
              clear htb
              go_wp2
              go_returns
              rw [E.out]
              exact ⟨rfl, rfl⟩
            | false =>
              clear htb
              go_wp2
              go_returns
              rw [E.out]
              exact ⟨rfl, rfl⟩
          · have E : Hid (r = (accG bs (k + 1), (k : Int) + 1)) := Lib.hid (by rw [hr2.out, if_pos hc8, if_neg hz0])
            by_cases hc0 : c = 0
            · have e0 : ((c : Int) == 0) = true := beq_iff_eq.2 (by omega)
              have k0 : decide (0 < (k : Int)) = false := decide_eq_false (by omega)
              have k1 : decide (0 < k) = false := decide_eq_false (by omega)
              have kk : t = false := by rw [← ht]; exact beq_eq_false_iff_ne.2 (by omega)
              subst kk
              have k3 : k = 0 := by omega
              have K3 := Lib.hid k3
              clear hz0 hc8 hc0 htb k3
              go_wp2
              go_returns
              rw [E.out, HA.out]
              exact ⟨rfl, rfl⟩
            · have e0 : ((c : Int) == 0) = false := beq_eq_false_iff_ne.2 (by omega)
              clear hz0 hc8 hc0
              cases t with
              | true =>
                have d1 := htb rfl
                clear htb
                go_wp2
                go_returns
                rw [E.out, HA.out]
                exact ⟨rfl, rfl⟩
              | false =>
                clear htb
                go_wp2
                go_returns
                rw [E.out, HA.out]
                exact ⟨rfl, rfl⟩
        · have d8 : decide ((c : Int) < 128) = false := decide_eq_false (by omega)
          have E : Hid (r = resG bs (bs.length - (k + 1) + 1) (k + 1)) := Lib.hid (by rw [hr2.out, if_neg hc8, show bs.length - k = bs.length - (k + 1) + 1 by omega])
          have kk : t = false := by
            cases t with
            | false => rfl
            | true => have := of_decide_eq_false (htb rfl); omega
          subst kk
          clear hc8 htb
          go_wp2
          go_round
          case rel => exact ⟨k + 1, by omega, by go_num, _, Lib.hid HA.out.symm, rfl, E⟩
          case measure => simp [intOf]; omega
    · have E : Hid (r = (0, 0)) := Lib.hid (by rw [hres.out]; simp only [resG]; rw [if_neg hlt])
      obtain rfl : k = bs.length := by omega
      clear hlt
      go_wp2
      go_returns
      rw [E.out]
      exact ⟨rfl, rfl⟩
end Go.Proofs.Ytgfaadfkeeehgaa
