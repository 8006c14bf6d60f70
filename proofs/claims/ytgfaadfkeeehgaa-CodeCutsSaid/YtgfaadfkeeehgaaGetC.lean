import Derived.Test.YtgfaadfkeeehgaaGroups
import Derived.Test.YtgfaadfkeeehgaaOperand
import Derived.Test.YtgfaadfkeeehgaaGetI
import Derived.Test.YtgfaadfkeeehgaaBytes
import Derived.BigQuiet
import Derived.Deep.QuietTactic
import Derived.Outline
namespace Go.Proofs.Ytgfaadfkeeehgaa
open Go.ChangeShapes Go.WideShapes Go.ChangeAt Go.RowKit
set_option linter.unusedVariables false
theorem quiet_l {P : Program} {f : FuncId} {args : Array Value} {w : World} {n : Nat} {v : Value} (h : Calls P f args (w.drewN n) fun e w' => e = .returned v ∧ w.drewN n = w') : Calls P f args (w.drewN n) fun e w'' => e = .returned v ∧ ∃ m, w'' = w.drewN m :=
  h.mono fun _ _ ⟨he, hw⟩ => ⟨he, n, hw.symm⟩
theorem quiet_al {P : Program} {f : FuncId} {args : Array Value} {w : World} {a n : Nat} {v : Value} (h : Calls P f args (w.drewN (a + n)) fun e w' => e = .returned v ∧ w.drewN (a + n) = w') : Calls P f args (w.drewN (a + n)) fun e w'' => e = .returned v ∧ ∃ m, w'' = w.drewN (a + m) :=
  h.mono fun _ _ ⟨he, hw⟩ => ⟨he, n, hw.symm⟩
def six (c : Nat) : Bool := decide (c / 64 % 2 = 1)
def sev (c : Nat) : Bool := decide (128 ≤ c)
theorem and_64 (c : Nat) (hc : c < 256) : (bits .and .u8 ((c : Nat) : Int) 64 != 0) = six c := by
  have all : ∀ k : Fin 256, (bits .and .u8 ((k.val : Nat) : Int) 64 != 0) = six k.val := by decide +kernel
  exact all ⟨c, hc⟩
theorem and_128 (c : Nat) (hc : c < 256) : (bits .and .u8 ((c : Nat) : Int) 128 != 0) = sev c := by
  have all : ∀ k : Fin 256, (bits .and .u8 ((k.val : Nat) : Int) 128 != 0) = sev k.val := by decide +kernel
  exact all ⟨c, hc⟩
theorem and_63 (c : Nat) (hc : c < 256) : bits .and .u8 ((c : Nat) : Int) 63 = ((c % 64 : Nat) : Int) := by
  have all : ∀ k : Fin 256, bits .and .u8 ((k.val : Nat) : Int) 63 = ((k.val % 64 : Nat) : Int) := by decide +kernel
  exact all ⟨c, hc⟩
def opG (there : Bool) (bs : List Nat) : Int × Int := if there then operG bs else (0, 0)
/-- the instruction that the bytes begin with; its length, 0: there is none. -/
def getS : List Nat → (Int × Int × Int) × Int
  | [] => ((0, 0, 0), 0)
  | c :: t =>
    if (opG (six c) t).2 < 0 then ((0, 0, 0), 0) else
    if (opG (sev c) (t.drop (opG (six c) t).2.toNat)).2 < 0 then ((0, 0, 0), 0) else
    (((c % 64 : Nat), (opG (six c) t).1, (opG (sev c) (t.drop (opG (six c) t).2.toNat)).1), 1 + (opG (six c) t).2 + (opG (sev c) (t.drop (opG (six c) t).2.toNat)).2)
theorem resG_len (bs : List Nat) (f k : Nat) : 0 ≤ (resG bs f k).2 ∧ (resG bs f k).2 ≤ bs.length := by
  induction f generalizing k with
  | zero => exact ⟨by simp [resG], by simp [resG]⟩
  | succ f ih =>
    simp only [resG]
    split
    · split
      · exact ⟨by simp, by simp⟩
      · split
        · split
          · exact ⟨by simp, by simp⟩
          · exact ⟨by simp only; omega, by simp only; omega⟩
        · exact ih (k + 1)
    · exact ⟨by simp, by simp⟩
theorem opG_len (s : Bool) (bs : List Nat) : -1 ≤ (opG s bs).2 ∧ (opG s bs).2 ≤ bs.length := by
  unfold opG operG
  have := resG_len bs (bs.length + 1) 0
  split
  · split
    · exact ⟨by simp, by simp only; omega⟩
    · exact ⟨by simp only; omega, by simp only; omega⟩
  · exact ⟨by simp, by simp⟩
theorem opG_in (s : Bool) (bs : List Nat) : -9223372036854775808 ≤ (opG s bs).1 ∧ (opG s bs).1 < 9223372036854775808 := by
  unfold opG operG unfoldN
  have := resG_in bs (bs.length + 1) 0
  split
  · split
    · exact ⟨by simp, by simp⟩
    · simp only; split <;> omega
  · exact ⟨by simp, by simp⟩
theorem operand_any {w : World} {h o cap : Nat} {bs : List Nat} (there : Bool) (hb : ∀ j, j < bs.length → w.cell? ⟨h, o + j, none⟩ = some (.int .u8 (bs.getD j 0 : Nat))) (hl : bs.length ≤ 1000000) :
    Calls Try.prog 16 #[.slice (some ⟨h, o, none⟩) bs.length cap, .bool there] w fun e w' => e = .returned (.tuple #[.int .i64 (opG there bs).1, .int .i64 (opG there bs).2]) ∧ w = w' := by
  cases there
  · exact operand_no _ w
  · exact operand_yes hb hl
theorem operand_len {w : World} {h o cap n : Nat} {bs : List Nat} (there : Bool) (hn : bs.length = n) (hb : ∀ j, j < bs.length → w.cell? ⟨h, o + j, none⟩ = some (.int .u8 (bs.getD j 0 : Nat))) (hl : bs.length ≤ 1000000) :
    Calls Try.prog 16 #[.slice (some ⟨h, o, none⟩) n cap, .bool there] w fun e w' => e = .returned (.tuple #[.int .i64 (opG there bs).1, .int .i64 (opG there bs).2]) ∧ w = w' := by
  subst hn; exact operand_any there hb hl
theorem getS_cons (c : Nat) (t : List Nat) : getS (c :: t) = if (opG (six c) t).2 < 0 then ((0, 0, 0), 0) else
    if (opG (sev c) (t.drop (opG (six c) t).2.toNat)).2 < 0 then ((0, 0, 0), 0) else
    ((((c % 64 : Nat) : Int), (opG (six c) t).1, (opG (sev c) (t.drop (opG (six c) t).2.toNat)).1), 1 + (opG (six c) t).2 + (opG (sev c) (t.drop (opG (six c) t).2.toNat)).2) := rfl
def errG (n : Int) : Int := if n = 0 then 3 else 0
/-- the address of a slice's rest. -/
theorem rest_at (h o n cap k : Nat) (hk : k ≤ n) (hc : n ≤ cap) : ∃ o', (if cap = k then some (⟨h, o, none⟩ : Addr) else some (⟨h, o + k, none⟩ : Addr)) = some ⟨h, o', none⟩ ∧ (k < n → o' = o + k) := by
  by_cases e : cap = k
  · exact ⟨o, by rw [if_pos e], fun h => by omega⟩
  · exact ⟨o + k, by rw [if_neg e], fun _ => rfl⟩
set_option maxRecDepth 100000 in
set_option maxHeartbeats 1000000 in
theorem codeget {w : World} {h o cap : Nat} {c : Nat} {t : List Nat} (hb : ∀ j, j < (c :: t).length → w.cell? ⟨h, o + j, none⟩ = some (.int .u8 ((c :: t).getD j 0 : Nat))) (hlt : h < w.heap.size) (hc : c < 256) (hl : t.length ≤ 900000) (hcap : t.length + 1 ≤ cap) :
    Calls Try.prog 8 #[.slice (some ⟨h, o, none⟩) (t.length + 1) cap] w fun e w' => e = .returned (.tuple #[.agg #[.int .i64 (getS (c :: t)).1.1, .int .i64 (getS (c :: t)).1.2.1, .int .i64 (getS (c :: t)).1.2.2], .int .i64 (getS (c :: t)).2, .int .i64 (errG (getS (c :: t)).2)]) ∧ Below w.heap.size w w' := by
  obtain ⟨r, hr⟩ : ∃ r, r = getS (c :: t) := ⟨_, rfl⟩
  rw [← hr]
  have HR := Lib.hid hr; clear hr
  have l1 := opG_len (six c) t
  have i1 := opG_in (six c) t
  obtain ⟨p, hp⟩ : ∃ p, p = opG (six c) t := ⟨_, rfl⟩
  rw [← hp] at l1 i1
  have HP := Lib.hid hp; clear hp
  obtain ⟨p1, p2⟩ := p
  have e64 := and_64 c hc
  have e128 := and_128 c hc
  have e63 := and_63 c hc
  have c0 : w.cell? ⟨h, o, none⟩ = some (.int .u8 (c : Nat)) := hb 0 (by simp)
  have HT : Hid (∀ W : World, (∀ p : Addr, p.block = h → W.cell? p = w.cell? p) → ∀ j, j < t.length → W.cell? ⟨h, o + 1 + j, none⟩ = some (.int .u8 (t.getD j 0 : Nat))) := Lib.hid (fun W hW j hj => by
    have := hb (j + 1) (by simp; omega)
    rw [hW ⟨h, o + 1 + j, none⟩ rfl, show o + 1 + j = o + (j + 1) by omega, this]; rfl)
  obtain ⟨s6, h6⟩ : ∃ s6, s6 = six c := ⟨_, rfl⟩
  obtain ⟨s7, h7⟩ : ∃ s7, s7 = sev c := ⟨_, rfl⟩
  rw [← h6] at e64 HP
  rw [← h7] at e128
  have H6 := Lib.hid h6; have H7 := Lib.hid h7; clear h6 h7 hb
  obtain ⟨o1, ho1, ho1'⟩ := rest_at h o (t.length + 1) cap 1 (by omega) hcap
  have R1 := Lib.hid ho1'; clear ho1'
  go_enter Try.func8, Try.ntmps8
  go_wp2
  go_quiet ((go_at_call 16; exact quiet_l (operand_any s6 (fun j hj => by rw [R1.out (by omega)]; exact HT.out _ (fun p hp => World.cell?_alloc_lt w _ p (by omega)) j hj) (by omega))))
  rw [← HP.out]
  by_cases hneg : p2 < 0
  · have hd : decide (p2 < 0) = true := decide_eq_true hneg
    have E : Hid (r = ((0, 0, 0), 0)) := Lib.hid (by rw [HR.out, getS_cons, ← H6.out, ← HP.out]; simp only; rw [if_pos hneg])
    clear hneg l1 i1
    go_wp2
    go_returns
    rw [E.out]
    exact ⟨rfl, (((bt (below_alloc w _) (below_drewN _ _)).setCell (Nat.le_refl _) _).setCell (Nat.le_refl _) _).setCell (Nat.le_refl _) _⟩
  · have hd : decide (p2 < 0) = false := decide_eq_false hneg
    obtain ⟨q, rfl⟩ : ∃ q : Nat, p2 = q := ⟨p2.toNat, by omega⟩
    have hq : q ≤ t.length := by have := l1.2; omega
    clear hneg l1
    obtain ⟨o2, ho2, ho2'⟩ := rest_at h o (t.length + 1) cap (1 + q) (by omega) hcap
    have R2 := Lib.hid ho2'; clear ho2'
    have l2 := opG_len s7 (t.drop q)
    obtain ⟨u, hu⟩ : ∃ u, u = opG s7 (t.drop q) := ⟨_, rfl⟩
    rw [← hu] at l2
    have HU := Lib.hid hu; clear hu
    obtain ⟨u1, u2⟩ := u
    have w1 : IntKind.i64.wrap (1 + (q : Int)) = 1 + q := by simp only [IntKind.wrap_i64]; omega
    have w2 : (1 + (q : Int)).toNat = 1 + q := by omega
    have w3 : (0 : Int) ≤ 1 + (q : Int) := by omega
    have w4 : 1 + (q : Int) ≤ (t.length : Int) + 1 := by omega
    have w5 : t.length + 1 - (1 + q) = (t.drop q).length := by rw [List.length_drop]; omega
    go_wp2
    clear w5
    have HD : Hid (∀ W : World, (∀ p : Addr, p.block = h → W.cell? p = w.cell? p) → ∀ j, j < (t.drop q).length → W.cell? ⟨h, o2 + j, none⟩ = some (.int .u8 ((t.drop q).getD j 0 : Nat))) := Lib.hid (fun W hW j hj => by
      rw [List.length_drop] at hj
      rw [R2.out (by omega)]
      have := HT.out W hW (q + j) (by omega)
      rw [show o + 1 + (q + j) = o + (1 + q) + j by omega] at this
      rw [this]; simp [List.getD])
    go_quiet ((go_at_call 16; exact quiet_al (operand_len s7 (bs := t.drop q) (by rw [List.length_drop]; omega) (HD.out _ (fun p hp => World.cell?_alloc_lt w _ p (by omega))) (by rw [List.length_drop]; omega))))
    rw [← HU.out]
    by_cases hneg : u2 < 0
    · have hd : decide (u2 < 0) = true := decide_eq_true hneg
      have E : Hid (r = ((0, 0, 0), 0)) := Lib.hid (by rw [HR.out, getS_cons, ← H6.out, ← HP.out]; simp only; rw [if_neg (by omega), ← H7.out, Int.toNat_natCast, ← HU.out]; simp only; rw [if_pos hneg])
      clear hneg l2 i1
      go_wp2
      go_returns
      rw [E.out]
      exact ⟨rfl, (((bt (below_alloc w _) (below_drewN _ _)).setCell (Nat.le_refl _) _).setCell (Nat.le_refl _) _).setCell (Nat.le_refl _) _⟩
    · have hd : decide (u2 < 0) = false := decide_eq_false hneg
      obtain ⟨z, rfl⟩ : ∃ z : Nat, u2 = z := ⟨u2.toNat, by omega⟩
      have hz : z ≤ t.length := by have := l2.2; rw [List.length_drop] at this; omega
      have E : Hid (r = ((((c % 64 : Nat) : Int), p1, u1), 1 + (q : Int) + z)) := Lib.hid (by rw [HR.out, getS_cons, ← H6.out, ← HP.out]; simp only; rw [if_neg (by omega), ← H7.out, Int.toNat_natCast, ← HU.out]; simp only; rw [if_neg (by omega)])
      have ER : Hid (errG (1 + (q : Int) + z) = 0) := Lib.hid (by unfold errG; rw [if_neg (by omega)])
      have w6 : IntKind.i64.wrap (1 + (q : Int) + z) = 1 + q + z := by simp only [IntKind.wrap_i64]; omega
      clear hneg l2 i1
      go_wp2
      go_returns
      rw [E.out]
      simp only
      rw [ER.out]
      exact ⟨rfl, (((bt (below_alloc w _) (below_drewN _ _)).setCell (Nat.le_refl _) _).setCell (Nat.le_refl _) _).setCell (Nat.le_refl _) _⟩
end Go.Proofs.Ytgfaadfkeeehgaa
