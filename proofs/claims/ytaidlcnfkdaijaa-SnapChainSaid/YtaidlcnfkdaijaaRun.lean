import Derived.Test.YtaidlcnfkdaijaaEq
namespace Go.Proofs.Ytaidlcnfkdaijaa
open Go.ChangeShapes Go.WideShapes Go.ChangeAt Go.RowKit
set_option linter.unusedVariables false
set_option maxRecDepth 100000 in
set_option maxHeartbeats 4000000 in
theorem run_any {w : World} {g : Nat} {A B : Option Addr} {no co nn cn at_ done : Nat} {shift : Int} {bv : Value} {old new : List Nat}
    (r : WObj w g (.slice A no co) (.slice B nn cn) at_ done shift bv) (so : Sl w A no co old) (sn : Sl w B nn cn new) (hs1 : -1000 ≤ shift) (hs2 : shift ≤ 1000) (hat : at_ ≤ nn) (hno : no ≤ 420) (hnn : nn ≤ 420) :
    Calls Try.prog 18 #[.pointer (some ⟨g, 0, none⟩)] w fun e w' => ∃ (f : Int) (k : Nat), e = .returned (.tuple #[.int .i64 f, .int .i64 k]) ∧ Below w.heap.size w w' ∧ (0 < k → ∃ F : Nat, f = F ∧ EqTo old new F at_ k) ∧ k ≤ 420 := by
  have c0 := r.c0; have c1 := r.c1; have c4 := r.c4
  have EQ : Hid (∀ (W : World) (f : Int), Below w.heap.size w W → f ≤ 5000 → Calls Try.prog 22 #[.pointer (some ⟨g, 0, none⟩), .int .i64 f] W fun e w' => ∃ k : Nat, e = .returned (.int .i64 k) ∧ Below W.heap.size W w' ∧ (0 < k → ∃ F : Nat, f = F ∧ EqTo old new F at_ k) ∧ k ≤ 420) := Lib.hid (fun W f hW hf => equal_any f (r.below hW) (so.below hW) (sn.below hW) hf hat hno hnn)
  have RR := Lib.hid r
  obtain ⟨D, hD⟩ : ∃ D : Int, (no : Int) - (nn : Int) = D := ⟨_, rfl⟩
  have hD1 : -1000 ≤ D := by omega
  have hD2 : D ≤ 1000 := by omega
  have hal : at_ ≤ 420 := by omega
  clear r so sn
  have ai0 : ∀ (W : World) (a b c : Int), (Instr.index 51 (.agg #[.int .i64 a, .int .i64 b, .int .i64 c]) (.int .i64 0)).run Try.prog W = .ok (.int .i64 a) W := fun _ _ _ _ => by kernel_rfl
  have ai1 : ∀ (W : World) (a b c : Int), (Instr.index 51 (.agg #[.int .i64 a, .int .i64 b, .int .i64 c]) (.int .i64 1)).run Try.prog W = .ok (.int .i64 b) W := fun _ _ _ _ => by kernel_rfl
  have ai2 : ∀ (W : World) (a b c : Int), (Instr.index 51 (.agg #[.int .i64 a, .int .i64 b, .int .i64 c]) (.int .i64 2)).run Try.prog W = .ok (.int .i64 c) W := fun _ _ _ _ => by kernel_rfl
  go_enter Try.func18, Try.ntmps18
  go_wp2
  go_quiet (fail)
  go_wp2
  go_loopw [2, 3, 23] (fun fr mn ix wr => ∃ (f : Int) (k i : Nat), fr = .int .i64 f ∧ mn = .int .i64 k ∧ ix = .int .i64 i ∧ i ≤ 3 ∧ Hid (Below w.heap.size w wr) ∧ Hid (0 < k → ∃ F : Nat, f = F ∧ EqTo old new F at_ k) ∧ k ≤ 420) (fun _ _ ix _ => 3 - (intOf ix).toNat)
  case atStart => exact ⟨0, 0, 0, rfl, rfl, rfl, by omega, Lib.hid (below_drewN _ _), Lib.hid (fun h => absurd h (by omega)), by omega⟩
  case round =>
    obtain ⟨f, k, i, rfl, rfl, rfl, hi, hb, he, hk⟩ := hrel
    have c2 := (RR.out.below hb.out).c2
    match i, hi with
    | 3, _ =>
      go_wp2
      go_returns
      exact ⟨f, k, rfl, hb.out, he.out, hk⟩
    | 0, _ =>
      obtain ⟨T, hT⟩ : ∃ T : Int, (at_ : Int) + shift = T := ⟨_, rfl⟩
      have hTl : T ≤ 2000 := by omega
      have hTm : -2000 ≤ T := by omega
      have HT : Hid (T ≤ 5000) := Lib.hid (by omega)
      by_cases hf : T = f
      · have d1 : (T == f) = true := beq_iff_eq.2 hf
        by_cases hk0 : 0 < k
        · have d2 := decide_eq_true (show (0 : Int) < (k : Int) by omega)
          clear hf
          go_wp2
          go_roundw
          case rel => exact ⟨f, k, 1, rfl, rfl, rfl, by omega, hb, he, hk⟩
          case measure => simp [intOf]
        have d2 := decide_eq_false (show ¬ (0 : Int) < (k : Int) by omega)
        clear hf
        go_wp2_with fail
        refine (EQ.out wr T hb.out HT.out).mono ?_; rintro e w2 ⟨q, rfl, hb2, hq, hql⟩
        have B2 := Lib.hid (bt hb.out hb2); have HQ := Lib.hid hq; have c2' := (RR.out.below B2.out).c2
        clear hb2 hq
        by_cases hkq : k < q
        · have d := decide_eq_true (show (k : Int) < (q : Int) by omega)
          have dN := decide_eq_true hkq
          clear hkq
          go_wp2
          go_roundw
          case rel => exact ⟨T, q, 1, rfl, rfl, rfl, by omega, Lib.hid B2.out, HQ, hql⟩
          case measure => simp [intOf]
        · have d := decide_eq_false (show ¬ (k : Int) < (q : Int) by omega)
          have dN := decide_eq_false hkq
          clear hkq
          go_wp2
          go_roundw
          case rel => exact ⟨f, k, 1, rfl, rfl, rfl, by omega, Lib.hid B2.out, he, hk⟩
          case measure => simp [intOf]
      · have d1 : (T == f) = false := beq_eq_false_iff_ne.2 hf
        clear hf
        go_wp2_with fail
        refine (EQ.out wr T hb.out HT.out).mono ?_; rintro e w2 ⟨q, rfl, hb2, hq, hql⟩
        have B2 := Lib.hid (bt hb.out hb2); have HQ := Lib.hid hq; have c2' := (RR.out.below B2.out).c2
        clear hb2 hq
        by_cases hkq : k < q
        · have d := decide_eq_true (show (k : Int) < (q : Int) by omega)
          have dN := decide_eq_true hkq
          clear hkq
          go_wp2
          go_roundw
          case rel => exact ⟨T, q, 1, rfl, rfl, rfl, by omega, Lib.hid B2.out, HQ, hql⟩
          case measure => simp [intOf]
        · have d := decide_eq_false (show ¬ (k : Int) < (q : Int) by omega)
          have dN := decide_eq_false hkq
          clear hkq
          go_wp2
          go_roundw
          case rel => exact ⟨f, k, 1, rfl, rfl, rfl, by omega, Lib.hid B2.out, he, hk⟩
          case measure => simp [intOf]
    | 1, _ =>
      have HT : Hid ((at_ : Int) ≤ 5000) := Lib.hid (by omega)
      by_cases hf : (at_ : Int) = f
      · have d1 : ((at_ : Int) == f) = true := beq_iff_eq.2 hf
        by_cases hk0 : 0 < k
        · have d2 := decide_eq_true (show (0 : Int) < (k : Int) by omega)
          clear hf
          go_wp2
          go_roundw
          case rel => exact ⟨f, k, 2, rfl, rfl, rfl, by omega, hb, he, hk⟩
          case measure => simp [intOf]
        have d2 := decide_eq_false (show ¬ (0 : Int) < (k : Int) by omega)
        clear hf
        go_wp2_with fail
        refine (EQ.out wr at_ hb.out HT.out).mono ?_; rintro e w2 ⟨q, rfl, hb2, hq, hql⟩
        have B2 := Lib.hid (bt hb.out hb2); have HQ := Lib.hid hq; have c2' := (RR.out.below B2.out).c2
        clear hb2 hq
        by_cases hkq : k < q
        · have d := decide_eq_true (show (k : Int) < (q : Int) by omega)
          have dN := decide_eq_true hkq
          clear hkq
          go_wp2
          go_roundw
          case rel => exact ⟨at_, q, 2, rfl, rfl, rfl, by omega, Lib.hid B2.out, HQ, hql⟩
          case measure => simp [intOf]
        · have d := decide_eq_false (show ¬ (k : Int) < (q : Int) by omega)
          have dN := decide_eq_false hkq
          clear hkq
          go_wp2
          go_roundw
          case rel => exact ⟨f, k, 2, rfl, rfl, rfl, by omega, Lib.hid B2.out, he, hk⟩
          case measure => simp [intOf]
      · have d1 : ((at_ : Int) == f) = false := beq_eq_false_iff_ne.2 hf
        clear hf
        go_wp2_with fail
        refine (EQ.out wr at_ hb.out HT.out).mono ?_; rintro e w2 ⟨q, rfl, hb2, hq, hql⟩
        have B2 := Lib.hid (bt hb.out hb2); have HQ := Lib.hid hq; have c2' := (RR.out.below B2.out).c2
        clear hb2 hq
        by_cases hkq : k < q
        · have d := decide_eq_true (show (k : Int) < (q : Int) by omega)
          have dN := decide_eq_true hkq
          clear hkq
          go_wp2
          go_roundw
          case rel => exact ⟨at_, q, 2, rfl, rfl, rfl, by omega, Lib.hid B2.out, HQ, hql⟩
          case measure => simp [intOf]
        · have d := decide_eq_false (show ¬ (k : Int) < (q : Int) by omega)
          have dN := decide_eq_false hkq
          clear hkq
          go_wp2
          go_roundw
          case rel => exact ⟨f, k, 2, rfl, rfl, rfl, by omega, Lib.hid B2.out, he, hk⟩
          case measure => simp [intOf]
    | 2, _ =>
      obtain ⟨T, hT⟩ : ∃ T : Int, (at_ : Int) + D = T := ⟨_, rfl⟩
      have hTl : T ≤ 2000 := by omega
      have hTm : -2000 ≤ T := by omega
      have HT : Hid (T ≤ 5000) := Lib.hid (by omega)
      by_cases hf : T = f
      · have d1 : (T == f) = true := beq_iff_eq.2 hf
        by_cases hk0 : 0 < k
        · have d2 := decide_eq_true (show (0 : Int) < (k : Int) by omega)
          clear hf
          go_wp2
          go_roundw
          case rel => exact ⟨f, k, 3, rfl, rfl, rfl, by omega, hb, he, hk⟩
          case measure => simp [intOf]
        have d2 := decide_eq_false (show ¬ (0 : Int) < (k : Int) by omega)
        clear hf
        go_wp2_with fail
        refine (EQ.out wr T hb.out HT.out).mono ?_; rintro e w2 ⟨q, rfl, hb2, hq, hql⟩
        have B2 := Lib.hid (bt hb.out hb2); have HQ := Lib.hid hq; have c2' := (RR.out.below B2.out).c2
        clear hb2 hq
        by_cases hkq : k < q
        · have d := decide_eq_true (show (k : Int) < (q : Int) by omega)
          have dN := decide_eq_true hkq
          clear hkq
          go_wp2
          go_roundw
          case rel => exact ⟨T, q, 3, rfl, rfl, rfl, by omega, Lib.hid B2.out, HQ, hql⟩
          case measure => simp [intOf]
        · have d := decide_eq_false (show ¬ (k : Int) < (q : Int) by omega)
          have dN := decide_eq_false hkq
          clear hkq
          go_wp2
          go_roundw
          case rel => exact ⟨f, k, 3, rfl, rfl, rfl, by omega, Lib.hid B2.out, he, hk⟩
          case measure => simp [intOf]
      · have d1 : (T == f) = false := beq_eq_false_iff_ne.2 hf
        clear hf
        go_wp2_with fail
        refine (EQ.out wr T hb.out HT.out).mono ?_; rintro e w2 ⟨q, rfl, hb2, hq, hql⟩
        have B2 := Lib.hid (bt hb.out hb2); have HQ := Lib.hid hq; have c2' := (RR.out.below B2.out).c2
        clear hb2 hq
        by_cases hkq : k < q
        · have d := decide_eq_true (show (k : Int) < (q : Int) by omega)
          have dN := decide_eq_true hkq
          clear hkq
          go_wp2
          go_roundw
          case rel => exact ⟨T, q, 3, rfl, rfl, rfl, by omega, Lib.hid B2.out, HQ, hql⟩
          case measure => simp [intOf]
        · have d := decide_eq_false (show ¬ (k : Int) < (q : Int) by omega)
          have dN := decide_eq_false hkq
          clear hkq
          go_wp2
          go_roundw
          case rel => exact ⟨f, k, 3, rfl, rfl, rfl, by omega, Lib.hid B2.out, he, hk⟩
          case measure => simp [intOf]
end Go.Proofs.Ytaidlcnfkdaijaa
