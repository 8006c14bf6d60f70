import Derived.Test.YtgfaadfkeeehgaaGetC
import Derived.LoopTactic
namespace Go.Proofs.Ytgfaadfkeeehgaa
open Go.ChangeShapes Go.WideShapes Go.ChangeAt Go.RowKit
set_option linter.unusedVariables false
theorem resG_zero (bs : List Nat) (f k : Nat) : (resG bs f k).2 = 0 → (resG bs f k).1 = 0 := by
  induction f generalizing k with
  | zero => intro _; simp [resG]
  | succ f ih =>
    simp only [resG]
    split
    · split
      · intro _; rfl
      · split
        · split
          · intro _; rfl
          · intro h; simp only at h; omega
        · exact ih (k + 1)
    · intro _; rfl
theorem groups_len {w : World} {h o cap n : Nat} {bs : List Nat} (hn : bs.length = n) (hb : ∀ j, j < bs.length → w.cell? ⟨h, o + j, none⟩ = some (.int .u8 (bs.getD j 0 : Nat))) (hl : bs.length ≤ 1000000) :
    Calls Try.prog 21 #[.slice (some ⟨h, o, none⟩) n cap] w fun e w' => e = .returned (.tuple #[.int .u64 (resG bs (bs.length + 1) 0).1, .int .i64 (resG bs (bs.length + 1) 0).2]) ∧ w = w' := by
  subst hn; exact groups_any hb hl
set_option maxRecDepth 100000 in
set_option maxHeartbeats 1000000 in
theorem ref_00 {w : World} {h o cap : Nat} {c : Nat} {t : List Nat} (c0 : w.cell? ⟨h, o, none⟩ = some (.int .u8 (c : Nat))) (hlt : h < w.heap.size) (hc : c < 256) (hl : t.length ≤ 900000) (hcap : t.length + 1 ≤ cap) (h6 : six c = false) (h7 : sev c = false) :
    Calls Try.prog 13 #[.slice (some ⟨h, o, none⟩) (t.length + 1) cap] w fun e w' => e = .returned (.tuple #[.agg #[.int .i64 (c % 64 : Nat), .int .i64 0, .int .i64 0], .int .i64 1]) ∧ Below w.heap.size w w' := by
  have e64 := and_64 c hc
  have e128 := and_128 c hc
  rw [h6] at e64; rw [h7] at e128
  have e64 : (bits .and .u8 ((c : Nat) : Int) 64 == 0) = true := by simpa [bne] using e64
  have e128 : (bits .and .u8 ((c : Nat) : Int) 128 == 0) = true := by simpa [bne] using e128
  have e63 := and_63 c hc
  clear h6 h7
  go_enter Try.func13, Try.ntmps13
  go_wp2
  refine wp_loop_rounds 3 ?_
  rw [rounds_succ]
  go_wp2
  rw [rounds_succ]
  go_wp2
  rw [rounds_succ]
  go_wp2
  go_returns
  exact ⟨rfl, by go_grown⟩
set_option maxRecDepth 100000 in
set_option maxHeartbeats 4000000 in
theorem ref_01 {w : World} {h o cap : Nat} {c : Nat} {t : List Nat} (hb : ∀ j, j < (c :: t).length → w.cell? ⟨h, o + j, none⟩ = some (.int .u8 ((c :: t).getD j 0 : Nat))) (hlt : h < w.heap.size) (hc : c < 256) (hl : t.length ≤ 900000) (hcap : t.length + 1 ≤ cap) (h6 : six c = false) (h7 : sev c = true) :
    Calls Try.prog 13 #[.slice (some ⟨h, o, none⟩) (t.length + 1) cap] w fun e w' => e = .returned (.tuple #[.agg #[.int .i64 (getS (c :: t)).1.1, .int .i64 (getS (c :: t)).1.2.1, .int .i64 (getS (c :: t)).1.2.2], .int .i64 (getS (c :: t)).2]) ∧ Below w.heap.size w w' := by
  obtain ⟨r, hr⟩ : ∃ r, r = getS (c :: t) := ⟨_, rfl⟩
  rw [← hr]
  rw [getS_cons, h6, h7] at hr
  have HR := Lib.hid hr; clear hr
  have e64 := and_64 c hc
  have e128 := and_128 c hc
  rw [h6] at e64; rw [h7] at e128
  have e64 : (bits .and .u8 ((c : Nat) : Int) 64 == 0) = true := by simpa [bne] using e64
  have e128 : (bits .and .u8 ((c : Nat) : Int) 128 == 0) = false := by simpa [bne] using e128
  have e63 := and_63 c hc
  have c0 : w.cell? ⟨h, o, none⟩ = some (.int .u8 (c : Nat)) := hb 0 (by simp)
  have HT : Hid (∀ W : World, (∀ p : Addr, p.block = h → W.cell? p = w.cell? p) → ∀ j, j < t.length → W.cell? ⟨h, o + 1 + j, none⟩ = some (.int .u8 (t.getD j 0 : Nat))) := Lib.hid (fun W hW j hj => by
    have := hb (j + 1) (by simp; omega)
    rw [hW ⟨h, o + 1 + j, none⟩ rfl, show o + 1 + j = o + (j + 1) by omega, this]; rfl)
  clear h6 h7 hb
  obtain ⟨o1, ho1, ho1'⟩ := rest_at h o (t.length + 1) cap 1 (by omega) hcap
  have R1 := Lib.hid ho1'; clear ho1'
  have Ba := resG_in (t) ((t).length + 1) 0
  have La := resG_len (t) ((t).length + 1) 0
  have Za := resG_zero (t) ((t).length + 1) 0
  obtain ⟨ra, hra⟩ : ∃ r, r = resG (t) ((t).length + 1) 0 := ⟨_, rfl⟩
  rw [← hra] at Ba La Za
  have Ha := Lib.hid hra; clear hra
  obtain ⟨ua, ma⟩ := ra
  simp only at Ba La Za
  obtain ⟨na, rfl⟩ : ∃ n : Nat, ma = n := ⟨ma.toNat, by omega⟩
  by_cases hua : ua = 0
  · subst hua
    have E : Hid (r = ((0, 0, 0), 0)) := Lib.hid (by rw [HR.out]; simp only [opG]; rw [if_neg (by simp)]; simp [operG, ← Ha.out])
    clear Ba La Za
    go_enter Try.func13, Try.ntmps13
    go_wp2
    refine wp_loop_rounds 3 ?_
    rw [rounds_succ]
    go_wp2
    rw [rounds_succ]
    go_wp2_with fail
    refine (groups_len rfl (fun j hj => by rw [R1.out (by omega)]; exact HT.out _ (fun p hp => by first | rw [World.cell?_alloc_lt _ _ p (by simp; omega), World.cell?_alloc_lt w _ p (by omega)] | (rw [World.cell?_setCell_other _ _ _ _ (by intro e; subst e; simp at hp; omega), World.cell?_alloc_lt _ _ p (by simp; omega), World.cell?_alloc_lt w _ p (by omega)])) j hj) (by omega)).mono ?_; rintro e w3 ⟨rfl, rfl⟩
    rw [← Ha.out]
    go_wp2
    all_goals (go_returns; rw [E.out]; exact ⟨rfl, by go_grown⟩)
  · have E0 : Hid (r = ((((c % 64 : Nat) : Int), 0, unfoldN ua), 1 + (na : Int))) := Lib.hid (by rw [HR.out]; simp only [opG]; rw [if_neg (by simp)]; simp [operG, ← Ha.out, hua]; omega)
    have hma : ((na : Int) == 0) = false := beq_eq_false_iff_ne.2 (fun e => hua (Za e))
    have hmna : na ≠ 0 := fun e => hua (Za (by omega))
    have hua' : (ua == 0) = false := beq_eq_false_iff_ne.2 hua
    have hlna : na ≤ t.length := by have := La.2; (try rw [List.length_drop] at this); omega
    have tma : ua.tmod 2 = ua % 2 := Int.tmod_eq_emod_of_nonneg Ba.1
    have wva : IntKind.i64.wrap (ua / 2) = ua / 2 := by have := Ba; simp only [IntKind.wrap_i64]; omega
    have wwa : IntKind.i64.wrap (-1 - ua / 2) = -1 - ua / 2 := by have := Ba; simp only [IntKind.wrap_i64]; omega
    have wv'a : wrap64 (ua / 2) = ua / 2 := by have := Ba; unfold wrap64; omega
    have ww'a : wrap64 (-1 - ua / 2) = -1 - ua / 2 := by have := Ba; unfold wrap64; omega
    have NZa := Lib.hid hua
    clear Ba La Za hua
    by_cases hpa : ua % 2 = 1
    · have ep : (ua % 2 == 1) = true := beq_iff_eq.2 hpa
      have UF : Hid (unfoldN ua = -1 - ua / 2) := Lib.hid (by unfold unfoldN; rw [if_neg (by omega)]; omega)
      clear hpa
      go_enter Try.func13, Try.ntmps13
      go_wp2
      refine wp_loop_rounds 3 ?_
      rw [rounds_succ]
      go_wp2
      rw [rounds_succ]
      go_wp2_with fail
      refine (groups_len rfl (fun j hj => by rw [R1.out (by omega)]; exact HT.out _ (fun p hp => by first | rw [World.cell?_alloc_lt _ _ p (by simp; omega), World.cell?_alloc_lt w _ p (by omega)] | (rw [World.cell?_setCell_other _ _ _ _ (by intro e; subst e; simp at hp; omega), World.cell?_alloc_lt _ _ p (by simp; omega), World.cell?_alloc_lt w _ p (by omega)])) j hj) (by omega)).mono ?_; rintro e w3 ⟨rfl, rfl⟩
      rw [← Ha.out]
      go_wp2
      rw [rounds_succ]
      go_wp2
      go_returns
      rw [E0.out, UF.out]
      exact ⟨rfl, by go_grown⟩
    · have ep : (ua % 2 == 1) = false := beq_eq_false_iff_ne.2 hpa
      have UF : Hid (unfoldN ua = ua / 2) := Lib.hid (by unfold unfoldN; rw [if_pos (by omega)])
      clear hpa
      go_enter Try.func13, Try.ntmps13
      go_wp2
      refine wp_loop_rounds 3 ?_
      rw [rounds_succ]
      go_wp2
      rw [rounds_succ]
      go_wp2_with fail
      refine (groups_len rfl (fun j hj => by rw [R1.out (by omega)]; exact HT.out _ (fun p hp => by first | rw [World.cell?_alloc_lt _ _ p (by simp; omega), World.cell?_alloc_lt w _ p (by omega)] | (rw [World.cell?_setCell_other _ _ _ _ (by intro e; subst e; simp at hp; omega), World.cell?_alloc_lt _ _ p (by simp; omega), World.cell?_alloc_lt w _ p (by omega)])) j hj) (by omega)).mono ?_; rintro e w3 ⟨rfl, rfl⟩
      rw [← Ha.out]
      go_wp2
      rw [rounds_succ]
      go_wp2
      go_returns
      rw [E0.out, UF.out]
      exact ⟨rfl, by go_grown⟩
set_option maxRecDepth 100000 in
set_option maxHeartbeats 4000000 in
theorem ref_10 {w : World} {h o cap : Nat} {c : Nat} {t : List Nat} (hb : ∀ j, j < (c :: t).length → w.cell? ⟨h, o + j, none⟩ = some (.int .u8 ((c :: t).getD j 0 : Nat))) (hlt : h < w.heap.size) (hc : c < 256) (hl : t.length ≤ 900000) (hcap : t.length + 1 ≤ cap) (h6 : six c = true) (h7 : sev c = false) :
    Calls Try.prog 13 #[.slice (some ⟨h, o, none⟩) (t.length + 1) cap] w fun e w' => e = .returned (.tuple #[.agg #[.int .i64 (getS (c :: t)).1.1, .int .i64 (getS (c :: t)).1.2.1, .int .i64 (getS (c :: t)).1.2.2], .int .i64 (getS (c :: t)).2]) ∧ Below w.heap.size w w' := by
  obtain ⟨r, hr⟩ : ∃ r, r = getS (c :: t) := ⟨_, rfl⟩
  rw [← hr]
  rw [getS_cons, h6, h7] at hr
  have HR := Lib.hid hr; clear hr
  have e64 := and_64 c hc
  have e128 := and_128 c hc
  rw [h6] at e64; rw [h7] at e128
  have e64 : (bits .and .u8 ((c : Nat) : Int) 64 == 0) = false := by simpa [bne] using e64
  have e128 : (bits .and .u8 ((c : Nat) : Int) 128 == 0) = true := by simpa [bne] using e128
  have e63 := and_63 c hc
  have c0 : w.cell? ⟨h, o, none⟩ = some (.int .u8 (c : Nat)) := hb 0 (by simp)
  have HT : Hid (∀ W : World, (∀ p : Addr, p.block = h → W.cell? p = w.cell? p) → ∀ j, j < t.length → W.cell? ⟨h, o + 1 + j, none⟩ = some (.int .u8 (t.getD j 0 : Nat))) := Lib.hid (fun W hW j hj => by
    have := hb (j + 1) (by simp; omega)
    rw [hW ⟨h, o + 1 + j, none⟩ rfl, show o + 1 + j = o + (j + 1) by omega, this]; rfl)
  clear h6 h7 hb
  obtain ⟨o1, ho1, ho1'⟩ := rest_at h o (t.length + 1) cap 1 (by omega) hcap
  have R1 := Lib.hid ho1'; clear ho1'
  have Ba := resG_in (t) ((t).length + 1) 0
  have La := resG_len (t) ((t).length + 1) 0
  have Za := resG_zero (t) ((t).length + 1) 0
  obtain ⟨ra, hra⟩ : ∃ r, r = resG (t) ((t).length + 1) 0 := ⟨_, rfl⟩
  rw [← hra] at Ba La Za
  have Ha := Lib.hid hra; clear hra
  obtain ⟨ua, ma⟩ := ra
  simp only at Ba La Za
  obtain ⟨na, rfl⟩ : ∃ n : Nat, ma = n := ⟨ma.toNat, by omega⟩
  by_cases hua : ua = 0
  · subst hua
    have E : Hid (r = ((0, 0, 0), 0)) := Lib.hid (by rw [HR.out]; simp only [opG]; simp [operG, ← Ha.out])
    clear Ba La Za
    go_enter Try.func13, Try.ntmps13
    go_wp2
    refine wp_loop_rounds 3 ?_
    rw [rounds_succ]
    go_wp2_with fail
    refine (groups_len rfl (fun j hj => by rw [R1.out (by omega)]; exact HT.out _ (fun p hp => by first | rw [World.cell?_alloc_lt _ _ p (by simp; omega), World.cell?_alloc_lt w _ p (by omega)] | (rw [World.cell?_setCell_other _ _ _ _ (by intro e; subst e; simp at hp; omega), World.cell?_alloc_lt _ _ p (by simp; omega), World.cell?_alloc_lt w _ p (by omega)])) j hj) (by omega)).mono ?_; rintro e w3 ⟨rfl, rfl⟩
    rw [← Ha.out]
    go_wp2
    all_goals (go_returns; rw [E.out]; exact ⟨rfl, by go_grown⟩)
  · have E0 : Hid (r = ((((c % 64 : Nat) : Int), unfoldN ua, 0), 1 + (na : Int))) := Lib.hid (by rw [HR.out]; simp only [opG]; simp [operG, ← Ha.out, hua]; omega)
    have hma : ((na : Int) == 0) = false := beq_eq_false_iff_ne.2 (fun e => hua (Za e))
    have hmna : na ≠ 0 := fun e => hua (Za (by omega))
    have hua' : (ua == 0) = false := beq_eq_false_iff_ne.2 hua
    have hlna : na ≤ t.length := by have := La.2; (try rw [List.length_drop] at this); omega
    have tma : ua.tmod 2 = ua % 2 := Int.tmod_eq_emod_of_nonneg Ba.1
    have wva : IntKind.i64.wrap (ua / 2) = ua / 2 := by have := Ba; simp only [IntKind.wrap_i64]; omega
    have wwa : IntKind.i64.wrap (-1 - ua / 2) = -1 - ua / 2 := by have := Ba; simp only [IntKind.wrap_i64]; omega
    have wv'a : wrap64 (ua / 2) = ua / 2 := by have := Ba; unfold wrap64; omega
    have ww'a : wrap64 (-1 - ua / 2) = -1 - ua / 2 := by have := Ba; unfold wrap64; omega
    have NZa := Lib.hid hua
    clear Ba La Za hua
    by_cases hpa : ua % 2 = 1
    · have epa : (ua % 2 == 1) = true := beq_iff_eq.2 hpa
      have UFa : Hid (unfoldN ua = -1 - ua / 2) := Lib.hid (by unfold unfoldN; rw [if_neg (by omega)]; omega)
      clear hpa
      go_enter Try.func13, Try.ntmps13
      go_wp2
      refine wp_loop_rounds 3 ?_
      rw [rounds_succ]
      go_wp2_with fail
      refine (groups_len rfl (fun j hj => by rw [R1.out (by omega)]; exact HT.out _ (fun p hp => by first | rw [World.cell?_alloc_lt _ _ p (by simp; omega), World.cell?_alloc_lt w _ p (by omega)] | (rw [World.cell?_setCell_other _ _ _ _ (by intro e; subst e; simp at hp; omega), World.cell?_alloc_lt _ _ p (by simp; omega), World.cell?_alloc_lt w _ p (by omega)])) j hj) (by omega)).mono ?_; rintro e w3 ⟨rfl, rfl⟩
      rw [← Ha.out]
      go_wp2
      rw [rounds_succ]
      go_wp2
      rw [rounds_succ]
      go_wp2
      go_returns
      rw [E0.out, UFa.out]
      exact ⟨rfl, by go_grown⟩
    · have epa : (ua % 2 == 1) = false := beq_eq_false_iff_ne.2 hpa
      have UFa : Hid (unfoldN ua = ua / 2) := Lib.hid (by unfold unfoldN; rw [if_pos (by omega)])
      clear hpa
      go_enter Try.func13, Try.ntmps13
      go_wp2
      refine wp_loop_rounds 3 ?_
      rw [rounds_succ]
      go_wp2_with fail
      refine (groups_len rfl (fun j hj => by rw [R1.out (by omega)]; exact HT.out _ (fun p hp => by first | rw [World.cell?_alloc_lt _ _ p (by simp; omega), World.cell?_alloc_lt w _ p (by omega)] | (rw [World.cell?_setCell_other _ _ _ _ (by intro e; subst e; simp at hp; omega), World.cell?_alloc_lt _ _ p (by simp; omega), World.cell?_alloc_lt w _ p (by omega)])) j hj) (by omega)).mono ?_; rintro e w3 ⟨rfl, rfl⟩
      rw [← Ha.out]
      go_wp2
      rw [rounds_succ]
      go_wp2
      rw [rounds_succ]
      go_wp2
      go_returns
      rw [E0.out, UFa.out]
      exact ⟨rfl, by go_grown⟩
set_option maxRecDepth 100000 in
set_option maxHeartbeats 4000000 in
theorem ref_11 {w : World} {h o cap : Nat} {c : Nat} {t : List Nat} (hb : ∀ j, j < (c :: t).length → w.cell? ⟨h, o + j, none⟩ = some (.int .u8 ((c :: t).getD j 0 : Nat))) (hlt : h < w.heap.size) (hc : c < 256) (hl : t.length ≤ 900000) (hcap : t.length + 1 ≤ cap) (h6 : six c = true) (h7 : sev c = true) :
    Calls Try.prog 13 #[.slice (some ⟨h, o, none⟩) (t.length + 1) cap] w fun e w' => e = .returned (.tuple #[.agg #[.int .i64 (getS (c :: t)).1.1, .int .i64 (getS (c :: t)).1.2.1, .int .i64 (getS (c :: t)).1.2.2], .int .i64 (getS (c :: t)).2]) ∧ Below w.heap.size w w' := by
  obtain ⟨r, hr⟩ : ∃ r, r = getS (c :: t) := ⟨_, rfl⟩
  rw [← hr]
  rw [getS_cons, h6, h7] at hr
  have HR := Lib.hid hr; clear hr
  have e64 := and_64 c hc
  have e128 := and_128 c hc
  rw [h6] at e64; rw [h7] at e128
  have e64 : (bits .and .u8 ((c : Nat) : Int) 64 == 0) = false := by simpa [bne] using e64
  have e128 : (bits .and .u8 ((c : Nat) : Int) 128 == 0) = false := by simpa [bne] using e128
  have e63 := and_63 c hc
  have c0 : w.cell? ⟨h, o, none⟩ = some (.int .u8 (c : Nat)) := hb 0 (by simp)
  have HT : Hid (∀ W : World, (∀ p : Addr, p.block = h → W.cell? p = w.cell? p) → ∀ j, j < t.length → W.cell? ⟨h, o + 1 + j, none⟩ = some (.int .u8 (t.getD j 0 : Nat))) := Lib.hid (fun W hW j hj => by
    have := hb (j + 1) (by simp; omega)
    rw [hW ⟨h, o + 1 + j, none⟩ rfl, show o + 1 + j = o + (j + 1) by omega, this]; rfl)
  clear h6 h7 hb
  obtain ⟨o1, ho1, ho1'⟩ := rest_at h o (t.length + 1) cap 1 (by omega) hcap
  have R1 := Lib.hid ho1'; clear ho1'
  have Ba := resG_in (t) ((t).length + 1) 0
  have La := resG_len (t) ((t).length + 1) 0
  have Za := resG_zero (t) ((t).length + 1) 0
  obtain ⟨ra, hra⟩ : ∃ r, r = resG (t) ((t).length + 1) 0 := ⟨_, rfl⟩
  rw [← hra] at Ba La Za
  have Ha := Lib.hid hra; clear hra
  obtain ⟨ua, ma⟩ := ra
  simp only at Ba La Za
  obtain ⟨na, rfl⟩ : ∃ n : Nat, ma = n := ⟨ma.toNat, by omega⟩
  by_cases hua : ua = 0
  · subst hua
    have E : Hid (r = ((0, 0, 0), 0)) := Lib.hid (by rw [HR.out]; simp only [opG]; simp [operG, ← Ha.out])
    clear Ba La Za
    go_enter Try.func13, Try.ntmps13
    go_wp2
    refine wp_loop_rounds 3 ?_
    rw [rounds_succ]
    go_wp2_with fail
    refine (groups_len rfl (fun j hj => by rw [R1.out (by omega)]; exact HT.out _ (fun p hp => by first | rw [World.cell?_alloc_lt _ _ p (by simp; omega), World.cell?_alloc_lt w _ p (by omega)] | (rw [World.cell?_setCell_other _ _ _ _ (by intro e; subst e; simp at hp; omega), World.cell?_alloc_lt _ _ p (by simp; omega), World.cell?_alloc_lt w _ p (by omega)])) j hj) (by omega)).mono ?_; rintro e w3 ⟨rfl, rfl⟩
    rw [← Ha.out]
    go_wp2
    all_goals (go_returns; rw [E.out]; exact ⟨rfl, by go_grown⟩)
  · have PA : Hid (opG true t = (unfoldN ua, (na : Int))) := Lib.hid (by simp only [opG, operG, ← Ha.out]; simp [hua])
    have hma : ((na : Int) == 0) = false := beq_eq_false_iff_ne.2 (fun e => hua (Za e))
    have hmna : na ≠ 0 := fun e => hua (Za (by omega))
    have hua' : (ua == 0) = false := beq_eq_false_iff_ne.2 hua
    have hlna : na ≤ t.length := by have := La.2; (try rw [List.length_drop] at this); omega
    have tma : ua.tmod 2 = ua % 2 := Int.tmod_eq_emod_of_nonneg Ba.1
    have wva : IntKind.i64.wrap (ua / 2) = ua / 2 := by have := Ba; simp only [IntKind.wrap_i64]; omega
    have wwa : IntKind.i64.wrap (-1 - ua / 2) = -1 - ua / 2 := by have := Ba; simp only [IntKind.wrap_i64]; omega
    have wv'a : wrap64 (ua / 2) = ua / 2 := by have := Ba; unfold wrap64; omega
    have ww'a : wrap64 (-1 - ua / 2) = -1 - ua / 2 := by have := Ba; unfold wrap64; omega
    have NZa := Lib.hid hua
    clear Ba La Za hua
    have HR2 : Hid (r = if (opG true (t.drop na)).2 < 0 then ((0, 0, 0), 0) else ((((c % 64 : Nat) : Int), unfoldN ua, (opG true (t.drop na)).1), 1 + (na : Int) + (opG true (t.drop na)).2)) := Lib.hid (by rw [HR.out, PA.out]; simp only; rw [if_neg (by omega), Int.toNat_natCast])
    obtain ⟨o2, ho2, ho2'⟩ := rest_at h o (t.length + 1) cap (1 + na) (by omega) hcap
    have R2 := Lib.hid ho2'; clear ho2'
    have w1 : IntKind.i64.wrap (1 + (na : Int)) = 1 + na := by simp only [IntKind.wrap_i64]; omega
    have w2 : (1 + (na : Int)).toNat = 1 + na := by omega
    have w3 : (0 : Int) ≤ 1 + (na : Int) := by omega
    have w4 : 1 + (na : Int) ≤ (t.length : Int) + 1 := by omega
    have HD : Hid (∀ W : World, (∀ p : Addr, p.block = h → W.cell? p = w.cell? p) → ∀ j, j < (t.drop na).length → W.cell? ⟨h, o2 + j, none⟩ = some (.int .u8 ((t.drop na).getD j 0 : Nat))) := Lib.hid (fun W hW j hj => by
      rw [List.length_drop] at hj
      rw [R2.out (by omega)]
      have := HT.out W hW (na + j) (by omega)
      rw [show o + 1 + (na + j) = o + (1 + na) + j by omega] at this
      rw [this]; simp [List.getD])
    have Bb := resG_in (t.drop na) ((t.drop na).length + 1) 0
    have Lb := resG_len (t.drop na) ((t.drop na).length + 1) 0
    have Zb := resG_zero (t.drop na) ((t.drop na).length + 1) 0
    obtain ⟨rb, hrb⟩ : ∃ r, r = resG (t.drop na) ((t.drop na).length + 1) 0 := ⟨_, rfl⟩
    rw [← hrb] at Bb Lb Zb
    have Hb := Lib.hid hrb; clear hrb
    obtain ⟨ub, mb⟩ := rb
    simp only at Bb Lb Zb
    obtain ⟨nb, rfl⟩ : ∃ n : Nat, mb = n := ⟨mb.toNat, by omega⟩
    by_cases hub : ub = 0
    · subst hub
      have E : Hid (r = ((0, 0, 0), 0)) := Lib.hid (by rw [HR2.out]; simp only [opG, operG, ← Hb.out]; simp)
      clear Bb Lb Zb
      by_cases hpa : ua % 2 = 1
      · have epa : (ua % 2 == 1) = true := beq_iff_eq.2 hpa
        have UFa : Hid (unfoldN ua = -1 - ua / 2) := Lib.hid (by unfold unfoldN; rw [if_neg (by omega)]; omega)
        clear hpa
        go_enter Try.func13, Try.ntmps13
        go_wp2
        refine wp_loop_rounds 3 ?_
        rw [rounds_succ]
        go_wp2_with fail
        refine (groups_len rfl (fun j hj => by rw [R1.out (by omega)]; exact HT.out _ (fun p hp => by first | rw [World.cell?_alloc_lt _ _ p (by simp; omega), World.cell?_alloc_lt w _ p (by omega)] | (rw [World.cell?_setCell_other _ _ _ _ (by intro e; subst e; simp at hp; omega), World.cell?_alloc_lt _ _ p (by simp; omega), World.cell?_alloc_lt w _ p (by omega)])) j hj) (by omega)).mono ?_; rintro e w3 ⟨rfl, rfl⟩
        rw [← Ha.out]
        go_wp2
        rw [rounds_succ]
        go_wp2_with fail
        refine (groups_len (bs := t.drop na) (by rw [List.length_drop]; omega) (HD.out _ (fun p hp => by first | rw [World.cell?_setCell_other _ _ _ _ (by intro e; subst e; simp at hp; omega), World.cell?_alloc_lt _ _ p (by simp; omega), World.cell?_alloc_lt w _ p (by omega)] | rw [World.cell?_alloc_lt _ _ p (by simp; omega), World.cell?_alloc_lt w _ p (by omega)])) (by rw [List.length_drop]; omega)).mono ?_; rintro e w3 ⟨rfl, rfl⟩
        rw [← Hb.out]
        go_wp2
        all_goals (go_returns; rw [E.out]; exact ⟨rfl, by go_grown⟩)
      · have epa : (ua % 2 == 1) = false := beq_eq_false_iff_ne.2 hpa
        have UFa : Hid (unfoldN ua = ua / 2) := Lib.hid (by unfold unfoldN; rw [if_pos (by omega)])
        clear hpa
        go_enter Try.func13, Try.ntmps13
        go_wp2
        refine wp_loop_rounds 3 ?_
        rw [rounds_succ]
        go_wp2_with fail
        refine (groups_len rfl (fun j hj => by rw [R1.out (by omega)]; exact HT.out _ (fun p hp => by first | rw [World.cell?_alloc_lt _ _ p (by simp; omega), World.cell?_alloc_lt w _ p (by omega)] | (rw [World.cell?_setCell_other _ _ _ _ (by intro e; subst e; simp at hp; omega), World.cell?_alloc_lt _ _ p (by simp; omega), World.cell?_alloc_lt w _ p (by omega)])) j hj) (by omega)).mono ?_; rintro e w3 ⟨rfl, rfl⟩
        rw [← Ha.out]
        go_wp2
        rw [rounds_succ]
        go_wp2_with fail
        refine (groups_len (bs := t.drop na) (by rw [List.length_drop]; omega) (HD.out _ (fun p hp => by first | rw [World.cell?_setCell_other _ _ _ _ (by intro e; subst e; simp at hp; omega), World.cell?_alloc_lt _ _ p (by simp; omega), World.cell?_alloc_lt w _ p (by omega)] | rw [World.cell?_alloc_lt _ _ p (by simp; omega), World.cell?_alloc_lt w _ p (by omega)])) (by rw [List.length_drop]; omega)).mono ?_; rintro e w3 ⟨rfl, rfl⟩
        rw [← Hb.out]
        go_wp2
        all_goals (go_returns; rw [E.out]; exact ⟨rfl, by go_grown⟩)
    · have E0 : Hid (r = ((((c % 64 : Nat) : Int), unfoldN ua, unfoldN ub), 1 + (na : Int) + nb)) := Lib.hid (by rw [HR2.out]; simp only [opG, operG, ← Hb.out]; simp [hub]; omega)
      have hmb : ((nb : Int) == 0) = false := beq_eq_false_iff_ne.2 (fun e => hub (Zb e))
      have hmnb : nb ≠ 0 := fun e => hub (Zb (by omega))
      have hub' : (ub == 0) = false := beq_eq_false_iff_ne.2 hub
      have hlnb : nb ≤ t.length := by have := Lb.2; (try rw [List.length_drop] at this); omega
      have tmb : ub.tmod 2 = ub % 2 := Int.tmod_eq_emod_of_nonneg Bb.1
      have wvb : IntKind.i64.wrap (ub / 2) = ub / 2 := by have := Bb; simp only [IntKind.wrap_i64]; omega
      have wwb : IntKind.i64.wrap (-1 - ub / 2) = -1 - ub / 2 := by have := Bb; simp only [IntKind.wrap_i64]; omega
      have wv'b : wrap64 (ub / 2) = ub / 2 := by have := Bb; unfold wrap64; omega
      have ww'b : wrap64 (-1 - ub / 2) = -1 - ub / 2 := by have := Bb; unfold wrap64; omega
      have NZb := Lib.hid hub
      clear Bb Lb Zb hub
      have w5 : IntKind.i64.wrap (1 + (na : Int) + nb) = 1 + na + nb := by simp only [IntKind.wrap_i64]; omega
      by_cases hpa : ua % 2 = 1
      · have epa : (ua % 2 == 1) = true := beq_iff_eq.2 hpa
        have UFa : Hid (unfoldN ua = -1 - ua / 2) := Lib.hid (by unfold unfoldN; rw [if_neg (by omega)]; omega)
        clear hpa
        by_cases hpb : ub % 2 = 1
        · have epb : (ub % 2 == 1) = true := beq_iff_eq.2 hpb
          have UFb : Hid (unfoldN ub = -1 - ub / 2) := Lib.hid (by unfold unfoldN; rw [if_neg (by omega)]; omega)
          clear hpb
          go_enter Try.func13, Try.ntmps13
          go_wp2
          refine wp_loop_rounds 3 ?_
          rw [rounds_succ]
          go_wp2_with fail
          refine (groups_len rfl (fun j hj => by rw [R1.out (by omega)]; exact HT.out _ (fun p hp => by first | rw [World.cell?_alloc_lt _ _ p (by simp; omega), World.cell?_alloc_lt w _ p (by omega)] | (rw [World.cell?_setCell_other _ _ _ _ (by intro e; subst e; simp at hp; omega), World.cell?_alloc_lt _ _ p (by simp; omega), World.cell?_alloc_lt w _ p (by omega)])) j hj) (by omega)).mono ?_; rintro e w3 ⟨rfl, rfl⟩
          rw [← Ha.out]
          go_wp2
          rw [rounds_succ]
          go_wp2_with fail
          refine (groups_len (bs := t.drop na) (by rw [List.length_drop]; omega) (HD.out _ (fun p hp => by first | rw [World.cell?_setCell_other _ _ _ _ (by intro e; subst e; simp at hp; omega), World.cell?_alloc_lt _ _ p (by simp; omega), World.cell?_alloc_lt w _ p (by omega)] | rw [World.cell?_alloc_lt _ _ p (by simp; omega), World.cell?_alloc_lt w _ p (by omega)])) (by rw [List.length_drop]; omega)).mono ?_; rintro e w3 ⟨rfl, rfl⟩
          rw [← Hb.out]
          go_wp2
          rw [rounds_succ]
          go_wp2
          go_returns
          rw [E0.out, UFa.out, UFb.out]
          exact ⟨rfl, by go_grown⟩
        · have epb : (ub % 2 == 1) = false := beq_eq_false_iff_ne.2 hpb
          have UFb : Hid (unfoldN ub = ub / 2) := Lib.hid (by unfold unfoldN; rw [if_pos (by omega)])
          clear hpb
          go_enter Try.func13, Try.ntmps13
          go_wp2
          refine wp_loop_rounds 3 ?_
          rw [rounds_succ]
          go_wp2_with fail
          refine (groups_len rfl (fun j hj => by rw [R1.out (by omega)]; exact HT.out _ (fun p hp => by first | rw [World.cell?_alloc_lt _ _ p (by simp; omega), World.cell?_alloc_lt w _ p (by omega)] | (rw [World.cell?_setCell_other _ _ _ _ (by intro e; subst e; simp at hp; omega), World.cell?_alloc_lt _ _ p (by simp; omega), World.cell?_alloc_lt w _ p (by omega)])) j hj) (by omega)).mono ?_; rintro e w3 ⟨rfl, rfl⟩
          rw [← Ha.out]
          go_wp2
          rw [rounds_succ]
          go_wp2_with fail
          refine (groups_len (bs := t.drop na) (by rw [List.length_drop]; omega) (HD.out _ (fun p hp => by first | rw [World.cell?_setCell_other _ _ _ _ (by intro e; subst e; simp at hp; omega), World.cell?_alloc_lt _ _ p (by simp; omega), World.cell?_alloc_lt w _ p (by omega)] | rw [World.cell?_alloc_lt _ _ p (by simp; omega), World.cell?_alloc_lt w _ p (by omega)])) (by rw [List.length_drop]; omega)).mono ?_; rintro e w3 ⟨rfl, rfl⟩
          rw [← Hb.out]
          go_wp2
          rw [rounds_succ]
          go_wp2
          go_returns
          rw [E0.out, UFa.out, UFb.out]
          exact ⟨rfl, by go_grown⟩
      · have epa : (ua % 2 == 1) = false := beq_eq_false_iff_ne.2 hpa
        have UFa : Hid (unfoldN ua = ua / 2) := Lib.hid (by unfold unfoldN; rw [if_pos (by omega)])
        clear hpa
        by_cases hpb : ub % 2 = 1
        · have epb : (ub % 2 == 1) = true := beq_iff_eq.2 hpb
          have UFb : Hid (unfoldN ub = -1 - ub / 2) := Lib.hid (by unfold unfoldN; rw [if_neg (by omega)]; omega)
          clear hpb
          go_enter Try.func13, Try.ntmps13
          go_wp2
          refine wp_loop_rounds 3 ?_
          rw [rounds_succ]
          go_wp2_with fail
          refine (groups_len rfl (fun j hj => by rw [R1.out (by omega)]; exact HT.out _ (fun p hp => by first | rw [World.cell?_alloc_lt _ _ p (by simp; omega), World.cell?_alloc_lt w _ p (by omega)] | (rw [World.cell?_setCell_other _ _ _ _ (by intro e; subst e; simp at hp; omega), World.cell?_alloc_lt _ _ p (by simp; omega), World.cell?_alloc_lt w _ p (by omega)])) j hj) (by omega)).mono ?_; rintro e w3 ⟨rfl, rfl⟩
          rw [← Ha.out]
          go_wp2
          rw [rounds_succ]
          go_wp2_with fail
          refine (groups_len (bs := t.drop na) (by rw [List.length_drop]; omega) (HD.out _ (fun p hp => by first | rw [World.cell?_setCell_other _ _ _ _ (by intro e; subst e; simp at hp; omega), World.cell?_alloc_lt _ _ p (by simp; omega), World.cell?_alloc_lt w _ p (by omega)] | rw [World.cell?_alloc_lt _ _ p (by simp; omega), World.cell?_alloc_lt w _ p (by omega)])) (by rw [List.length_drop]; omega)).mono ?_; rintro e w3 ⟨rfl, rfl⟩
          rw [← Hb.out]
          go_wp2
          rw [rounds_succ]
          go_wp2
          go_returns
          rw [E0.out, UFa.out, UFb.out]
          exact ⟨rfl, by go_grown⟩
        · have epb : (ub % 2 == 1) = false := beq_eq_false_iff_ne.2 hpb
          have UFb : Hid (unfoldN ub = ub / 2) := Lib.hid (by unfold unfoldN; rw [if_pos (by omega)])
          clear hpb
          go_enter Try.func13, Try.ntmps13
          go_wp2
          refine wp_loop_rounds 3 ?_
          rw [rounds_succ]
          go_wp2_with fail
          refine (groups_len rfl (fun j hj => by rw [R1.out (by omega)]; exact HT.out _ (fun p hp => by first | rw [World.cell?_alloc_lt _ _ p (by simp; omega), World.cell?_alloc_lt w _ p (by omega)] | (rw [World.cell?_setCell_other _ _ _ _ (by intro e; subst e; simp at hp; omega), World.cell?_alloc_lt _ _ p (by simp; omega), World.cell?_alloc_lt w _ p (by omega)])) j hj) (by omega)).mono ?_; rintro e w3 ⟨rfl, rfl⟩
          rw [← Ha.out]
          go_wp2
          rw [rounds_succ]
          go_wp2_with fail
          refine (groups_len (bs := t.drop na) (by rw [List.length_drop]; omega) (HD.out _ (fun p hp => by first | rw [World.cell?_setCell_other _ _ _ _ (by intro e; subst e; simp at hp; omega), World.cell?_alloc_lt _ _ p (by simp; omega), World.cell?_alloc_lt w _ p (by omega)] | rw [World.cell?_alloc_lt _ _ p (by simp; omega), World.cell?_alloc_lt w _ p (by omega)])) (by rw [List.length_drop]; omega)).mono ?_; rintro e w3 ⟨rfl, rfl⟩
          rw [← Hb.out]
          go_wp2
          rw [rounds_succ]
          go_wp2
          go_returns
          rw [E0.out, UFa.out, UFb.out]
          exact ⟨rfl, by go_grown⟩
theorem getref {w : World} {h o cap : Nat} {c : Nat} {t : List Nat} (hb : ∀ j, j < (c :: t).length → w.cell? ⟨h, o + j, none⟩ = some (.int .u8 ((c :: t).getD j 0 : Nat))) (hlt : h < w.heap.size) (hc : c < 256) (hl : t.length ≤ 900000) (hcap : t.length + 1 ≤ cap) :
    Calls Try.prog 13 #[.slice (some ⟨h, o, none⟩) (t.length + 1) cap] w fun e w' => e = .returned (.tuple #[.agg #[.int .i64 (getS (c :: t)).1.1, .int .i64 (getS (c :: t)).1.2.1, .int .i64 (getS (c :: t)).1.2.2], .int .i64 (getS (c :: t)).2]) ∧ Below w.heap.size w w' := by
  cases h6 : six c <;> cases h7 : sev c
  · have := ref_00 (hb 0 (by simp)) hlt hc hl hcap h6 h7
    rw [show getS (c :: t) = ((((c % 64 : Nat) : Int), 0, 0), 1) from by rw [getS_cons, h6, h7]; simp [opG]]
    exact this
  · exact ref_01 hb hlt hc hl hcap h6 h7
  · exact ref_10 hb hlt hc hl hcap h6 h7
  · exact ref_11 hb hlt hc hl hcap h6 h7
end Go.Proofs.Ytgfaadfkeeehgaa
