import Derived.Test.YtaidlcnfkdaijaaNextB
namespace Go.Proofs.Ytaidlcnfkdaijaa
open Go.ChangeShapes Go.WideShapes Go.ChangeAt Go.RowKit
set_option linter.unusedVariables false
def NextPost (w : World) (g h n : Nat) (ov : Value) (old b : List Nat) (e : Ending) (w' : World) : Prop :=
  match nextS old b with
  | none => e = .returned (.slice none 0 0) ∧ w.grownBy w' (some g)
  | some (p, rest) => ∃ hp op cp, e = .returned (.slice (some ⟨hp, op, none⟩) p.length cp) ∧ w.grownBy w' (some g) ∧ 0 < p.length ∧ p.length ≤ cp ∧ hp ≠ g ∧ hp < w.heap.size ∧ (∀ j, j < p.length → w.cell? ⟨hp, op + j, none⟩ = some (.int .u8 (p.getD j 0 : Nat))) ∧
      ∃ o' n' cap', RObj w' g ov (.slice (some ⟨h, o', none⟩) n' cap') ∧ rest.length = n' ∧ n' ≤ cap' ∧ n' < n ∧ ∀ j, j < rest.length → w'.cell? ⟨h, o' + j, none⟩ = some (.int .u8 (rest.getD j 0 : Nat))
theorem NextPost.none_ {w : World} {g h n : Nat} {ov : Value} {old b : List Nat} {e : Ending} {w' : World} (hn : nextS old b = none) (he : e = .returned (.slice none 0 0)) (hw : w.grownBy w' (some g)) : NextPost w g h n ov old b e w' := by
  unfold NextPost; rw [hn]; exact ⟨he, hw⟩
theorem only_trans {a b c : World} {g : Nat} (h : a.grownBy b (some g)) (k : b.grownBy c (some g)) : a.grownBy c (some g) :=
  ⟨k.os.trans h.os, k.tape.trans h.tape, k.output.trans h.output, Nat.le_trans h.size k.size, fun i hi hne => (k.block i (Nat.lt_of_lt_of_le hi h.size) hne).trans (h.block i hi hne)⟩
set_option maxRecDepth 100000 in
set_option maxHeartbeats 2000000 in
theorem next_other {w : World} {g h o n cap : Nat} {A : Option Addr} {no co : Nat} {old : List Nat} {k : Nat} {t : List Nat} (r : RObj w g (.slice A no co) (.slice (some ⟨h, o, none⟩) n cap)) (hg : h ≠ g) (hn : t.length + 1 = n) (hb : ∀ j, j < (k :: t).length → w.cell? ⟨h, o + j, none⟩ = some (.int .u8 ((k :: t).getD j 0 : Nat))) (hl : n ≤ 1000) (hcap : n ≤ cap)
    (k1 : k ≠ 1) (k2 : k ≠ 2) :
    Calls Try.prog 14 #[.pointer (some ⟨g, 0, none⟩)] w fun e w' => NextPost w g h n (.slice A no co) old (k :: t) e w' := by
  have NX : Hid (nextS old (k :: t) = none) := Lib.hid (by simp only [nextS]; rw [if_neg k1, if_neg k2])
  have x0 : w.cell? ⟨h, o, none⟩ = some (.int .u8 (k : Nat)) := hb 0 (by simp)
  have c0 := r.c0; have c1 := r.c1; have f1 := r.f 1
  have e1 : ((k : Int) == 1) = false := beq_eq_false_iff_ne.2 (by omega)
  have e2 : ((k : Int) == 2) = false := beq_eq_false_iff_ne.2 (by omega)
  have e3 : ((k : Int) != 1) = true := bne_iff_ne.2 (by omega)
  have e4 : ((k : Int) != 2) = true := bne_iff_ne.2 (by omega)
  obtain ⟨o1, ho1, ho1'⟩ := rest_at h o n cap 1 (by omega) hcap
  have HT : Hid (∀ W : World, (∀ p : Addr, p.block = h → W.cell? p = w.cell? p) → ∀ j, j < t.length → W.cell? ⟨h, o1 + j, none⟩ = some (.int .u8 (t.getD j 0 : Nat))) := Lib.hid (fun W hW j hj => by
    have := hb (j + 1) (by simp; omega)
    rw [hW ⟨h, o1 + j, none⟩ rfl, ho1' (by omega), show o + 1 + j = o + (j + 1) by omega, this]; rfl)
  have hpos : 1 ≤ n := by omega
  have hpos2 : 0 < n := by omega
  have hgh : ∀ q v, (w.setCell ⟨g, 1, none⟩ v).cell? ⟨h, q, none⟩ = w.cell? ⟨h, q, none⟩ := fun q v => World.cell?_setCell_other _ _ _ _ (by intro e; injection e with e; exact hg e.symm)
  have RR := Lib.hid r
  have TL := Lib.hid hn
  have HG := Lib.hid hgh
  clear hb r ho1' k1 k2 hn hgh
  go_enter Try.func14, Try.ntmps14
  go_wp2
  go_quiet (fail)
  go_wp2_with fail
  have R3 := Lib.hid ((RR.out.set (.slice (some ⟨h, o1, none⟩) (n - 1) (cap - 1))).drewN nq)
  refine (num_r (b := t) R3.out hg (by have := TL.out; omega) (HT.out _ (fun p hp => World.cell?_setCell_other _ _ _ _ (by intro e; subst e; exact hg hp.symm))) (by omega) (by omega)).mono ?_
  rintro e w5 ⟨rfl, o5, n5, cap5, r5, hc5, hn5, gr5, _, _⟩
  have GR := Lib.hid (only_trans (only_drewN (only_set (only_refl w g) 1 (.slice (some ⟨h, o1, none⟩) (n - 1) (cap - 1))) nq) gr5)
  clear r5 gr5
  go_wp2
  all_goals (go_ret; exact NextPost.none_ NX.out rfl GR.out)
set_option maxRecDepth 100000 in
set_option maxHeartbeats 2000000 in
theorem next_two {w : World} {g h o n cap : Nat} {A : Option Addr} {no co : Nat} {old : List Nat} {t : List Nat} (r : RObj w g (.slice A no co) (.slice (some ⟨h, o, none⟩) n cap)) (hg : h ≠ g) (hn : t.length + 1 = n) (hb : ∀ j, j < (2 :: t).length → w.cell? ⟨h, o + j, none⟩ = some (.int .u8 ((2 :: t).getD j 0 : Nat))) (hl : n ≤ 1000) (hcap : n ≤ cap)
    (_u : True) :
    Calls Try.prog 14 #[.pointer (some ⟨g, 0, none⟩)] w fun e w' => NextPost w g h n (.slice A no co) old (2 :: t) e w' := by
  have x0 : w.cell? ⟨h, o, none⟩ = some (.int .u8 ((2 : Nat) : Int)) := hb 0 (by simp)
  have c0 := r.c0; have c1 := r.c1; have f1 := r.f 1
  obtain ⟨o1, ho1, ho1'⟩ := rest_at h o n cap 1 (by omega) hcap
  have HT : Hid (∀ W : World, (∀ p : Addr, p.block = h → W.cell? p = w.cell? p) → ∀ j, j < t.length → W.cell? ⟨h, o1 + j, none⟩ = some (.int .u8 (t.getD j 0 : Nat))) := Lib.hid (fun W hW j hj => by
    have := hb (j + 1) (by simp; omega)
    rw [hW ⟨h, o1 + j, none⟩ rfl, ho1' (by omega), show o + 1 + j = o + (j + 1) by omega, this]; rfl)
  have hpos : 1 ≤ n := by omega
  have hpos2 : 0 < n := by omega
  have hgh : ∀ q v, (w.setCell ⟨g, 1, none⟩ v).cell? ⟨h, q, none⟩ = w.cell? ⟨h, q, none⟩ := fun q v => World.cell?_setCell_other _ _ _ _ (by intro e; injection e with e; exact hg e.symm)
  have RR := Lib.hid r
  have TL := Lib.hid hn
  have HG := Lib.hid hgh
  have hlth : h < w.heap.size := World.block_lt_of_cell? w ⟨h, o, none⟩ x0
  have NI := numS_in t
  obtain ⟨ns, hns⟩ : ∃ ns, ns = numS t := ⟨_, rfl⟩
  have NX : Hid (nextS old (2 :: t) = if ns.1 < 1 then none else if ((t.drop ns.2).length : Int) < ns.1 then none else some ((t.drop ns.2).take ns.1.toNat, (t.drop ns.2).drop ns.1.toNat)) := Lib.hid (by rw [hns]; rfl)
  have NS := Lib.hid hns
  rw [← hns] at NI
  obtain ⟨m, s⟩ := ns
  simp only at NI NX
  have NIH := Lib.hid NI
  clear hb r ho1' hn hgh hns NI
  go_enter Try.func14, Try.ntmps14
  go_wp2
  go_quiet (fail)
  go_wp2_with fail
  have R3 := Lib.hid ((RR.out.set (.slice (some ⟨h, o1, none⟩) (n - 1) (cap - 1))).drewN nq)
  refine (num_r (b := t) R3.out hg (by have := TL.out; omega) (HT.out _ (fun p hp => World.cell?_setCell_other _ _ _ _ (by intro e; subst e; exact hg hp.symm))) (by omega) (by omega)).mono ?_
  rintro e w5 ⟨rfl, o5, n5, cap5, r5, hc5, hn5, gr5, hok, hbad⟩
  have GR := Lib.hid (only_trans (only_drewN (only_set (only_refl w g) 1 (.slice (some ⟨h, o1, none⟩) (n - 1) (cap - 1))) nq) gr5)
  rw [← NS.out] at hok hbad ⊢
  simp only at hok hbad ⊢
  have R5 := Lib.hid r5
  have HOK := Lib.hid hok; have HBAD := Lib.hid hbad
  have d0 := r5.c0; have d1 := r5.c1; have d2 := r5.f 1
  clear r5 gr5 hok hbad c0 c1 f1
  by_cases hm1 : m < 1
  · have N2 : Hid (nextS old (2 :: t) = none) := Lib.hid (by rw [NX.out, if_pos hm1])
    have dm : decide (m < 1) = true := decide_eq_true hm1
    clear hm1
    go_wp2
    all_goals (go_ret; exact NextPost.none_ N2.out rfl GR.out)
  · have hm0 : m ≠ -1 := by omega
    obtain ⟨q1, q2⟩ := HOK.out hm0
    obtain ⟨M, rfl⟩ : ∃ M : Nat, m = M := ⟨m.toNat, by omega⟩
    have hM : 1 ≤ M := by omega
    have dm : decide ((M : Int) < 1) = false := decide_eq_false hm1
    have hdl : (t.drop s).length = n5 := by rw [List.length_drop]; have := TL.out; omega
    by_cases hbig : n5 < M
    · have N2 : Hid (nextS old (2 :: t) = none) := Lib.hid (by rw [NX.out, if_neg hm1, if_pos (by omega)])
      have dn : decide (n5 < M) = true := decide_eq_true hbig
      have dn2 : decide ((n5 : Int) < (M : Int)) = true := decide_eq_true (by omega)
      clear hbig hm1 hm0 q1 q2 hdl
      go_wp2
      all_goals (go_ret; exact NextPost.none_ N2.out rfl GR.out)
    · have N2 : Hid (nextS old (2 :: t) = some ((t.drop s).take M, (t.drop s).drop M)) := Lib.hid (by rw [NX.out, if_neg hm1, if_neg (by omega), Int.toNat_natCast])
      have dn : decide (n5 < M) = false := decide_eq_false hbig
      have dn2 : decide ((n5 : Int) < (M : Int)) = false := decide_eq_false (by omega)
      obtain ⟨o6, ho6, ho6'⟩ := rest_at h o5 n5 cap5 M (by omega) hc5
      have R6 := Lib.hid ho6'
      have hMn : M ≤ n5 := by omega
      have hMc : M ≤ cap5 := by omega
      have nz : ¬ cap5 = 0 := by omega
      have CE : Hid (∀ j, j < (t.drop s).length → w.cell? ⟨h, o5 + j, none⟩ = some (.int .u8 ((t.drop s).getD j 0 : Nat))) := Lib.hid (fun j hj => by
        rw [← q2 j hj]; exact (World.cell?_of_block (a := ⟨h, o5 + j, none⟩) (GR.out.block h hlth (by intro e; injection e with e; exact hg e))).symm)
      have QE := Lib.hid q2
      have HDL := Lib.hid hdl
      have Q1 := Lib.hid q1
      clear hbig hm1 hm0 q1 q2 hdl ho6'
      go_wp2
      go_ret
      have PL : ((t.drop s).take M).length = M := by rw [List.length_take, HDL.out]; omega
      unfold NextPost
      rw [N2.out]
      refine ⟨h, o5, cap5, by rw [PL]; rfl, only_set GR.out _ _, by rw [PL]; omega, by rw [PL]; exact hMc, hg, hlth, fun j hj => ?_, o6, _, _, R5.out.set _, ?_, ?_, ?_, fun j hj => ?_⟩
      · rw [PL] at hj
        rw [CE.out j (by rw [HDL.out]; omega)]
        simp [List.getD, hj]
      · rw [List.length_drop, HDL.out]
      · omega
      · have := TL.out; omega
      · rw [List.length_drop, HDL.out] at hj
        rw [World.cell?_setCell_other _ _ _ _ (by intro e; injection e with e; exact hg e.symm), R6.out (by omega)]
        have := QE.out (M + j) (by rw [HDL.out]; omega)
        rw [show o5 + (M + j) = o5 + M + j by omega] at this
        rw [this]; simp [List.getD, Nat.add_assoc]
set_option maxRecDepth 100000 in
set_option maxHeartbeats 2000000 in
theorem next_one {w : World} {g h o n cap : Nat} {A : Option Addr} {no co : Nat} {old : List Nat} {t : List Nat} (r : RObj w g (.slice A no co) (.slice (some ⟨h, o, none⟩) n cap)) (hg : h ≠ g) (hn : t.length + 1 = n) (hb : ∀ j, j < (1 :: t).length → w.cell? ⟨h, o + j, none⟩ = some (.int .u8 ((1 :: t).getD j 0 : Nat))) (hl : n ≤ 1000) (hcap : n ≤ cap)
    (hol : old.length = no) (hno : no ≤ co) (hno2 : no ≤ 1000) (hold : 0 < no → ∃ ho oo, A = some ⟨ho, oo, none⟩ ∧ ho ≠ g ∧ ho < w.heap.size ∧ ∀ j, j < no → w.cell? ⟨ho, oo + j, none⟩ = some (.int .u8 (old.getD j 0 : Nat))) :
    Calls Try.prog 14 #[.pointer (some ⟨g, 0, none⟩)] w fun e w' => NextPost w g h n (.slice A no co) old (1 :: t) e w' := by
  have x0 : w.cell? ⟨h, o, none⟩ = some (.int .u8 ((1 : Nat) : Int)) := hb 0 (by simp)
  have c0 := r.c0; have c1 := r.c1; have f1 := r.f 1
  obtain ⟨o1, ho1, ho1'⟩ := rest_at h o n cap 1 (by omega) hcap
  have HT : Hid (∀ W : World, (∀ p : Addr, p.block = h → W.cell? p = w.cell? p) → ∀ j, j < t.length → W.cell? ⟨h, o1 + j, none⟩ = some (.int .u8 (t.getD j 0 : Nat))) := Lib.hid (fun W hW j hj => by
    have := hb (j + 1) (by simp; omega)
    rw [hW ⟨h, o1 + j, none⟩ rfl, ho1' (by omega), show o + 1 + j = o + (j + 1) by omega, this]; rfl)
  have hpos : 1 ≤ n := by omega
  have hpos2 : 0 < n := by omega
  have hgh : ∀ q v, (w.setCell ⟨g, 1, none⟩ v).cell? ⟨h, q, none⟩ = w.cell? ⟨h, q, none⟩ := fun q v => World.cell?_setCell_other _ _ _ _ (by intro e; injection e with e; exact hg e.symm)
  have RR := Lib.hid r
  have TL := Lib.hid hn
  have HG := Lib.hid hgh
  have hlth : h < w.heap.size := World.block_lt_of_cell? w ⟨h, o, none⟩ x0
  have NI := numS_in t
  obtain ⟨ns, hns⟩ : ∃ ns, ns = numS t := ⟨_, rfl⟩
  have NX : Hid (nextS old (1 :: t) = if ns.1 < 0 then none else if (numS (t.drop ns.2)).1 < 1 then none else if (old.length : Int) < ns.1 then none else if (old.length : Int) - ns.1 < (numS (t.drop ns.2)).1 then none else
      some ((old.drop ns.1.toNat).take (numS (t.drop ns.2)).1.toNat, (t.drop ns.2).drop (numS (t.drop ns.2)).2)) := Lib.hid (by rw [hns]; rfl)
  have HOLD := Lib.hid hold
  clear hold
  have NS := Lib.hid hns
  rw [← hns] at NI
  obtain ⟨m, s⟩ := ns
  simp only at NI NX
  have NIH := Lib.hid NI
  clear hb r ho1' hn hgh hns NI
  go_enter Try.func14, Try.ntmps14
  go_wp2
  go_quiet (fail)
  go_wp2_with fail
  have R3 := Lib.hid ((RR.out.set (.slice (some ⟨h, o1, none⟩) (n - 1) (cap - 1))).drewN nq)
  refine (num_r (b := t) R3.out hg (by have := TL.out; omega) (HT.out _ (fun p hp => World.cell?_setCell_other _ _ _ _ (by intro e; subst e; exact hg hp.symm))) (by omega) (by omega)).mono ?_
  rintro e w5 ⟨rfl, o5, n5, cap5, r5, hc5, hn5, gr5, hok, hbad⟩
  have GR := Lib.hid (only_trans (only_drewN (only_set (only_refl w g) 1 (.slice (some ⟨h, o1, none⟩) (n - 1) (cap - 1))) nq) gr5)
  rw [← NS.out] at hok hbad ⊢
  simp only at hok hbad ⊢
  have R5 := Lib.hid r5
  have HOK := Lib.hid hok; have HBAD := Lib.hid hbad
  clear r5 gr5 hok hbad c0 c1 f1
  by_cases hm1 : m < 0
  · have N2 : Hid (nextS old (1 :: t) = none) := Lib.hid (by rw [NX.out, if_pos hm1])
    have hm0 : m = -1 := by have := NIH.out.1; omega
    obtain ⟨q1, q2, q3⟩ := HBAD.out hm0
    have dm : decide (m < 0) = true := decide_eq_true hm1
    subst q1; subst q2; subst q3
    clear hm1 hm0
    go_wp2_with fail
    refine (num_r (b := t) R5.out hg (by have := TL.out; omega) (HT.out _ (fun p hp => World.cell?_setCell_other _ _ _ _ (by intro e; subst e; exact hg hp.symm))) (by omega) hc5).mono ?_
    rintro e w6 ⟨rfl, o6, n6, cap6, r6, hc6, hn6, gr6, _, _⟩
    have GR6 := Lib.hid (only_trans GR.out gr6)
    clear r6 gr6
    go_wp2
    all_goals (go_ret; exact NextPost.none_ N2.out rfl GR6.out)
  · have hm0 : m ≠ -1 := by omega
    obtain ⟨q1, q2⟩ := HOK.out hm0
    obtain ⟨F, rfl⟩ : ∃ F : Nat, m = F := ⟨m.toNat, by omega⟩
    have dm : decide ((F : Int) < 0) = false := decide_eq_false hm1
    have hdl : (t.drop s).length = n5 := by rw [List.length_drop]; have := TL.out; omega
    have Q2 := Lib.hid q2
    have NI2 := numS_in (t.drop s)
    have FB := NIH.out.2.1
    obtain ⟨ms, hms⟩ : ∃ ms, ms = numS (t.drop s) := ⟨_, rfl⟩
    have MS := Lib.hid hms
    have NX2 : Hid (nextS old (1 :: t) = if ms.1 < 1 then none else if (old.length : Int) < F then none else if (old.length : Int) - F < ms.1 then none else
      some ((old.drop F).take ms.1.toNat, (t.drop s).drop ms.2)) := Lib.hid (by rw [NX.out, if_neg hm1, hms, Int.toNat_natCast])
    rw [← hms] at NI2
    obtain ⟨m2, s2⟩ := ms
    simp only at NI2 NX2
    have NI2H := Lib.hid NI2
    have FBH := Lib.hid FB
    clear hm1 hm0 q1 q2 hms NI2 FB
    go_wp2_with fail
    refine (num_r (b := t.drop s) R5.out hg hdl Q2.out (by omega) hc5).mono ?_
    rintro e w6 ⟨rfl, o6, n6, cap6, r6, hc6, hn6, gr6, hok6, _⟩
    rw [← MS.out] at hok6 ⊢
    simp only at hok6 ⊢
    have HOK6 := Lib.hid hok6
    have R6 := Lib.hid r6
    have GR6 := Lib.hid (only_trans GR.out gr6)
    clear r6 gr6 hok6
    by_cases hk1 : m2 < 1
    · have N2 : Hid (nextS old (1 :: t) = none) := Lib.hid (by rw [NX2.out, if_pos hk1])
      have dk : decide (m2 < 1) = true := decide_eq_true hk1
      clear hk1
      go_wp2
      all_goals (go_ret; exact NextPost.none_ N2.out rfl GR6.out)
    · have hk0 : m2 ≠ -1 := by omega
      obtain ⟨M, rfl⟩ : ∃ M : Nat, m2 = M := ⟨m2.toNat, by omega⟩
      have dk : decide ((M : Int) < 1) = false := decide_eq_false hk1
      by_cases hf : no < F
      · have N2 : Hid (nextS old (1 :: t) = none) := Lib.hid (by rw [NX2.out, if_neg hk1, if_pos (by omega)])
        have dn : decide (no < F) = true := decide_eq_true hf
        have dn2 : decide ((no : Int) < (F : Int)) = true := decide_eq_true (by omega)
        clear hf hk1 hk0
        go_wp2
        all_goals (go_ret; exact NextPost.none_ N2.out rfl GR6.out)
      · have dn : decide (no < F) = false := decide_eq_false hf
        have dn2 : decide ((no : Int) < (F : Int)) = false := decide_eq_false (by omega)
        have WS : Hid (IntKind.i64.wrap ((no : Int) - F) = no - F ∧ wrap64 ((no : Int) - F) = no - F) := Lib.hid (by refine ⟨?_, ?_⟩; (simp only [IntKind.wrap_i64]; omega); (unfold wrap64; omega))
        by_cases hm : (no : Int) - F < M
        · have N2 : Hid (nextS old (1 :: t) = none) := Lib.hid (by rw [NX2.out, if_neg hk1, if_neg (by omega), if_pos (by rw [hol]; exact hm)])
          have dq : decide ((no : Int) - F < (M : Int)) = true := decide_eq_true hm
          clear hf hk1 hk0 hm
          obtain ⟨ws1, ws2⟩ := WS.out
          go_wp2
          all_goals (go_ret; exact NextPost.none_ N2.out rfl GR6.out)
        · have N2 : Hid (nextS old (1 :: t) = some ((old.drop F).take M, (t.drop s).drop s2)) := Lib.hid (by rw [NX2.out, if_neg hk1, if_neg (by omega), if_neg (by rw [hol]; exact hm), Int.toNat_natCast])
          have dq : decide ((no : Int) - F < (M : Int)) = false := decide_eq_false hm
          have hFM : F + M ≤ no := by omega
          have hM : 1 ≤ M := by omega
          obtain ⟨ho, oo, rfl, hog, holt, hocell⟩ := HOLD.out (by omega)
          obtain ⟨q1, q2⟩ := HOK6.out hk0
          have OC := Lib.hid hocell; have QE := Lib.hid q2
          have WA : Hid (IntKind.i64.wrap ((F : Int) + M) = F + M ∧ wrap64 ((F : Int) + M) = F + M) := Lib.hid (by refine ⟨?_, ?_⟩; (simp only [IntKind.wrap_i64]; omega); (unfold wrap64; omega))
          have t1 : ((F : Int) + M).toNat = F + M := by omega
          have t2 : (0 : Int) ≤ (F : Int) + M := by omega
          have t3 : (F : Int) + M ≤ (co : Int) := by omega
          have t4 : F + M - F = M := by omega
          have t5 : ¬ co = F := by omega
          have hFMc : F + M ≤ co := by omega
          have hMc2 : M ≤ co - F := by omega
          have hn6' : (t.drop s).length - s2 = n6 := by rw [hdl]; omega
          have PL : Hid (((old.drop F).take M).length = M) := Lib.hid (by rw [List.length_take, List.length_drop]; omega)
          have N6 := Lib.hid hn6'
          have T4 := Lib.hid t4
          clear hf hk1 hk0 hm q1 q2 hocell hn6'
          obtain ⟨ws1, ws2⟩ := WS.out
          obtain ⟨wa1, wa2⟩ := WA.out
          go_wp2
          clear ws1 ws2 wa1 wa2
          go_ret
          unfold NextPost
          rw [N2.out]
          refine ⟨ho, oo + F, co - F, by rw [PL.out]; rfl, GR6.out, by rw [PL.out]; omega, by rw [PL.out]; exact hMc2, hog, holt, fun j hj => ?_, o6, n6, cap6, R6.out, ?_, hc6, ?_, fun j hj => ?_⟩
          · rw [PL.out] at hj
            rw [show oo + F + j = oo + (F + j) by omega, OC.out (F + j) (by omega)]
            simp [List.getD, hj]
          · rw [List.length_drop, N6.out]
          · have := TL.out; omega
          · exact QE.out j hj
theorem next_any {w : World} {g h o n cap : Nat} {A : Option Addr} {no co : Nat} {old b : List Nat} (r : RObj w g (.slice A no co) (.slice (some ⟨h, o, none⟩) n cap)) (hg : h ≠ g) (hn : b.length = n) (hn0 : 0 < n) (hb : ∀ j, j < b.length → w.cell? ⟨h, o + j, none⟩ = some (.int .u8 (b.getD j 0 : Nat))) (hl : n ≤ 1000) (hcap : n ≤ cap)
    (hol : old.length = no) (hno : no ≤ co) (hno2 : no ≤ 1000) (hold : 0 < no → ∃ ho oo, A = some ⟨ho, oo, none⟩ ∧ ho ≠ g ∧ ho < w.heap.size ∧ ∀ j, j < no → w.cell? ⟨ho, oo + j, none⟩ = some (.int .u8 (old.getD j 0 : Nat))) :
    Calls Try.prog 14 #[.pointer (some ⟨g, 0, none⟩)] w fun e w' => NextPost w g h n (.slice A no co) old b e w' := by
  cases b with
  | nil => simp at hn; omega
  | cons k t =>
    simp only [List.length_cons] at hn
    by_cases k1 : k = 1
    · subst k1; exact next_one r hg hn hb hl hcap hol hno hno2 hold
    by_cases k2 : k = 2
    · subst k2; exact next_two r hg hn hb hl hcap trivial
    · exact next_other r hg hn hb hl hcap k1 k2
end Go.Proofs.Ytaidlcnfkdaijaa
