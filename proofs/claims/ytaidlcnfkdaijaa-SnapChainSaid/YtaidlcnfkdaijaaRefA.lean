import Derived.Test.YtaidlcnfkdaijaaRefN
import Derived.Test.YtaidlcnfkdaijaaApply
namespace Go.Proofs.Ytaidlcnfkdaijaa
open Go.ChangeShapes Go.WideShapes Go.ChangeAt Go.RowKit
set_option linter.unusedVariables false
theorem own_slice {w : World} {base n size : Nat} {e : TypeId} {v : Value} {xs : List Value} (own : w.ownsRow base e size v n xs) : ∃ X C, v = .slice X n C := by
  rcases own.2 with ⟨e, h⟩ | ⟨g, cap, cur, e, _⟩
  · subst h; exact ⟨_, _, e⟩
  · exact ⟨_, _, e⟩
set_option maxRecDepth 100000 in
set_option maxHeartbeats 4000000 in
theorem ref_any {w : World} {no co n cap h o : Nat} {A B : Option Addr} {old b : List Nat}
   (hn : b.length = n) (hB : 0 < n → B = some ⟨h, o, none⟩ ∧ h < w.heap.size ∧ ∀ j, j < b.length → w.cell? ⟨h, o + j, none⟩ = some (.int .u8 (b.getD j 0 : Nat))) (hl : n ≤ 420) (hcap : n ≤ cap)
    (hol : old.length = no) (hno : no ≤ co) (hno2 : no ≤ 420) (hold : 0 < no → ∃ ho oo, A = some ⟨ho, oo, none⟩ ∧ ho < w.heap.size ∧ ∀ j, j < no → w.cell? ⟨ho, oo + j, none⟩ = some (.int .u8 (old.getD j 0 : Nat))) :
    Calls Try.prog 10 #[.slice A no co, .slice B n cap] w fun e w' => APost w w.heap.size old b e w' := by
  have HB := Lib.hid hB; have HO := Lib.hid hold; clear hB hold
  obtain ⟨i0, hi0, hz0, hz1, hz2⟩ := info_parts info5
  go_enter Try.func10, Try.ntmps10
  go_wp2
  go_loopw [6, 7, 8] (fun v lo i wr => ∃ (k cnt T : Nat) (done : List (List Nat)), k ≤ n ∧ lo = .bool false ∧ i = .int .i64 k ∧ Hid (T = done.flatten.length) ∧ cnt ≤ k ∧ T ≤ 840 * cnt ∧ Hid (Below w.heap.size w wr) ∧ Hid (wr.ownsRow w.heap.size 5 1 v T (bys done.flatten)) ∧ Hid (PS old b = (PS old (b.drop k)).map (done ++ ·))) (fun _ _ i _ => n - (intOf i).toNat)
  case atStart => exact ⟨0, 0, 0, [], by omega, rfl, rfl, Lib.hid rfl, by omega, by omega, Lib.hid (Below.refl _ _), Lib.hid (World.ownsRow_nil _ _ _ _), Lib.hid (by simp)⟩
  case round =>
    obtain ⟨k, cnt, T, done, hk, rfl, rfl, hT, hck, hT2, hbw, own, hps⟩ := hrel
    by_cases hlt : k < n
    · obtain ⟨rfl, hh, hcell⟩ := HB.out (by omega)
      obtain ⟨c, hcc⟩ : ∃ c, c = b.getD k 0 := ⟨_, rfl⟩
      obtain ⟨t, ht⟩ : ∃ t, t = b.drop (k + 1) := ⟨_, rfl⟩
      have hct : b.drop k = c :: t := by
        rw [hcc, ht, List.drop_eq_getElem_cons (by omega)]; simp [List.getD, show k < b.length by omega]
      have htl : t.length + (k + 1) = n := by rw [ht, List.length_drop]; omega
      have ck : wr.cell? ⟨h, o + k, none⟩ = some (.int .u8 (c : Nat)) := by rw [hbw.out.cell (p := ⟨h, o + k, none⟩) hh, hcc]; exact hcell k (by omega)
      have HPS : Hid (PS old b = match rS old (c :: t) with | none => none | some (p, rest') => (PS old rest').map ((done ++ [p]) ++ ·)) := Lib.hid (by
        rw [rS_eq old (c :: t) (by omega) (by simp only [List.length_cons]; omega), hps.out, hct, PS_step old (c :: t) (by simp)]
        cases nextS old (c :: t) with
        | none => rfl
        | some pr => obtain ⟨p, rest'⟩ := pr; simp only [Option.map_map]; cases PS old rest' <;> simp)
      have HTC : Hid (∀ d j, j < (t.drop d).length → wr.cell? ⟨h, o + (k + 1 + d) + j, none⟩ = some (.int .u8 ((t.drop d).getD j 0 : Nat))) := Lib.hid (fun d j hj => by
        rw [List.length_drop] at hj
        have := hcell (k + 1 + d + j) (by omega)
        rw [hbw.out.cell (p := ⟨h, o + (k + 1 + d) + j, none⟩) hh, show o + (k + 1 + d) + j = o + (k + 1 + d + j) by omega, this, ht]
        simp [List.getD, List.getElem?_drop])
      have HDR : Hid (∀ d, t.drop d = b.drop (k + 1 + d)) := Lib.hid (fun d => by rw [ht, List.drop_drop])
      obtain ⟨X, C, hv⟩ := own_slice own.out
      subst hv
      have HH := Lib.hid hh; have HBW := Lib.hid hbw.out; have OWN := Lib.hid own.out; have HTT := Lib.hid hT.out
      clear hcell hps hct hcc ht hh hbw own hT
      by_cases k1 : c = 1
      · subst k1
        obtain ⟨o1, ho1, ho1'⟩ := rest_at h o n cap (k + 1) (by omega) hcap
        have hk1 : k + 1 ≤ n := by omega
        have hk1c : k + 1 ≤ cap := by omega
        have hk2 : ((k : Int) + 1) ≤ n := by omega
        have e3 : (((1 : Nat) : Int) != 1) = false := by decide
        have e4 : (((1 : Nat) : Int) != 2) = true := by decide
        have e5 : (((1 : Nat) : Int) == 1) = true := by decide
        have e6 : (((1 : Nat) : Int) == 2) = false := by decide
        have CG : Hid (∀ O' C', (k + 1 < n → O' = o + (k + 1)) → Calls Try.prog 15 #[.slice (some ⟨h, O', none⟩) (n - (k + 1)) C'] wr fun e w' => e = .returned (.tuple #[.int .u64 (gN t).1, .int .i64 (gN t).2]) ∧ wr = w') := Lib.hid (fun O' C' hO => groups_len (by omega) (fun j hj => by
          rw [hO (by omega)]; have := HTC.out 0 j (by simpa using hj); simpa using this) (by omega))
        have HO1 := Lib.hid ho1'
        have gl := resG_len t (t.length + 1) 0
        have gi := resG_in t (t.length + 1) 0
        rw [show resG t (t.length + 1) 0 = gN t from rfl] at gl gi
        have HRS : Hid (rS old (1 :: t) = if (gN t).2 = 0 then none else
      if (gN (t.drop (gN t).2.toNat)).2 = 0 then none else
      if (gN (t.drop (gN t).2.toNat)).1 = 0 then none else
      if (old.length : Int) < (gN t).1 then none else
      if (old.length : Int) - (gN t).1 < (gN (t.drop (gN t).2.toNat)).1 then none else
      some ((old.drop (gN t).1.toNat).take (gN (t.drop (gN t).2.toNat)).1.toNat, (t.drop (gN t).2.toNat).drop (gN (t.drop (gN t).2.toNat)).2.toNat)) := Lib.hid rfl
        obtain ⟨⟨v1, m1⟩, hg⟩ : ∃ x, x = gN t := ⟨_, rfl⟩
        rw [← hg] at CG gl gi HRS
        simp only at CG gl gi HRS
        clear hg ho1'
        by_cases m0 : m1 = 0
        · subst m0
          have E1 : Hid (PS old b = none) := Lib.hid (by rw [HPS.out, HRS.out, if_pos rfl])
          clear HPS HRS
          go_wp2_with fail
          refine (CG.out _ _ HO1.out).mono ?_; rintro e w3 ⟨rfl, rfl⟩
          go_wp2
          go_ret2
          exact APost.none_ E1.out rfl HBW.out
        · obtain ⟨q, rfl⟩ : ∃ q : Nat, m1 = q := ⟨m1.toNat, by omega⟩
          obtain ⟨f, rfl⟩ : ∃ f : Nat, v1 = f := ⟨v1.toNat, by omega⟩
          have m0b : (((q : Nat) : Int) == 0) = false := beq_eq_false_iff_ne.2 m0
          simp only [Int.toNat_natCast] at HRS
          obtain ⟨o2, ho2, ho2'⟩ := rest_at h o n cap (k + 1 + q) (by omega) hcap
          have q1 : k + 1 + q ≤ n := by omega
          have q1c : k + 1 + q ≤ cap := by omega
          have q2 : ((k : Int) + 1 + q) ≤ n := by omega
          obtain ⟨t1, ht1⟩ : ∃ t1, t1 = t.drop q := ⟨_, rfl⟩
          have ht1l : t1.length + (k + 1 + q) = n := by rw [ht1, List.length_drop]; omega
          have CG2 : Hid (∀ O' C', (k + 1 + q < n → O' = o + (k + 1 + q)) → Calls Try.prog 15 #[.slice (some ⟨h, O', none⟩) (n - (k + 1 + q)) C'] wr fun e w' => e = .returned (.tuple #[.int .u64 (gN t1).1, .int .i64 (gN t1).2]) ∧ wr = w') := Lib.hid (fun O' C' hO => groups_len (by omega) (fun j hj => by
            rw [hO (by omega), ht1]; exact HTC.out q j (by rw [← ht1]; exact hj)) (by omega))
          rw [← ht1] at HRS
          have HDR2 : Hid (∀ d, t1.drop d = b.drop (k + 1 + (q + d))) := Lib.hid (fun d => by rw [ht1, List.drop_drop, HDR.out])
          have gl2 := resG_len t1 (t1.length + 1) 0
          have gi2 := resG_in t1 (t1.length + 1) 0
          rw [show resG t1 (t1.length + 1) 0 = gN t1 from rfl] at gl2 gi2
          obtain ⟨⟨v2, m2⟩, hg2⟩ : ∃ x, x = gN t1 := ⟨_, rfl⟩
          rw [← hg2] at CG2 gl2 gi2 HRS
          simp only at CG2 gl2 gi2 HRS
          clear hg2 ht1 HTC
          have HO2 := Lib.hid ho2'
          clear ho2'
          by_cases n0 : m2 = 0
          · subst n0
            have E1 : Hid (PS old b = none) := Lib.hid (by rw [HPS.out, HRS.out, if_neg m0, if_pos rfl])
            clear HPS HRS
            go_wp2_with fail
            refine (CG.out _ _ HO1.out).mono ?_; rintro e w3 ⟨rfl, rfl⟩
            go_wp2_with fail
            all_goals (refine (CG2.out _ _ HO2.out).mono ?_; rintro e w3 ⟨rfl, rfl⟩; go_wp2; go_ret2; exact APost.none_ E1.out rfl HBW.out)
          · obtain ⟨r, rfl⟩ : ∃ r : Nat, m2 = r := ⟨m2.toNat, by omega⟩
            obtain ⟨p, rfl⟩ : ∃ p : Nat, v2 = p := ⟨v2.toNat, by omega⟩
            have n0b : (((r : Nat) : Int) == 0) = false := beq_eq_false_iff_ne.2 n0
            simp only [Int.toNat_natCast] at HRS
            have ne2 : ¬ cap = k + 1 + q := by omega
            clear ho2 HO2
            by_cases p0 : p = 0
            · subst p0
              have E1 : Hid (PS old b = none) := Lib.hid (by rw [HPS.out, HRS.out, if_neg m0, if_neg n0]; rfl)
              clear HPS HRS
              go_wp2_with fail
              refine (CG.out _ _ HO1.out).mono ?_; rintro e w3 ⟨rfl, rfl⟩
              go_wp2_with fail
              refine (CG2.out _ _ (fun _ => rfl)).mono ?_; rintro e w3 ⟨rfl, rfl⟩
              go_wp2
              go_ret2
              exact APost.none_ E1.out rfl HBW.out
            · have p0b : (((p : Nat) : Int) == 0) = false := beq_eq_false_iff_ne.2 (by omega)
              have r1 : k + 1 + q + r ≤ n := by omega
              have r1c : k + 1 + q + r ≤ cap := by omega
              have r2 : ((k : Int) + 1 + q + r) ≤ n := by omega
              by_cases fl : no < f
              · have E1 : Hid (PS old b = none) := Lib.hid (by rw [HPS.out, HRS.out, if_neg m0, if_neg n0, if_neg (by omega), if_pos (by omega)])
                have flb : decide (((no : Nat) : Int) < (f : Nat)) = true := decide_eq_true (by omega)
                clear HPS HRS
                go_wp2_with fail
                refine (CG.out _ _ HO1.out).mono ?_; rintro e w3 ⟨rfl, rfl⟩
                go_wp2_with fail
                refine (CG2.out _ _ (fun _ => rfl)).mono ?_; rintro e w3 ⟨rfl, rfl⟩
                go_wp2
                all_goals (go_ret2; exact APost.none_ E1.out rfl HBW.out)
              · have flb : decide (((no : Nat) : Int) < (f : Nat)) = false := decide_eq_false (by omega)
                have f1 : f ≤ no := by omega
                have f1c : f ≤ co := by omega
                by_cases pl : no - f < p
                · have E1 : Hid (PS old b = none) := Lib.hid (by rw [HPS.out, HRS.out, if_neg m0, if_neg n0, if_neg (by omega), if_neg (by omega), if_pos (by omega)])
                  have plb : decide (((no - f : Nat) : Int) < (p : Nat)) = true := decide_eq_true (by omega)
                  clear HPS HRS
                  go_wp2_with fail
                  refine (CG.out _ _ HO1.out).mono ?_; rintro e w3 ⟨rfl, rfl⟩
                  go_wp2_with fail
                  refine (CG2.out _ _ (fun _ => rfl)).mono ?_; rintro e w3 ⟨rfl, rfl⟩
                  go_wp2
                  all_goals (go_ret2; exact APost.none_ E1.out rfl HBW.out)
                · have hno0 : 0 < no := by omega
                  obtain ⟨ho, oo, rfl, hoh, hoc⟩ := HO.out hno0
                  have E1 : Hid (PS old b = (PS old (b.drop (k + 1 + (q + r)))).map ((done ++ [(old.drop f).take p]) ++ ·)) := Lib.hid (by
                    rw [HPS.out, HRS.out, if_neg m0, if_neg n0, if_neg (by omega), if_neg (by omega), if_neg (by omega)]
                    simp only [HDR2.out])
                  have plb : decide (((no - f : Nat) : Int) < (p : Nat)) = false := decide_eq_false (by omega)
                  have lb : decide ((4194304 : Int) - (p : Nat) < (T : Nat)) = false := decide_eq_false (by omega)
                  have ne4 : ¬ co = f := by omega
                  have pl2 : p ≤ no - f := by omega
                  have pl3 : p ≤ co - f := by omega
                  have PLEN : Hid (((old.drop f).take p).length = p) := Lib.hid (by rw [List.length_take, List.length_drop]; omega)
                  have PC : Hid (∀ j u, (bys ((old.drop f).take p))[j]? = some u → wr.cell? ((⟨ho, oo + f, none⟩ : Addr).add j) = some u) := Lib.hid (fun j u hu => by
                    have hj : j < p := by rw [← PLEN.out, ← bys_len]; exact (List.getElem?_eq_some_iff.1 hu).1
                    have e1 : (⟨ho, oo + f, none⟩ : Addr).add j = ⟨ho, oo + f + j, none⟩ := Go.WideShapes.add_plain ho (oo + f) j
                    have := hoc (f + j) (by omega)
                    rw [e1, HBW.out.cell (p := ⟨ho, oo + f + j, none⟩) hoh, show oo + f + j = oo + (f + j) by omega, this, ← hu]
                    simp [bys, hj, List.getD, show f + j < old.length by omega])
                  clear HPS HRS hoc
                  by_cases c4 : cap = k + 1 + q + r
                  · subst c4
                    go_wp2_with fail
                    (first | refine (CG.out _ _ HO1.out).mono ?_ | refine (CG.out _ _ (fun _ => rfl)).mono ?_); rintro e w3 ⟨rfl, rfl⟩
                    go_wp2_with fail
                    refine (CG2.out _ _ (fun _ => rfl)).mono ?_; rintro e w3 ⟨rfl, rfl⟩
                    go_wp2_with (at_builtin; refine wpList_append_own_at _ rfl (.tmp 96) (.tmp 99) 22 rfl w.heap.size 5 i0 (.int .u8 0) 1 1 Try.underlying22 hi0 hz0 hz1 hz2 rfl (by decide) _ T (bys done.flatten) rfl OWN.out ⟨ho, oo + f, none⟩ p _ (bys ((old.drop f).take p)) rfl (by rw [bys_len, PLEN.out]; omega) PC.out (bys_one _) (by unfold maxLen; omega) (by omega) HBW.out.size ?_)
                    intro v2 w3' own4 gr4 _ at4
                    have B4 : Hid (Below w.heap.size w w3') := Lib.hid (HBW.out.grown gr4 HBW.out.size (fun k hk => (OWN.out.lt k hk).1))
                    have OWN4 : Hid (w3'.ownsRow w.heap.size 5 1 v2 (T + p) (bys (done ++ [(old.drop f).take p]).flatten)) := Lib.hid (by rw [List.flatten_append, bys_app]; simpa using own4)
                    clear own4 gr4 at4
                    go_wp2
                    refine ⟨⟨k + 1 + (q + r), cnt + 1, T + p, done ++ [(old.drop f).take p], by omega, rfl, by rw [show ((k : Int) + 1 + q + r) = ((k + 1 + (q + r) : Nat) : Int) by omega], Lib.hid (by rw [HTT.out, List.flatten_append, List.length_append]; simp only [List.flatten_cons, List.flatten_nil, List.append_nil]; rw [PLEN.out]), by omega, by omega, B4, OWN4, E1⟩, ?_⟩
                    simp [intOf]; omega
                  · skip
                    go_wp2_with fail
                    (first | refine (CG.out _ _ HO1.out).mono ?_ | refine (CG.out _ _ (fun _ => rfl)).mono ?_); rintro e w3 ⟨rfl, rfl⟩
                    go_wp2_with fail
                    refine (CG2.out _ _ (fun _ => rfl)).mono ?_; rintro e w3 ⟨rfl, rfl⟩
                    go_wp2_with (at_builtin; refine wpList_append_own_at _ rfl (.tmp 96) (.tmp 99) 22 rfl w.heap.size 5 i0 (.int .u8 0) 1 1 Try.underlying22 hi0 hz0 hz1 hz2 rfl (by decide) _ T (bys done.flatten) rfl OWN.out ⟨ho, oo + f, none⟩ p _ (bys ((old.drop f).take p)) rfl (by rw [bys_len, PLEN.out]; omega) PC.out (bys_one _) (by unfold maxLen; omega) (by omega) HBW.out.size ?_)
                    intro v2 w3' own4 gr4 _ at4
                    have B4 : Hid (Below w.heap.size w w3') := Lib.hid (HBW.out.grown gr4 HBW.out.size (fun k hk => (OWN.out.lt k hk).1))
                    have OWN4 : Hid (w3'.ownsRow w.heap.size 5 1 v2 (T + p) (bys (done ++ [(old.drop f).take p]).flatten)) := Lib.hid (by rw [List.flatten_append, bys_app]; simpa using own4)
                    clear own4 gr4 at4
                    go_wp2
                    refine ⟨⟨k + 1 + (q + r), cnt + 1, T + p, done ++ [(old.drop f).take p], by omega, rfl, by rw [show ((k : Int) + 1 + q + r) = ((k + 1 + (q + r) : Nat) : Int) by omega], Lib.hid (by rw [HTT.out, List.flatten_append, List.length_append]; simp only [List.flatten_cons, List.flatten_nil, List.append_nil]; rw [PLEN.out]), by omega, by omega, B4, OWN4, E1⟩, ?_⟩
                    simp [intOf]; omega
      · by_cases k2 : c = 2
        · subst k2
          obtain ⟨o1, ho1, ho1'⟩ := rest_at h o n cap (k + 1) (by omega) hcap
          have hk1 : k + 1 ≤ n := by omega
          have hk1c : k + 1 ≤ cap := by omega
          have hk2 : ((k : Int) + 1) ≤ n := by omega
          have e3 : (((2 : Nat) : Int) != 1) = true := by decide
          have e4 : (((2 : Nat) : Int) != 2) = false := by decide
          have e5 : (((2 : Nat) : Int) == 1) = false := by decide
          have CG : Hid (Calls Try.prog 15 #[.slice (some ⟨h, o1, none⟩) (n - (k + 1)) (cap - (k + 1))] wr fun e w' => e = .returned (.tuple #[.int .u64 (gN t).1, .int .i64 (gN t).2]) ∧ wr = w') := Lib.hid (groups_len (by omega) (fun j hj => by
            rw [ho1' (by omega)]; have := HTC.out 0 j (by simpa using hj); simpa using this) (by omega))
          have gl := resG_len t (t.length + 1) 0
          have gi := resG_in t (t.length + 1) 0
          have HRS : Hid (rS old (2 :: t) = if (gN t).2 = 0 then none else
      if (gN t).1 = 0 then none else
      if ((t.drop (gN t).2.toNat).length : Int) < (gN t).1 then none else
      some ((t.drop (gN t).2.toNat).take (gN t).1.toNat, (t.drop (gN t).2.toNat).drop (gN t).1.toNat)) := Lib.hid rfl
          rw [show resG t (t.length + 1) 0 = gN t from rfl] at gl gi
          obtain ⟨⟨v1, m1⟩, hg⟩ : ∃ x, x = gN t := ⟨_, rfl⟩
          rw [← hg] at CG gl gi HRS
          simp only at CG gl gi HRS
          clear hg k1 ho1'
          by_cases m0 : m1 = 0
          · subst m0
            have E1 : Hid (PS old b = none) := Lib.hid (by rw [HPS.out, HRS.out, if_pos rfl])
            clear HPS HRS
            go_wp2_with fail
            refine CG.out.mono ?_; rintro e w3 ⟨rfl, rfl⟩
            go_wp2
            go_ret2
            exact APost.none_ E1.out rfl HBW.out
          · obtain ⟨q, rfl⟩ : ∃ q : Nat, m1 = q := ⟨m1.toNat, by omega⟩
            obtain ⟨p, rfl⟩ : ∃ p : Nat, v1 = p := ⟨v1.toNat, by omega⟩
            have m0b : (((q : Nat) : Int) == 0) = false := beq_eq_false_iff_ne.2 m0
            simp only [Int.toNat_natCast] at HRS
            by_cases p0 : p = 0
            · subst p0
              have E1 : Hid (PS old b = none) := Lib.hid (by rw [HPS.out, HRS.out, if_neg m0]; rfl)
              clear HPS HRS
              go_wp2_with fail
              refine CG.out.mono ?_; rintro e w3 ⟨rfl, rfl⟩
              go_wp2
              go_ret2
              exact APost.none_ E1.out rfl HBW.out
            · have p0b : (((p : Nat) : Int) == 0) = false := beq_eq_false_iff_ne.2 (by omega)
              obtain ⟨o2, ho2, ho2'⟩ := rest_at h o n cap (k + 1 + q) (by omega) hcap
              have q1 : k + 1 + q ≤ n := by omega
              have q1c : k + 1 + q ≤ cap := by omega
              have q2 : ((k : Int) + 1 + q) ≤ n := by omega
              by_cases pl : n - (k + 1 + q) < p
              · have E1 : Hid (PS old b = none) := Lib.hid (by rw [HPS.out, HRS.out, if_neg m0, if_neg (by omega), if_pos (by rw [List.length_drop]; omega)])
                have plb : decide (((n - (k + 1 + q) : Nat) : Int) < (p : Nat)) = true := decide_eq_true (by omega)
                clear HPS HRS
                go_wp2_with fail
                refine CG.out.mono ?_; rintro e w3 ⟨rfl, rfl⟩
                go_wp2
                all_goals (go_ret2; exact APost.none_ E1.out rfl HBW.out)
              · have E1 : Hid (PS old b = (PS old (b.drop (k + 1 + (q + p)))).map ((done ++ [(t.drop q).take p]) ++ ·)) := Lib.hid (by
                  rw [HPS.out, HRS.out, if_neg m0, if_neg (by omega), if_neg (by rw [List.length_drop]; omega)]
                  simp only [List.drop_drop, HDR.out]
                  rw [show k + 1 + q + p = k + 1 + (q + p) by omega])
                have plb : decide (((n - (k + 1 + q) : Nat) : Int) < (p : Nat)) = false := decide_eq_false (by omega)
                have lb : decide ((4194304 : Int) - (p : Nat) < (T : Nat)) = false := decide_eq_false (by omega)
                have ne2 : ¬ cap = k + 1 + q := by omega
                have pl2 : p ≤ n - (k + 1 + q) := by omega
                have pl3 : p ≤ cap - (k + 1 + q) := by omega
                have PLEN : Hid (((t.drop q).take p).length = p) := Lib.hid (by rw [List.length_take, List.length_drop]; omega)
                have PC : Hid (∀ j u, (bys ((t.drop q).take p))[j]? = some u → wr.cell? ((⟨h, o + (k + 1 + q), none⟩ : Addr).add j) = some u) := Lib.hid (fun j u hu => by
                  have hj : j < p := by rw [← PLEN.out, ← bys_len]; exact (List.getElem?_eq_some_iff.1 hu).1
                  have hj2 : j < (t.drop q).length := by rw [List.length_drop]; omega
                  have e1 : (⟨h, o + (k + 1 + q), none⟩ : Addr).add j = ⟨h, o + (k + 1 + q) + j, none⟩ := Go.WideShapes.add_plain h (o + (k + 1 + q)) j
                  rw [e1, HTC.out q j hj2, ← hu]
                  rw [List.length_drop] at hj2
                  simp [bys, hj, List.getD, show q + j < t.length by omega])
                clear HPS HRS ho2 ho2'
                go_wp2_with fail
                refine CG.out.mono ?_; rintro e w3 ⟨rfl, rfl⟩
                go_wp2_with (at_builtin; refine wpList_append_own_at _ rfl (.tmp 96) (.tmp 99) 22 rfl w.heap.size 5 i0 (.int .u8 0) 1 1 Try.underlying22 hi0 hz0 hz1 hz2 rfl (by decide) _ T (bys done.flatten) rfl OWN.out ⟨h, o + (k + 1 + q), none⟩ p _ (bys ((t.drop q).take p)) rfl (by rw [bys_len, PLEN.out]; omega) PC.out (bys_one _) (by unfold maxLen; omega) (by omega) HBW.out.size ?_)
                intro v2 w3' own4 gr4 _ at4
                have B4 : Hid (Below w.heap.size w w3') := Lib.hid (HBW.out.grown gr4 HBW.out.size (fun k hk => (OWN.out.lt k hk).1))
                have OWN4 : Hid (w3'.ownsRow w.heap.size 5 1 v2 (T + p) (bys (done ++ [(t.drop q).take p]).flatten)) := Lib.hid (by rw [List.flatten_append, bys_app]; simpa using own4)
                clear own4 gr4 at4
                go_wp2
                refine ⟨⟨k + 1 + (q + p), cnt + 1, T + p, done ++ [(t.drop q).take p], by omega, rfl, by rw [show ((k : Int) + 1 + q + p) = ((k + 1 + (q + p) : Nat) : Int) by omega], Lib.hid (by rw [HTT.out, List.flatten_append, List.length_append]; simp only [List.flatten_cons, List.flatten_nil, List.append_nil]; rw [PLEN.out]), by omega, by omega, B4, OWN4, E1⟩, ?_⟩
                simp [intOf]; omega
        · have E1 : Hid (PS old b = none) := Lib.hid (by rw [HPS.out]; simp only [rS]; rw [if_neg k1, if_neg k2])
          have e3 : ((c : Int) != 1) = true := bne_iff_ne.2 (by omega)
          have e4 : ((c : Int) != 2) = true := bne_iff_ne.2 (by omega)
          clear HPS k1 k2
          go_wp2
          go_ret2
          exact APost.none_ E1.out rfl HBW.out
    · obtain rfl : k = n := by omega
      have EQ : Hid (PS old b = some done) := Lib.hid (by
        rw [hps.out, List.drop_eq_nil_of_le (by omega)]; simp [PS, piecesS])
      have AP : Hid (APost w w.heap.size old b (.returned (.tuple #[u6, .int .i64 0])) wr) := Lib.hid (by unfold APost; rw [EQ.out]; exact ⟨_, rfl, hbw.out, by rw [← hT.out]; exact own.out⟩)
      clear EQ hps own hT hbw
      go_wp2
      go_ret2
      exact AP.out
end Go.Proofs.Ytaidlcnfkdaijaa
