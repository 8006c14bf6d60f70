import Derived.Test.YtebgloacobaocaaDoorParseA
import Derived.Deep.CutBlock
namespace Go.Proofs.YtebgloacobaocaaDoor
open Go.ChangeShapes Go.WideShapes Go.ChangeAt Go.RowKit Go.Shelf Go.Lib CharsMath
set_option linter.unusedVariables false
theorem extract_le (s : ByteArray) (a b : Nat) : (s.extract a b).size ≤ s.size := by
  rw [ByteArray.size_extract]; omega
theorem wordsGo_size (s : ByteArray) : ∀ (f i : Nat) (fr : Option Nat) (acc : List ByteArray), (∀ x ∈ acc, x.size ≤ s.size) → ∀ x ∈ wordsGo s f i fr acc, x.size ≤ s.size := by
  intro f
  induction f with
  | zero => intro i fr acc h x hx; exact h x hx
  | succ f ih =>
    intro i fr acc h x hx
    simp only [wordsGo] at hx
    split at hx
    · refine ih _ _ _ ?_ x hx
      intro y hy
      cases fr with
      | none =>
        simp only [stepF] at hy
        split at hy <;> exact h y hy
      | some a =>
        simp only [stepF] at hy
        split at hy
        · rcases List.mem_append.1 hy with hy | hy
          · exact h y hy
          · simp only [List.mem_singleton] at hy; rw [hy]; exact extract_le _ _ _
        · exact h y hy
    · cases fr with
      | none => exact h x hx
      | some a =>
        rcases List.mem_append.1 hx with hx | hx
        · exact h x hx
        · simp only [List.mem_singleton] at hx; rw [hx]; exact extract_le _ _ _
theorem wordAt_size (s : ByteArray) (i : Nat) : (wordAt (wordsV s) i).size ≤ s.size := by
  unfold wordAt
  by_cases h : i < (wordsV s).length
  · have : (wordsV s).getD i ⟨#[]⟩ ∈ wordsV s := by rw [List.getD, List.getElem?_eq_getElem h]; exact List.getElem_mem h
    exact wordsGo_size s _ _ _ _ (fun _ h => by cases h) _ this
  · rw [List.getD, List.getElem?_eq_none (by omega)]; exact Nat.zero_le _
set_option maxRecDepth 100000 in
set_option maxHeartbeats 4000000 in
theorem parse_any (s : ByteArray) (w : World) (hs : s.size ≤ 1000000) (hT : Tabs w) :
    Calls Tryd.prog 8 #[.string s] w fun e w' => e = .returned (ansV (parseV s)) ∧ Below w.heap.size w w' := by
  have HT : Hid (Tabs w) := Lib.hid hT
  have B0 := Lib.hid (below_alloc w (.cells #[.int .i64 0, .int .i64 0, .string ⟨#[]⟩] 24))
  have WS := Lib.hid (words_any s (w.alloc (.cells #[.int .i64 0, .int .i64 0, .string ⟨#[]⟩] 24)) hs (hT.below B0.out))
  clear hT
  go_enter Tryd.func8, Tryd.ntmps8
  go_wp2_with fail
  refine WS.out.mono ?_; rintro e w1 ⟨A, m, c, rfl, HM, OWN, hb1⟩
  have B1 := Lib.hid (bt B0.out hb1.out)
  obtain ⟨R, hR⟩ : ∃ R, R = w.heap.size := ⟨_, rfl⟩
  have RR : Hid (w1.heap[R]? = some (.cells #[.int .i64 0, .int .i64 0, .string ⟨#[]⟩] 24 (0, 0))) := Lib.hid (by
    rw [hb1.out.block R (by rw [hR]; simp), hR]
    exact heap_alloc_new _ _)
  have rr0 : w1.cell? ⟨R, 0, none⟩ = some (.int .i64 0) ∧ w1.cell? ⟨R, 1, none⟩ = some (.int .i64 0) ∧ w1.cell? ⟨R, 2, none⟩ = some (.string ⟨#[]⟩) ∧ ∀ i, w1.frozen? ⟨R, i, none⟩ = false := by
    have := RR.out
    refine ⟨?_, ?_, ?_, fun i => ?_⟩ <;> simp [World.cell?, World.frozen?, this]
  obtain ⟨r0, r1, r2, rf⟩ := rr0
  have rf0 := rf 0; have rf1 := rf 1; have rf2 := rf 2
  clear rf hb1
  rw [← hR]
  by_cases hm0 : m = 0
  · have FV : Hid (parseV s = none) := Lib.hid (by unfold parseV parseL; rw [if_pos (by rw [← HM.out]; exact hm0)])
    subst hm0
    have BB := Lib.hid (below_set3 (.int .i64 0) (.int .i64 0) (.string ⟨#[]⟩) B1.out (by rw [hR]; exact Nat.le_refl _ : w.heap.size ≤ R))
    have Q3 := Lib.hid (st3 (.int .i64 0) (.int .i64 0) (.string ⟨#[]⟩) RR.out)
    have HR := Lib.hid hR
    clear hR
    go_wp2
    (try simp only [Exit.inBlock, Exit.then])
    refine bodyPost_ret (res8 rfl rfl Q3.out) rfl ?_
    exact ⟨by rw [FV.out]; rfl, BB.out⟩
  have hm0' : ((m : Int) == 0) = false := beq_eq_false_iff_ne.2 (by omega)
  have hm0'' : (m == 0) = false := beq_eq_false_iff_ne.2 hm0
  by_cases hm2 : 2 < m
  · have FV : Hid (parseV s = none) := Lib.hid (by unfold parseV parseL; rw [if_neg (by rw [← HM.out]; exact hm0), if_pos (by rw [← HM.out]; exact hm2)])
    have BB := Lib.hid (below_set3 (.int .i64 0) (.int .i64 0) (.string ⟨#[]⟩) B1.out (by rw [hR]; exact Nat.le_refl _ : w.heap.size ≤ R))
    have Q3 := Lib.hid (st3 (.int .i64 0) (.int .i64 0) (.string ⟨#[]⟩) RR.out)
    have HR := Lib.hid hR
    have hm2' : (2 : Int) < (m : Int) := by omega
    clear hR hm0
    go_wp2
    (try simp only [Exit.inBlock, Exit.then])
    refine bodyPost_ret (res8 rfl rfl Q3.out) rfl ?_
    exact ⟨by rw [FV.out]; rfl, BB.out⟩
  have hm2' : ¬ (2 : Int) < (m : Int) := by omega
  have dm2 := decide_eq_false hm2'
  have dm2' := decide_eq_false hm2
  have hm12 : m ≤ 2 := by omega
  have hm1 : 0 < m := by omega
  have hm1' : (0 : Int) < (m : Int) := by omega
  obtain ⟨l, hl⟩ : ∃ l, l = wordsV s := ⟨_, rfl⟩
  rw [← hl] at HM OWN
  have HL := Lib.hid hl
  have PV : Hid (parseV s = match findGo (wordAt l 0) 17 1 with
    | none => none
    | some k => if (rest k l).2.2 = true ∧ goodV k (rest k l).1 (rest k l).2.1 = true then some (k, (rest k l).1, (rest k l).2.1) else none) := Lib.hid (by unfold parseV; rw [← hl]; unfold parseL; rw [if_neg (by rw [← HM.out]; exact hm0), if_neg (by rw [← HM.out]; exact hm2)]; rfl)
  obtain ⟨C, hC⟩ : ∃ C, C = w1.heap.size := ⟨_, rfl⟩
  have P0 : Hid (PB w (w1.alloc (.cells #[.int .i64 1, .int .i64 0, .string ⟨#[]⟩] 24)) R C 1 0 ⟨#[]⟩ A m c l) := Lib.hid (by
    have hlt : R < w1.heap.size := (Array.getElem?_eq_some_iff.1 RR.out).1
    refine ⟨bt B1.out (below_alloc _ _), ?_, ?_, ?_, ?_, hR, by rw [hC]; exact hlt⟩
    · rw [(below_alloc w1 _).block R hlt]; exact RR.out
    · rw [hC]; exact heap_alloc_new _ _
    · have := own_below OWN.out (below_alloc w1 (.cells #[.int .i64 1, .int .i64 0, .string ⟨#[]⟩] 24))
      simpa using this
    · intro e1; have := (OWN.out.lt _ e1).2; omega)
  have HR := Lib.hid hR
  clear hm0 hm2 hm2' hl OWN RR r0 r1 r2 rf0 rf1 rf2 hR
  go_wp2
  rw [← hC]
  have HCC := Lib.hid hC
  clear hC
  go_loopg [19] 17 (fun gk _ wr => ∃ k : Nat, gk + k = 18 ∧ 1 ≤ k ∧ k ≤ 17 ∧ Hid (PB w wr R C k 0 ⟨#[]⟩ A m c l) ∧ Hid (findGo (wordAt l 0) gk k = findGo (wordAt l 0) 17 1))
  case atStart => exact ⟨1, rfl, by omega, by omega, P0, Lib.hid rfl⟩
  case round =>
    clear P0
    obtain ⟨k, hgk, hk1, hk17, HPB, FG⟩ := hrel
    obtain ⟨gq, rfl⟩ : ∃ gq, gk = gq + 1 := ⟨gk - 1, by omega⟩
    obtain ⟨k0, k1, k2, kf⟩ := HPB.out.cc
    have kf0 := kf 0
    clear kf
    obtain ⟨gw, rfl, x0⟩ := HPB.out.word 0 hm1
    obtain ⟨x, hx⟩ : ∃ x, x = wordAt l 0 := ⟨_, rfl⟩
    rw [← hx] at x0 FG
    have HX := Lib.hid hx
    have VB := Lib.hid (verb_any (k : Int))
    obtain ⟨v, hv⟩ : ∃ v, v = verbV (k : Int) := ⟨_, rfl⟩
    rw [← hv] at VB
    have FG2 : Hid ((if v = x then some k else findGo x gq (k + 1)) = findGo x 17 1) := Lib.hid (by rw [← FG.out, hv]; rfl)
    have HV := Lib.hid hv
    clear hx hv FG
    go_upto_region 5 with fail
    go_cut [25] (fun b wx => b = .bool (!(v.toList == x.toList)) ∧ Hid (PB w wx R C k 0 ⟨#[]⟩ (some ⟨gw, 0, none⟩) m c l))
    case first =>
      go_region_held3 (fun w' => w'.cell? ⟨C, 0, none⟩ = some (.int .i64 k) ∧ w'.cell? ⟨gw, 0, none⟩ = some (.string x)) (go_keep)
        ((go_at_call 14; refine (VB.out _).mono ?_; rintro e w3 ⟨rfl, hb3⟩; have p3 := HPB.out.same (bt (show Below wr.heap.size wr wr.drew from ⟨rfl, rfl, rfl, Nat.le_refl _, fun _ _ => rfl⟩) hb3); have z0 := p3.cc.1; have z1 := (bt (show Below wr.heap.size wr wr.drew from ⟨rfl, rfl, rfl, Nat.le_refl _, fun _ _ => rfl⟩) hb3).cell (p := ⟨gw, 0, none⟩) (World.block_lt_of_cell? _ _ x0) |>.trans x0))
      all_goals (
        go_wp2_with fail
        go_meet
        exact ⟨rfl, Lib.hid p3⟩)
    case rest =>
      clear k0 k1 k2 kf0 x0 HPB
      obtain ⟨hu, PP⟩ := hcut
      obtain ⟨k0, k1, k2, kf⟩ := PP.out.cc
      have kf0 := kf 0; have kf1 := kf 1; have kf2 := kf 2
      clear kf
      by_cases hvx : v = x
      · have hu2 : u25 = .bool false := by rw [hu, hvx]; simp
        subst hu2
        have FK : Hid (findGo (wordAt l 0) 17 1 = some k) := Lib.hid (by rw [← HX.out, ← FG2.out, if_pos hvx])
        have PV2 : Hid (parseV s = if (rest k l).2.2 = true ∧ goodV k (rest k l).1 (rest k l).2.1 = true then some ((k : Int), (rest k l).1, (rest k l).2.1) else none) := Lib.hid (by rw [PV.out, FK.out])
        obtain ⟨nb, hnb⟩ : ∃ nb, nb = numberedV k := ⟨_, rfl⟩
        obtain ⟨md, hmd⟩ : ∃ md, md = namedV k := ⟨_, rfl⟩
        have NB := Lib.hid (numbered_any k); have MD := Lib.hid (named_any k)
        rw [← hnb] at NB; rw [← hmd] at MD
        have HNB := Lib.hid hnb; have HMD := Lib.hid hmd
        have TC := Lib.hid (HT.out.below PP.out.below)
        have X1 : Hid ((wordAt l 1).size ≤ maxLen) := Lib.hid (by have := wordAt_size s 1; rw [← HL.out] at this; unfold maxLen; omega)
        obtain ⟨y1, hy1⟩ : ∃ y1, y1 = wordAt l 1 := ⟨_, rfl⟩
        rw [← hy1] at X1
        have HY1 := Lib.hid hy1
        have RS : Hid (rest k l = if m = 1 then (if (k : Int) = 3 ∨ (k : Int) = 7 then (1, ⟨#[]⟩, true) else (0, ⟨#[]⟩, !nb && !md)) else if nb then ((numberV y1).1, ⟨#[]⟩, (numberV y1).2) else if md then (0, y1, true) else (0, ⟨#[]⟩, false)) := Lib.hid (by
          unfold rest; rw [← HM.out, ← hnb, ← hmd, ← hy1])
        have E0 : Hid ((⟨#[]⟩ : ByteArray).size ≤ maxLen) := Lib.hid (by show 0 ≤ maxLen; omega)
        clear hu hvx FG2 FK PV hnb hmd HX HV VB hy1
        have hk10 : (0 : Int) ≤ (k : Int) := by omega
        cases nb
        · cases md
          · go_upto_block 2 with (first | (go_at_call 15; refine (NB.out _).mono ?_; rintro e w5 ⟨rfl, rfl⟩) | (go_at_call 16; refine (MD.out _).mono ?_; rintro e w5 ⟨rfl, rfl⟩))
            go_cut [6] (fun b wx => ∃ (n : Int) (y : ByteArray) (ob : Bool), b = .bool ob ∧ Hid (PB w wx R C k n y (some ⟨gw, 0, none⟩) m c l) ∧ Hid (rest k l = (n, y, ob)) ∧ Hid (y.size ≤ maxLen))
            case first =>
              by_cases hq1 : m = 1
              · rw [if_pos hq1] at RS
                subst hq1
                by_cases hk3 : k = 3
                · subst hk3
                  have R2 : Hid (rest (3 : Nat) l = (1, ⟨#[]⟩, true)) := Lib.hid (by rw [RS.out]; rfl)
                  have P6 := Lib.hid (PP.out.set1 1)
                  clear RS
                  go_wp2_with fail
                  go_meet
                  exact ⟨1, _, true, rfl, P6, R2, E0⟩
                by_cases hk7 : k = 7
                · subst hk7
                  have R2 : Hid (rest (7 : Nat) l = (1, ⟨#[]⟩, true)) := Lib.hid (by rw [RS.out]; rfl)
                  have P6 := Lib.hid (PP.out.set1 1)
                  clear RS
                  go_wp2_with fail
                  go_meet
                  exact ⟨1, _, true, rfl, P6, R2, E0⟩
                have R2 : Hid (rest k l = (0, ⟨#[]⟩, !false && !false)) := Lib.hid (by rw [RS.out, if_neg (by omega)])
                have e3 := ne_b (show (k : Int) ≠ 3 by omega); have e7 := ne_b (show (k : Int) ≠ 7 by omega)
                have e3' : (k == 3) = false := beq_eq_false_iff_ne.2 hk3; have e7' : (k == 7) = false := beq_eq_false_iff_ne.2 hk7
                have P6 := PP
                clear RS hk3 hk7
                go_wp2_with fail
                go_meet
                exact ⟨0, _, _, rfl, P6, R2, E0⟩
              · rw [if_neg hq1] at RS
                obtain rfl : m = 2 := by omega
                obtain ⟨g2, eg2, x1⟩ := PP.out.word 1 (by omega)
                injection eg2 with eg2; injection eg2 with eg2
                subst eg2
                rw [← HY1.out] at x1
                have R2 : Hid (rest k l = (0, ⟨#[]⟩, false)) := Lib.hid (by rw [RS.out]; simp)
                have P7 := PP
                clear RS hq1
                go_wp2_with (first | (go_at_call 15; refine (NB.out _).mono ?_; rintro e w5 ⟨rfl, rfl⟩) | (go_at_call 16; refine (MD.out _).mono ?_; rintro e w5 ⟨rfl, rfl⟩))
                go_meet
                exact ⟨0, _, false, rfl, P7, R2, E0⟩
            case rest =>
              clear k0 k1 k2 kf0 kf1 kf2 NB MD RS TC X1 E0 HY1 PP
              obtain ⟨n, y, ob, rfl, PQ, RQ, YS⟩ := hcut
              have PV3 : Hid (parseV s = if ob = true ∧ goodV k n y = true then some ((k : Int), n, y) else none) := Lib.hid (by rw [PV2.out, RQ.out])
              obtain ⟨k0, k1, k2, kf⟩ := PQ.out.cc
              clear kf PV2 RQ
              have TQ := Lib.hid (HT.out.below PQ.out.below)
              cases ob with
              | false =>
                have FV : Hid (parseV s = none) := Lib.hid (by rw [PV3.out]; simp)
                obtain ⟨r0, r1, r2, rf⟩ := PQ.out.rr
                have rf0 := rf 0; have rf1 := rf 1; have rf2 := rf 2
                have BB := Lib.hid (below_set3 (.int .i64 0) (.int .i64 0) (.string ⟨#[]⟩) PQ.out.below (by rw [HR.out]; exact Nat.le_refl _ : w.heap.size ≤ R))
                have Q3 := Lib.hid (st3 (.int .i64 0) (.int .i64 0) (.string ⟨#[]⟩) PQ.out.r)
                clear rf PV3 PQ
                go_wp2_with fail
                (try simp only [Exit.inBlock, Exit.then])
                refine bodyPost_ret (res8 rfl rfl Q3.out) rfl ?_
                exact ⟨by rw [FV.out]; rfl, BB.out⟩
              | true =>
                have GD := Lib.hid (good_any k n y wc YS.out TQ.out)
                obtain ⟨gd, hgd⟩ : ∃ gd, gd = goodV k n y := ⟨_, rfl⟩
                rw [← hgd] at GD PV3
                clear hgd
                go_wp2_with fail
                refine GD.out.mono ?_; rintro e w7 ⟨rfl, hb7⟩
                have P7 := Lib.hid (PQ.out.same hb7)
                obtain ⟨r0, r1, r2, rf⟩ := P7.out.rr
                have rf0 := rf 0; have rf1 := rf 1; have rf2 := rf 2
                obtain ⟨j0, j1, j2, jf⟩ := P7.out.cc
                clear rf jf k0 k1 k2 hb7 PQ TQ GD
                cases gd with
                | false =>
                  have FV : Hid (parseV s = none) := Lib.hid (by rw [PV3.out]; simp)
                  have BB := Lib.hid (below_set3 (.int .i64 0) (.int .i64 0) (.string ⟨#[]⟩) P7.out.below (by rw [HR.out]; exact Nat.le_refl _ : w.heap.size ≤ R))
                  have Q3 := Lib.hid (st3 (.int .i64 0) (.int .i64 0) (.string ⟨#[]⟩) P7.out.r)
                  clear PV3 P7
                  go_wp2_with fail
                  (try simp only [Exit.inBlock, Exit.then])
                  refine bodyPost_ret (res8 rfl rfl Q3.out) rfl ?_
                  exact ⟨by rw [FV.out]; rfl, BB.out⟩
                | true =>
                  have FV : Hid (parseV s = some ((k : Int), n, y)) := Lib.hid (by rw [PV3.out]; simp)
                  have BB := Lib.hid (below_set3 (.int .i64 k) (.int .i64 n) (.string y) P7.out.below (by rw [HR.out]; exact Nat.le_refl _ : w.heap.size ≤ R))
                  have Q3 := Lib.hid (st3 (.int .i64 k) (.int .i64 n) (.string y) P7.out.r)
                  clear PV3 P7
                  go_wp2_with fail
                  (try simp only [Exit.inBlock, Exit.then])
                  refine bodyPost_ret (res8 rfl rfl Q3.out) rfl ?_
                  exact ⟨by rw [FV.out]; rfl, BB.out⟩
          · go_upto_block 2 with (first | (go_at_call 15; refine (NB.out _).mono ?_; rintro e w5 ⟨rfl, rfl⟩) | (go_at_call 16; refine (MD.out _).mono ?_; rintro e w5 ⟨rfl, rfl⟩))
            go_cut [6] (fun b wx => ∃ (n : Int) (y : ByteArray) (ob : Bool), b = .bool ob ∧ Hid (PB w wx R C k n y (some ⟨gw, 0, none⟩) m c l) ∧ Hid (rest k l = (n, y, ob)) ∧ Hid (y.size ≤ maxLen))
            case first =>
              by_cases hq1 : m = 1
              · rw [if_pos hq1] at RS
                subst hq1
                by_cases hk3 : k = 3
                · subst hk3
                  have R2 : Hid (rest (3 : Nat) l = (1, ⟨#[]⟩, true)) := Lib.hid (by rw [RS.out]; rfl)
                  have P6 := Lib.hid (PP.out.set1 1)
                  clear RS
                  go_wp2_with fail
                  go_meet
                  exact ⟨1, _, true, rfl, P6, R2, E0⟩
                by_cases hk7 : k = 7
                · subst hk7
                  have R2 : Hid (rest (7 : Nat) l = (1, ⟨#[]⟩, true)) := Lib.hid (by rw [RS.out]; rfl)
                  have P6 := Lib.hid (PP.out.set1 1)
                  clear RS
                  go_wp2_with fail
                  go_meet
                  exact ⟨1, _, true, rfl, P6, R2, E0⟩
                have R2 : Hid (rest k l = (0, ⟨#[]⟩, !false && !true)) := Lib.hid (by rw [RS.out, if_neg (by omega)])
                have e3 := ne_b (show (k : Int) ≠ 3 by omega); have e7 := ne_b (show (k : Int) ≠ 7 by omega)
                have e3' : (k == 3) = false := beq_eq_false_iff_ne.2 hk3; have e7' : (k == 7) = false := beq_eq_false_iff_ne.2 hk7
                have P6 := PP
                clear RS hk3 hk7
                go_wp2_with fail
                go_meet
                exact ⟨0, _, _, rfl, P6, R2, E0⟩
              · rw [if_neg hq1] at RS
                obtain rfl : m = 2 := by omega
                obtain ⟨g2, eg2, x1⟩ := PP.out.word 1 (by omega)
                injection eg2 with eg2; injection eg2 with eg2
                subst eg2
                rw [← HY1.out] at x1
                have R2 : Hid (rest k l = (0, y1, true)) := Lib.hid (by rw [RS.out]; simp)
                have P7 := Lib.hid (PP.out.set2 y1)
                clear RS hq1
                go_wp2_with (first | (go_at_call 15; refine (NB.out _).mono ?_; rintro e w5 ⟨rfl, rfl⟩) | (go_at_call 16; refine (MD.out _).mono ?_; rintro e w5 ⟨rfl, rfl⟩))
                go_meet
                exact ⟨0, y1, true, rfl, P7, R2, X1⟩
            case rest =>
              clear k0 k1 k2 kf0 kf1 kf2 NB MD RS TC X1 E0 HY1 PP
              obtain ⟨n, y, ob, rfl, PQ, RQ, YS⟩ := hcut
              have PV3 : Hid (parseV s = if ob = true ∧ goodV k n y = true then some ((k : Int), n, y) else none) := Lib.hid (by rw [PV2.out, RQ.out])
              obtain ⟨k0, k1, k2, kf⟩ := PQ.out.cc
              clear kf PV2 RQ
              have TQ := Lib.hid (HT.out.below PQ.out.below)
              cases ob with
              | false =>
                have FV : Hid (parseV s = none) := Lib.hid (by rw [PV3.out]; simp)
                obtain ⟨r0, r1, r2, rf⟩ := PQ.out.rr
                have rf0 := rf 0; have rf1 := rf 1; have rf2 := rf 2
                have BB := Lib.hid (below_set3 (.int .i64 0) (.int .i64 0) (.string ⟨#[]⟩) PQ.out.below (by rw [HR.out]; exact Nat.le_refl _ : w.heap.size ≤ R))
                have Q3 := Lib.hid (st3 (.int .i64 0) (.int .i64 0) (.string ⟨#[]⟩) PQ.out.r)
                clear rf PV3 PQ
                go_wp2_with fail
                (try simp only [Exit.inBlock, Exit.then])
                refine bodyPost_ret (res8 rfl rfl Q3.out) rfl ?_
                exact ⟨by rw [FV.out]; rfl, BB.out⟩
              | true =>
                have GD := Lib.hid (good_any k n y wc YS.out TQ.out)
                obtain ⟨gd, hgd⟩ : ∃ gd, gd = goodV k n y := ⟨_, rfl⟩
                rw [← hgd] at GD PV3
                clear hgd
                go_wp2_with fail
                refine GD.out.mono ?_; rintro e w7 ⟨rfl, hb7⟩
                have P7 := Lib.hid (PQ.out.same hb7)
                obtain ⟨r0, r1, r2, rf⟩ := P7.out.rr
                have rf0 := rf 0; have rf1 := rf 1; have rf2 := rf 2
                obtain ⟨j0, j1, j2, jf⟩ := P7.out.cc
                clear rf jf k0 k1 k2 hb7 PQ TQ GD
                cases gd with
                | false =>
                  have FV : Hid (parseV s = none) := Lib.hid (by rw [PV3.out]; simp)
                  have BB := Lib.hid (below_set3 (.int .i64 0) (.int .i64 0) (.string ⟨#[]⟩) P7.out.below (by rw [HR.out]; exact Nat.le_refl _ : w.heap.size ≤ R))
                  have Q3 := Lib.hid (st3 (.int .i64 0) (.int .i64 0) (.string ⟨#[]⟩) P7.out.r)
                  clear PV3 P7
                  go_wp2_with fail
                  (try simp only [Exit.inBlock, Exit.then])
                  refine bodyPost_ret (res8 rfl rfl Q3.out) rfl ?_
                  exact ⟨by rw [FV.out]; rfl, BB.out⟩
                | true =>
                  have FV : Hid (parseV s = some ((k : Int), n, y)) := Lib.hid (by rw [PV3.out]; simp)
                  have BB := Lib.hid (below_set3 (.int .i64 k) (.int .i64 n) (.string y) P7.out.below (by rw [HR.out]; exact Nat.le_refl _ : w.heap.size ≤ R))
                  have Q3 := Lib.hid (st3 (.int .i64 k) (.int .i64 n) (.string y) P7.out.r)
                  clear PV3 P7
                  go_wp2_with fail
                  (try simp only [Exit.inBlock, Exit.then])
                  refine bodyPost_ret (res8 rfl rfl Q3.out) rfl ?_
                  exact ⟨by rw [FV.out]; rfl, BB.out⟩
        · go_upto_block 2 with (first | (go_at_call 15; refine (NB.out _).mono ?_; rintro e w5 ⟨rfl, rfl⟩) | (go_at_call 16; refine (MD.out _).mono ?_; rintro e w5 ⟨rfl, rfl⟩))
          go_cut [6] (fun b wx => ∃ (n : Int) (y : ByteArray) (ob : Bool), b = .bool ob ∧ Hid (PB w wx R C k n y (some ⟨gw, 0, none⟩) m c l) ∧ Hid (rest k l = (n, y, ob)) ∧ Hid (y.size ≤ maxLen))
          case first =>
            by_cases hq1 : m = 1
            · rw [if_pos hq1] at RS
              subst hq1
              by_cases hk3 : k = 3
              · subst hk3
                have R2 : Hid (rest (3 : Nat) l = (1, ⟨#[]⟩, true)) := Lib.hid (by rw [RS.out]; rfl)
                have P6 := Lib.hid (PP.out.set1 1)
                clear RS
                go_wp2_with fail
                go_meet
                exact ⟨1, _, true, rfl, P6, R2, E0⟩
              by_cases hk7 : k = 7
              · subst hk7
                have R2 : Hid (rest (7 : Nat) l = (1, ⟨#[]⟩, true)) := Lib.hid (by rw [RS.out]; rfl)
                have P6 := Lib.hid (PP.out.set1 1)
                clear RS
                go_wp2_with fail
                go_meet
                exact ⟨1, _, true, rfl, P6, R2, E0⟩
              have R2 : Hid (rest k l = (0, ⟨#[]⟩, !true && !md)) := Lib.hid (by rw [RS.out, if_neg (by omega)])
              have e3 := ne_b (show (k : Int) ≠ 3 by omega); have e7 := ne_b (show (k : Int) ≠ 7 by omega)
              have e3' : (k == 3) = false := beq_eq_false_iff_ne.2 hk3; have e7' : (k == 7) = false := beq_eq_false_iff_ne.2 hk7
              have P6 := PP
              clear RS hk3 hk7
              go_wp2_with fail
              go_meet
              exact ⟨0, _, _, rfl, P6, R2, E0⟩
            · rw [if_neg hq1] at RS
              obtain rfl : m = 2 := by omega
              obtain ⟨g2, eg2, x1⟩ := PP.out.word 1 (by omega)
              injection eg2 with eg2; injection eg2 with eg2
              subst eg2
              rw [← HY1.out] at x1
              obtain ⟨n6, hn6⟩ : ∃ n6, n6 = (numberV y1).1 := ⟨_, rfl⟩
              obtain ⟨b6, hb6⟩ : ∃ b6, b6 = (numberV y1).2 := ⟨_, rfl⟩
              have NUM := Lib.hid (number_any y1 wc X1.out TC.out)
              rw [← hn6, ← hb6] at NUM
              have R2 : Hid (rest k l = (n6, ⟨#[]⟩, b6)) := Lib.hid (by rw [RS.out]; simp [hn6, hb6])
              clear RS hn6 hb6 hq1
              go_wp2_with (first | (go_at_call 15; refine (NB.out _).mono ?_; rintro e w5 ⟨rfl, rfl⟩) | (go_at_call 16; refine (MD.out _).mono ?_; rintro e w5 ⟨rfl, rfl⟩))
              refine NUM.out.mono ?_; rintro e w6 ⟨rfl, hb6'⟩
              have P6 := Lib.hid (PP.out.same hb6')
              obtain ⟨j0, j1, j2, jf⟩ := P6.out.cc
              have jf1 := jf 1
              have P7 := Lib.hid (P6.out.set1 n6)
              clear hb6' jf
              go_wp2_with fail
              go_meet
              exact ⟨n6, _, b6, rfl, P7, R2, E0⟩
          case rest =>
            clear k0 k1 k2 kf0 kf1 kf2 NB MD RS TC X1 E0 HY1 PP
            obtain ⟨n, y, ob, rfl, PQ, RQ, YS⟩ := hcut
            have PV3 : Hid (parseV s = if ob = true ∧ goodV k n y = true then some ((k : Int), n, y) else none) := Lib.hid (by rw [PV2.out, RQ.out])
            obtain ⟨k0, k1, k2, kf⟩ := PQ.out.cc
            clear kf PV2 RQ
            have TQ := Lib.hid (HT.out.below PQ.out.below)
            cases ob with
            | false =>
              have FV : Hid (parseV s = none) := Lib.hid (by rw [PV3.out]; simp)
              obtain ⟨r0, r1, r2, rf⟩ := PQ.out.rr
              have rf0 := rf 0; have rf1 := rf 1; have rf2 := rf 2
              have BB := Lib.hid (below_set3 (.int .i64 0) (.int .i64 0) (.string ⟨#[]⟩) PQ.out.below (by rw [HR.out]; exact Nat.le_refl _ : w.heap.size ≤ R))
              have Q3 := Lib.hid (st3 (.int .i64 0) (.int .i64 0) (.string ⟨#[]⟩) PQ.out.r)
              clear rf PV3 PQ
              go_wp2_with fail
              (try simp only [Exit.inBlock, Exit.then])
              refine bodyPost_ret (res8 rfl rfl Q3.out) rfl ?_
              exact ⟨by rw [FV.out]; rfl, BB.out⟩
            | true =>
              have GD := Lib.hid (good_any k n y wc YS.out TQ.out)
              obtain ⟨gd, hgd⟩ : ∃ gd, gd = goodV k n y := ⟨_, rfl⟩
              rw [← hgd] at GD PV3
              clear hgd
              go_wp2_with fail
              refine GD.out.mono ?_; rintro e w7 ⟨rfl, hb7⟩
              have P7 := Lib.hid (PQ.out.same hb7)
              obtain ⟨r0, r1, r2, rf⟩ := P7.out.rr
              have rf0 := rf 0; have rf1 := rf 1; have rf2 := rf 2
              obtain ⟨j0, j1, j2, jf⟩ := P7.out.cc
              clear rf jf k0 k1 k2 hb7 PQ TQ GD
              cases gd with
              | false =>
                have FV : Hid (parseV s = none) := Lib.hid (by rw [PV3.out]; simp)
                have BB := Lib.hid (below_set3 (.int .i64 0) (.int .i64 0) (.string ⟨#[]⟩) P7.out.below (by rw [HR.out]; exact Nat.le_refl _ : w.heap.size ≤ R))
                have Q3 := Lib.hid (st3 (.int .i64 0) (.int .i64 0) (.string ⟨#[]⟩) P7.out.r)
                clear PV3 P7
                go_wp2_with fail
                (try simp only [Exit.inBlock, Exit.then])
                refine bodyPost_ret (res8 rfl rfl Q3.out) rfl ?_
                exact ⟨by rw [FV.out]; rfl, BB.out⟩
              | true =>
                have FV : Hid (parseV s = some ((k : Int), n, y)) := Lib.hid (by rw [PV3.out]; simp)
                have BB := Lib.hid (below_set3 (.int .i64 k) (.int .i64 n) (.string y) P7.out.below (by rw [HR.out]; exact Nat.le_refl _ : w.heap.size ≤ R))
                have Q3 := Lib.hid (st3 (.int .i64 k) (.int .i64 n) (.string y) P7.out.r)
                clear PV3 P7
                go_wp2_with fail
                (try simp only [Exit.inBlock, Exit.then])
                refine bodyPost_ret (res8 rfl rfl Q3.out) rfl ?_
                exact ⟨by rw [FV.out]; rfl, BB.out⟩
      · have hu2 : u25 = .bool true := by rw [hu, toList_ne hvx]; rfl
        subst hu2
        clear hu
        have FG3 : Hid (findGo x gq (k + 1) = findGo x 17 1) := Lib.hid (by rw [← FG2.out, if_neg hvx])
        by_cases h17 : k = 17
        · subst h17
          have P2 : Hid (PB w (wc.setCell ⟨C, 0, none⟩ (.int .i64 18)) R C 18 0 ⟨#[]⟩ (some ⟨gw, 0, none⟩) m c l) := Lib.hid (PP.out.set0 18)
          have kk : (wc.setCell ⟨C, 0, none⟩ (.int .i64 18)).cell? ⟨C, 0, none⟩ = some (.int .i64 18) := P2.out.cc.1
          have FV : Hid (parseV s = none) := Lib.hid (by
            have e : findGo (wordAt l 0) 17 1 = none := by rw [← HX.out, ← FG3.out, show gq = 0 by omega]; rfl
            rw [PV.out, e])
          have BB := Lib.hid (below_set3 (.int .i64 0) (.int .i64 0) (.string ⟨#[]⟩) P2.out.below (by rw [HR.out]; exact Nat.le_refl _ : w.heap.size ≤ R))
          have Q3 := Lib.hid (st3 (.int .i64 0) (.int .i64 0) (.string ⟨#[]⟩) P2.out.r)
          obtain ⟨r0, r1, r2, rf⟩ := P2.out.rr
          have rf0 := rf 0; have rf1 := rf 1; have rf2 := rf 2
          clear rf hvx FG2 FG3
          go_wp2
          (try simp only [Exit.inBlock, Exit.then])
          refine bodyPost_ret (res8 rfl rfl Q3.out) rfl ?_
          exact ⟨by rw [FV.out]; rfl, BB.out⟩
        · have P2 : Hid (PB w (wc.setCell ⟨C, 0, none⟩ (.int .i64 ((k : Int) + 1))) R C ((k : Int) + 1) 0 ⟨#[]⟩ (some ⟨gw, 0, none⟩) m c l) := Lib.hid (PP.out.set0 ((k : Int) + 1))
          have kk : (wc.setCell ⟨C, 0, none⟩ (.int .i64 ((k : Int) + 1))).cell? ⟨C, 0, none⟩ = some (.int .i64 ((k : Int) + 1)) := P2.out.cc.1
          have hk16 : k ≤ 16 := by omega
          have d17 := decide_eq_false (show ¬ (17 : Int) < (k : Int) + 1 by omega)
          have P3 : Hid (PB w (wc.setCell ⟨C, 0, none⟩ (.int .i64 ((k : Int) + 1))) R C ((k + 1 : Nat) : Int) 0 ⟨#[]⟩ (some ⟨gw, 0, none⟩) m c l) := Lib.hid (by have := P2.out; rwa [show ((k + 1 : Nat) : Int) = (k : Int) + 1 by omega])
          have HGK : Hid (gq + (k + 1) = 18) := Lib.hid (by omega)
          have FG4 : Hid (findGo (wordAt l 0) gq (k + 1) = findGo (wordAt l 0) 17 1) := Lib.hid (by rw [← HX.out]; exact FG3.out)
          clear hvx FG2 FG3 h17 hgk
          go_wp2
          go_roundg gq
          case measure => omega
          case rel => exact ⟨k + 1, HGK.out, by omega, by omega, P3, FG4⟩
end Go.Proofs.YtebgloacobaocaaDoor
