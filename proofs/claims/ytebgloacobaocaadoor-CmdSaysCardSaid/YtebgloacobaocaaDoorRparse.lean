import Derived.Test.YtebgloacobaocaaDoorRpa
namespace Go.Proofs.YtebgloacobaocaaDoor
open Go.ChangeShapes Go.WideShapes Go.ChangeAt Go.RowKit Go.Shelf Go.Lib CharsMath
set_option linter.unusedVariables false
theorem LP.box3 {w wr : World} {R g h ga m : Nat} {l : List ByteArray} (p : LP w wr R g h ga m l) (k n : Int) (x : ByteArray) : BX w (wr.alloc (.cells #[.int .i64 k, .int .i64 n, .string x] 30)) R wr.heap.size k n x := by
  have q := p.same (below_alloc wr (.cells #[.int .i64 k, .int .i64 n, .string x] 30))
  exact ⟨q.below, q.r, heap_alloc_new _ _, p.hR, (Array.getElem?_eq_some_iff.1 p.r).1⟩
theorem countGo_range (s : ByteArray) : ∀ f i (n P : Nat), n < P → P = 10 ^ i → i ≤ s.size → s.size ≤ 9 → -1 ≤ countGo s f i n ∧ countGo s f i n ≤ 1000000000 := by
  intro f
  induction f with
  | zero => intro i n P h1 h2 h3 h4; unfold countGo; omega
  | succ f ih =>
    intro i n P h1 h2 h3 h4
    unfold countGo
    split
    · split
      · rename_i h5 h6
        unfold digB at h6
        simp at h6
        obtain ⟨d, hd⟩ : ∃ d : Nat, d + 48 = (s.get! i).toNat := ⟨(s.get! i).toNat - 48, by omega⟩
        rw [show 10 * (n : Int) + (((s.get! i).toNat : Int) - 48) = ((10 * n + d : Nat) : Int) by omega]
        exact ih (i + 1) (10 * n + d) (P * 10) (by omega) (by rw [h2, Nat.pow_succ]) (by omega) h4
      · omega
    · have : P ≤ 1000000000 := by rw [h2]; exact Nat.pow_le_pow_right (n := 10) (by omega) (show i ≤ 9 by omega)
      omega
theorem countV_range (s : ByteArray) : -1 ≤ countV s ∧ countV s ≤ 1000000000 := by
  unfold countV
  split
  · omega
  · exact countGo_range s _ 0 0 1 (by omega) rfl (by omega) (by omega)
set_option maxRecDepth 100000 in
set_option maxHeartbeats 4000000 in
theorem rparse_any (s : ByteArray) (w : World) (hs : s.size ≤ 1000000) (hT : Tabs w) :
    Calls Tryd.prog 11 #[.string s] w fun e w' => e = .returned (ransV (rparseV s)) ∧ Below w.heap.size w w' := by
  have HT : Hid (Tabs w) := Lib.hid hT
  have B0 := Lib.hid (below_alloc w (.cells #[.int .i64 0, .int .i64 0, .string ⟨#[]⟩] 30))
  have WS := Lib.hid (cut_any s (w.alloc (.cells #[.int .i64 0, .int .i64 0, .string ⟨#[]⟩] 30)) hs (hT.below B0.out))
  have KC := Lib.hid kinds_any
  clear hT
  go_enter Tryd.func11, Tryd.ntmps11
  go_wp2_with fail
  refine WS.out.mono ?_; rintro e w1 ⟨A, m, c, rfl, HM, OWN, hb1⟩
  have B1 := Lib.hid (bt B0.out hb1.out)
  obtain ⟨R, hR⟩ : ∃ R, R = w.heap.size := ⟨_, rfl⟩
  have RR : Hid (w1.heap[R]? = some (.cells #[.int .i64 0, .int .i64 0, .string ⟨#[]⟩] 30 (0, 0))) := Lib.hid (by
    rw [hb1.out.block R (by rw [hR]; simp), hR]
    exact heap_alloc_new _ _)
  obtain ⟨r0, r1, r2, rf0, rf1, rf2⟩ := cells3 RR.out
  clear hb1
  rw [← hR]
  by_cases hm0 : m = 0
  · have FV : Hid (rparseV s = none) := Lib.hid (by unfold rparseV; rw [if_pos (by rw [← HM.out]; exact hm0)])
    subst hm0
    have BB := Lib.hid (below_set3 (.int .i64 0) (.int .i64 0) (.string ⟨#[]⟩) B1.out (by rw [hR]; exact Nat.le_refl _ : w.heap.size ≤ R))
    have Q3 := Lib.hid (st30 (.int .i64 0) (.int .i64 0) (.string ⟨#[]⟩) RR.out)
    have HR := Lib.hid hR
    clear hR
    go_wp2
    (try simp only [Exit.inBlock, Exit.then])
    refine bodyPost_ret (res11 rfl rfl Q3.out) rfl ?_
    exact ⟨by rw [FV.out]; rfl, BB.out⟩
  by_cases hm2 : 2 < m
  · have FV : Hid (rparseV s = none) := Lib.hid (by unfold rparseV; rw [if_neg (by rw [← HM.out]; exact hm0), if_pos (by rw [← HM.out]; exact hm2)])
    have BB := Lib.hid (below_set3 (.int .i64 0) (.int .i64 0) (.string ⟨#[]⟩) B1.out (by rw [hR]; exact Nat.le_refl _ : w.heap.size ≤ R))
    have Q3 := Lib.hid (st30 (.int .i64 0) (.int .i64 0) (.string ⟨#[]⟩) RR.out)
    have HR := Lib.hid hR
    have d1 := decide_eq_false (show ¬ (m : Int) < 1 by omega)
    have d2 := decide_eq_true (show (2 : Int) < (m : Int) by omega)
    clear hR hm0
    go_wp2
    (try simp only [Exit.inBlock, Exit.then])
    refine bodyPost_ret (res11 rfl rfl Q3.out) rfl ?_
    exact ⟨by rw [FV.out]; rfl, BB.out⟩
  have d1 := decide_eq_false (show ¬ (m : Int) < 1 by omega)
  have d2 := decide_eq_false (show ¬ (2 : Int) < (m : Int) by omega)
  have hm12 : m ≤ 2 := by omega
  have hm1 : 0 < m := by omega
  have hm1' : (0 : Int) < (m : Int) := by omega
  obtain ⟨l, hl⟩ : ∃ l, l = wordsV s := ⟨_, rfl⟩
  rw [← hl] at HM OWN
  have SZ : Hid ((wordAt l 1).size ≤ 1000000) := Lib.hid (by rw [hl]; exact Nat.le_trans (wordAt_size s 1) hs)
  have PV : Hid (rparseV s = match findGo (wordAt l 0) 17 1 with
    | none => none
    | some k => rkV k l) := Lib.hid (by unfold rparseV; rw [← hl]; rw [if_neg (by rw [← HM.out]; exact hm0), if_neg (by rw [← HM.out]; exact hm2)]; rfl)
  obtain ⟨ga, cap, eA, _⟩ := OWN.out.form hm1
  have hA : A = some ⟨ga, 0, none⟩ := by injection eA
  subst hA
  clear eA
  have AR : Hid (∀ i, i < m → w1.cell? ⟨ga, i, none⟩ = some (.string (wordAt l i))) := Lib.hid (fun i hi => by
    have hml := HM.out
    rw [OWN.out.cellAt i (by omega)]
    simp [strs, wordAt, List.getD, show i < l.length by omega])
  have GA : Hid (ga < w1.heap.size) := Lib.hid (OWN.out.lt ga rfl).2
  have HR := Lib.hid hR
  clear hm0 hm2 hl OWN r0 r1 r2 rf0 rf1 rf2 hR
  go_wp2_with fail
  refine (KC.out _).mono ?_; rintro e w2 ⟨g, h, rfl, K⟩
  have P2 : Hid (LP w w2 R g h ga m l) := Lib.hid (by
    have kb := K.below
    refine ⟨bt B1.out kb, (kb.block R (Array.getElem?_eq_some_iff.1 RR.out).1).trans RR.out, K.words, K.rest, fun i hi => (kb.cell (p := ⟨ga, i, none⟩) GA.out).trans (AR.out i hi), HR.out, K.gl, K.hl, Nat.lt_of_lt_of_le GA.out kb.size⟩)
  clear K AR GA RR B1 KC
  go_wp2
  go_loopg [7] 18 (fun gk kv wr => ∃ k : Nat, kv = .int .i64 k ∧ gk + k = 19 ∧ 1 ≤ k ∧ k ≤ 18 ∧ Hid (LP w wr R g h ga m l) ∧ Hid (findGo (wordAt l 0) (18 - k) k = findGo (wordAt l 0) 17 1))
  case atStart => exact ⟨1, rfl, rfl, by omega, by omega, P2, Lib.hid rfl⟩
  case round =>
    clear P2
    obtain ⟨k, rfl, hgk, hk1, hk18, LPP, FG⟩ := hrel
    by_cases hk : k = 18
    · have FV : Hid (rparseV s = none) := Lib.hid (by rw [PV.out, ← FG.out, hk]; rfl)
      subst hk
      obtain ⟨r0, r1, r2, rf0, rf1, rf2⟩ := cells3 LPP.out.r
      have BB := Lib.hid (below_set3 (.int .i64 0) (.int .i64 0) (.string ⟨#[]⟩) LPP.out.below (by rw [LPP.out.hR]; exact Nat.le_refl _ : w.heap.size ≤ R))
      have Q3 := Lib.hid (st30 (.int .i64 0) (.int .i64 0) (.string ⟨#[]⟩) LPP.out.r)
      go_wp2
      (try simp only [Exit.inBlock, Exit.then])
      refine bodyPost_ret (res11 rfl rfl Q3.out) rfl ?_
      exact ⟨by rw [FV.out]; rfl, BB.out⟩
    have hk17 : k < 18 := by omega
    have hk17' : (k : Int) < 18 := by omega
    have c1 : wr.cell? ⟨g, k, none⟩ = some (.string (verbs.getD k ⟨#[]⟩)) := LPP.out.words k hk17
    have c2 : wr.cell? ⟨ga, 0, none⟩ = some (.string (wordAt l 0)) := LPP.out.args 0 hm1
    have VE : Hid (verbV (k : Int) = verbs.getD k ⟨#[]⟩) := Lib.hid (by unfold verbV; rw [if_neg (by omega), Int.toNat_natCast])
    obtain ⟨v, hv⟩ : ∃ v, v = verbs.getD k ⟨#[]⟩ := ⟨_, rfl⟩
    obtain ⟨x, hx⟩ : ∃ x, x = wordAt l 0 := ⟨_, rfl⟩
    rw [← hv] at c1 VE; rw [← hx] at c2 PV FG
    have FS : Hid (findGo x (18 - k) k = if verbV (k : Int) = x then some k else findGo x (18 - (k + 1)) (k + 1)) := Lib.hid (by rw [show 18 - k = (18 - (k + 1)) + 1 by omega]; rfl)
    clear hv
    by_cases hvx : v = x
    · subst hvx
      have FV : Hid (rparseV s = rkV k l) := Lib.hid (by rw [PV.out, ← FG.out, FS.out, if_pos VE.out])
      clear PV FG FS VE
      go_wp2_with fail
      go_quiet (fail)
      generalize hW3 : wr.drewN nq = W3
      have L3 : Hid (LP w W3 R g h ga m l) := Lib.hid (LPP.out.same (by rw [← hW3]; exact below_drewN _ _))
      clear hW3 c1 c2 hx
      obtain ⟨b, hb⟩ : ∃ b, b = behind.getD k 0 := ⟨_, rfl⟩
      have Q4 := Lib.hid (L3.out.same (below_alloc W3 (.cells #[.int .i64 (k : Int), .int .i64 0, .string ⟨#[]⟩] 30)))
      have X4 := Lib.hid (L3.out.box (k : Int))
      have c3 : (W3.alloc (.cells #[.int .i64 (k : Int), .int .i64 0, .string ⟨#[]⟩] 30)).cell? ⟨h, k, none⟩ = some (.int .i64 b) := by rw [hb]; exact Q4.out.rest k hk17
      have c3' : W3.cell? ⟨h, k, none⟩ = some (.int .i64 b) := by rw [hb]; exact L3.out.rest k hk17
      obtain ⟨ar0, ar1, ar2, arf0, arf1, arf2⟩ := cells3 X4.out.r
      obtain ⟨ac0, ac1, ac2, acf0, acf1, acf2⟩ := cells3 X4.out.cm
      have hne : R ≠ W3.heap.size := Nat.ne_of_lt X4.out.rc.2
      have hne2 : W3.heap.size ≠ R := fun e => hne e.symm
      have RK : Hid (rparseV s = if b = 0 then (if m = 1 then some ((k : Int), 0, ⟨#[]⟩) else none)
        else if b = 2 then (if m = 2 ∧ rnamedV (wordAt l 1) = true then some ((k : Int), 0, wordAt l 1) else none)
        else if m = 1 then (if b = 3 then some ((k : Int), 1, ⟨#[]⟩) else none)
        else if countV (wordAt l 1) < 0 then none else if countV (wordAt l 1) = 0 ∧ (k : Int) ≠ 10 then none else some ((k : Int), countV (wordAt l 1), ⟨#[]⟩)) := Lib.hid (by rw [FV.out]; unfold rkV; rw [← hb, ← HM.out])
      clear FV hb
      obtain ⟨x1, hx1⟩ : ∃ x1, x1 = wordAt l 1 := ⟨_, rfl⟩
      have C4 : Hid (m = 2 → (W3.alloc (.cells #[.int .i64 (k : Int), .int .i64 0, .string ⟨#[]⟩] 30)).cell? ⟨ga, 1, none⟩ = some (.string x1)) := Lib.hid (fun e => by rw [hx1]; exact Q4.out.args 1 (by omega))
      rw [← hx1] at RK SZ
      have NM := Lib.hid (fun W (hW : Below w.heap.size w W) => rnamed_any x1 W (by have := SZ.out; unfold maxLen; omega) (HT.out.below hW))
      have CT := Lib.hid (fun W => rcount_any x1 W (by have := SZ.out; unfold maxLen; omega))
      clear hx1
      obtain ⟨nm, hnm⟩ : ∃ nm, nm = rnamedV x1 := ⟨_, rfl⟩
      obtain ⟨n, hn⟩ : ∃ n, n = countV x1 := ⟨_, rfl⟩
      have NR : Hid (-1 ≤ n ∧ n ≤ 1000000000) := Lib.hid (by rw [hn]; exact countV_range x1)
      rw [← hnm] at NM RK; rw [← hn] at CT RK
      clear hnm hn
      by_cases e0 : b = 0
      · subst e0
        by_cases em : m = 1
        · have FV : Hid (rparseV s = some ((k : Int), 0, ⟨#[]⟩)) := Lib.hid (by rw [RK.out, if_pos rfl, if_pos em])
          subst em
          go_wp2
          (try simp only [Exit.inBlock, Exit.then])
          refine bodyPost_ret (res11 rfl rfl (st30 _ _ _ X4.out.r)) rfl ?_
          exact ⟨by rw [FV.out]; rfl, below_set3 _ _ _ X4.out.below (by rw [X4.out.rc.1]; exact Nat.le_refl _)⟩
        · have FV : Hid (rparseV s = none) := Lib.hid (by rw [RK.out, if_pos rfl, if_neg em])
          have nm1 : ((m : Int) != 1) = true := by unfold bne; rw [ne_b (show (m : Int) ≠ 1 by omega)]; rfl
          clear em
          go_wp2
          (try simp only [Exit.inBlock, Exit.then])
          refine bodyPost_ret (res11 rfl rfl (st30 _ _ _ X4.out.r)) rfl ?_
          exact ⟨by rw [FV.out]; rfl, below_set3 _ _ _ X4.out.below (by rw [X4.out.rc.1]; exact Nat.le_refl _)⟩
      have nb0 := ne_b e0
      by_cases e2 : b = 2
      · subst e2
        by_cases em : m = 1
        · have FV : Hid (rparseV s = none) := Lib.hid (by rw [RK.out, if_neg (by decide), if_pos rfl, if_neg (by omega)])
          subst em
          go_wp2
          (try simp only [Exit.inBlock, Exit.then])
          refine bodyPost_ret (res11 rfl rfl (st30 _ _ _ X4.out.r)) rfl ?_
          exact ⟨by rw [FV.out]; rfl, below_set3 _ _ _ X4.out.below (by rw [X4.out.rc.1]; exact Nat.le_refl _)⟩
        · obtain rfl : m = 2 := by omega
          have c4 := C4.out rfl
          cases nm with
          | false =>
            have FV : Hid (rparseV s = none) := Lib.hid (by rw [RK.out, if_neg (by decide), if_pos rfl, if_neg (by simp)])
            clear em
            go_wp2_with fail
            refine (NM.out _ X4.out.below).mono ?_; rintro e w5 ⟨rfl, hb5⟩
            have X5 := Lib.hid (X4.out.same hb5)
            clear hb5
            obtain ⟨dr0, dr1, dr2, drf0, drf1, drf2⟩ := cells3 X5.out.r
            go_wp2
            (try simp only [Exit.inBlock, Exit.then])
            refine bodyPost_ret (res11 rfl rfl (st30 _ _ _ X5.out.r)) rfl ?_
            exact ⟨by rw [FV.out]; rfl, below_set3 _ _ _ X5.out.below (by rw [X5.out.rc.1]; exact Nat.le_refl _)⟩
          | true =>
            have FV : Hid (rparseV s = some ((k : Int), 0, x1)) := Lib.hid (by rw [RK.out, if_neg (by decide), if_pos rfl, if_pos ⟨rfl, rfl⟩])
            clear em
            go_wp2_with fail
            refine (NM.out _ X4.out.below).mono ?_; rintro e w5 ⟨rfl, hb5⟩
            have X5 := Lib.hid (X4.out.same hb5)
            have X6 := Lib.hid (X5.out.set2 x1)
            have c5 : w5.cell? ⟨ga, 1, none⟩ = some (.string x1) := (hb5.cell (p := ⟨ga, 1, none⟩) (World.block_lt_of_cell? _ _ c4)).trans c4
            clear hb5
            obtain ⟨dr0, dr1, dr2, drf0, drf1, drf2⟩ := cells3 X5.out.r
            obtain ⟨dc0, dc1, dc2, dcf0, dcf1, dcf2⟩ := cells3 X5.out.cm
            obtain ⟨fr0, fr1, fr2, frf0, frf1, frf2⟩ := cells3 X6.out.r
            obtain ⟨fc0, fc1, fc2, fcf0, fcf1, fcf2⟩ := cells3 X6.out.cm
            go_wp2_with fail
            (try simp only [Exit.inBlock, Exit.then])
            refine bodyPost_ret (res11 rfl rfl (st30 _ _ _ X6.out.r)) rfl ?_
            exact ⟨by rw [FV.out]; rfl, below_set3 _ _ _ X6.out.below (by rw [X6.out.rc.1]; exact Nat.le_refl _)⟩
      have nb2 := ne_b e2
      by_cases em : m = 1
      · subst em
        by_cases e3 : b = 3
        · have FV : Hid (rparseV s = some ((k : Int), 1, ⟨#[]⟩)) := Lib.hid (by rw [RK.out, if_neg e0, if_neg e2, if_pos rfl, if_pos e3])
          subst e3
          have X6 := Lib.hid (X4.out.set1 1)
          have X7 := Lib.hid (L3.out.box3 (k : Int) 1 ⟨#[]⟩)
          obtain ⟨fr0, fr1, fr2, frf0, frf1, frf2⟩ := cells3 X6.out.r
          obtain ⟨fc0, fc1, fc2, fcf0, fcf1, fcf2⟩ := cells3 X6.out.cm
          obtain ⟨gr0, gr1, gr2, grf0, grf1, grf2⟩ := cells3 X7.out.r
          obtain ⟨gc0, gc1, gc2, gcf0, gcf1, gcf2⟩ := cells3 X7.out.cm
          go_wp2
          first
            | ((try simp only [Exit.inBlock, Exit.then]); refine bodyPost_ret (res11 rfl rfl (st30 _ _ _ X7.out.r)) rfl ?_; exact ⟨by rw [FV.out]; rfl, below_set3 _ _ _ X7.out.below (by rw [X7.out.rc.1]; exact Nat.le_refl _)⟩)
            | ((try simp only [Exit.inBlock, Exit.then]); refine bodyPost_ret (res11 rfl rfl (st30 _ _ _ X6.out.r)) rfl ?_; exact ⟨by rw [FV.out]; rfl, below_set3 _ _ _ X6.out.below (by rw [X6.out.rc.1]; exact Nat.le_refl _)⟩)
        · have FV : Hid (rparseV s = none) := Lib.hid (by rw [RK.out, if_neg e0, if_neg e2, if_pos rfl, if_neg e3])
          have nb3 : (b != 3) = true := by unfold bne; rw [ne_b e3]; rfl
          clear e0 e2 e3
          go_wp2
          (try simp only [Exit.inBlock, Exit.then])
          refine bodyPost_ret (res11 rfl rfl (st30 _ _ _ X4.out.r)) rfl ?_
          exact ⟨by rw [FV.out]; rfl, below_set3 _ _ _ X4.out.below (by rw [X4.out.rc.1]; exact Nat.le_refl _)⟩
      · obtain rfl : m = 2 := by omega
        have c4 := C4.out rfl
        have X6 := Lib.hid (X4.out.set1 n)
        obtain ⟨fr0, fr1, fr2, frf0, frf1, frf2⟩ := cells3 X6.out.r
        obtain ⟨fc0, fc1, fc2, fcf0, fcf1, fcf2⟩ := cells3 X6.out.cm
        have RK2 : Hid (rparseV s = if n < 0 then none else if n = 0 ∧ (k : Int) ≠ 10 then none else some ((k : Int), n, ⟨#[]⟩)) := Lib.hid (by rw [RK.out, if_neg e0, if_neg e2, if_neg em])
        clear RK e0 e2 em
        by_cases n0 : n < 0
        · have FV : Hid (rparseV s = none) := Lib.hid (by rw [RK2.out, if_pos n0])
          have dn := decide_eq_true n0
          clear n0
          have X7 := Lib.hid (L3.out.box3 (k : Int) n ⟨#[]⟩)
          obtain ⟨gr0, gr1, gr2, grf0, grf1, grf2⟩ := cells3 X7.out.r
          go_wp2_with fail
          refine (CT.out _).mono ?_; rintro e w5 ⟨rfl, rfl⟩
          go_wp2
          (try simp only [Exit.inBlock, Exit.then])
          refine bodyPost_ret (res11 rfl rfl (st30 _ _ _ X7.out.r)) rfl ?_
          exact ⟨by rw [FV.out]; rfl, below_set3 _ _ _ X7.out.below (by rw [X7.out.rc.1]; exact Nat.le_refl _)⟩
        have dn := decide_eq_false n0
        by_cases n1 : n = 0
        · subst n1
          by_cases k1 : (k : Int) = 10
          · have FV : Hid (rparseV s = some ((k : Int), 0, ⟨#[]⟩)) := Lib.hid (by rw [RK2.out, if_neg n0, if_neg (fun q => q.2 k1)])
            have nk : ((k : Int) != 10) = false := by unfold bne; rw [k1]; rfl
            clear n0 k1
            go_wp2_with fail
            refine (CT.out _).mono ?_; rintro e w5 ⟨rfl, rfl⟩
            go_wp2
            (try simp only [Exit.inBlock, Exit.then])
            refine bodyPost_ret (res11 rfl rfl (st30 _ _ _ X4.out.r)) rfl ?_
            exact ⟨by rw [FV.out]; rfl, below_set3 _ _ _ X4.out.below (by rw [X4.out.rc.1]; exact Nat.le_refl _)⟩
          · have FV : Hid (rparseV s = none) := Lib.hid (by rw [RK2.out, if_neg n0, if_pos ⟨rfl, k1⟩])
            have nk : ((k : Int) != 10) = true := by unfold bne; rw [ne_b k1]; rfl
            clear n0 k1
            go_wp2_with fail
            refine (CT.out _).mono ?_; rintro e w5 ⟨rfl, rfl⟩
            go_wp2
            (try simp only [Exit.inBlock, Exit.then])
            refine bodyPost_ret (res11 rfl rfl (st30 _ _ _ X4.out.r)) rfl ?_
            exact ⟨by rw [FV.out]; rfl, below_set3 _ _ _ X4.out.below (by rw [X4.out.rc.1]; exact Nat.le_refl _)⟩
        · have FV : Hid (rparseV s = some ((k : Int), n, ⟨#[]⟩)) := Lib.hid (by rw [RK2.out, if_neg n0, if_neg (fun q => n1 q.1)])
          have nn1 := ne_b n1
          have X7 := Lib.hid (L3.out.box3 (k : Int) n ⟨#[]⟩)
          obtain ⟨gr0, gr1, gr2, grf0, grf1, grf2⟩ := cells3 X7.out.r
          obtain ⟨gc0, gc1, gc2, gcf0, gcf1, gcf2⟩ := cells3 X7.out.cm
          clear n0 n1
          go_wp2_with fail
          refine (CT.out _).mono ?_; rintro e w5 ⟨rfl, rfl⟩
          go_wp2
          (try simp only [Exit.inBlock, Exit.then])
          refine bodyPost_ret (res11 rfl rfl (st30 _ _ _ X7.out.r)) rfl ?_
          exact ⟨by rw [FV.out]; rfl, below_set3 _ _ _ X7.out.below (by rw [X7.out.rc.1]; exact Nat.le_refl _)⟩
    · have ev := toList_ne hvx
      have ev2 : (v.toList != x.toList) = true := by unfold bne; rw [ev]; rfl
      have FN : Hid (findGo x (18 - (k + 1)) (k + 1) = findGo x 17 1) := Lib.hid (by rw [← FG.out, FS.out, if_neg (fun e => hvx (VE.out.symm.trans e))])
      have HX := Lib.hid hx
      clear hvx FS VE FG hx
      go_wp2_with fail
      go_quiet (fail)
      go_wp2
      go_roundg (gk - 1)
      case measure => omega
      case rel => exact ⟨k + 1, by go_num, by omega, by omega, by omega, Lib.hid (LPP.out.same (by first | exact Below.refl _ _ | exact below_drewN _ _)), Lib.hid (by rw [← HX.out]; exact FN.out)⟩
end Go.Proofs.YtebgloacobaocaaDoor
