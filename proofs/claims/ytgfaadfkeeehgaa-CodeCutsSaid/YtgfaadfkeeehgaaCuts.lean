import Derived.Test.YtgfaadfkeeehgaaCutW
namespace Go.Proofs.Ytgfaadfkeeehgaa
open Go.ChangeShapes Go.WideShapes Go.ChangeAt Go.RowKit Go.Maps
set_option linter.unusedVariables false
theorem wpList_insert_own {H : Type} {P : Program} (w : World) {ops : Array Oper} {rest : List Oper} {o : Oper} {a : Act} {Q : Exit → Act → World → Prop}
    (hg : o.guard = none) (m x v : Operand) (t : TypeId) (hop : o.op = Op.insert t m x v)
    (k e : TypeId) (K : Keyed P k) (ht : P.underlying t = some (.map k e)) (R : Value → Option (DataW H × List MemPlace)) (b n : Nat) (D : DataW H)
    (hm : a.eval m = .map (some b)) (hown : w.ownsMap P k R b n D) (hn : n < maxLen) (key val : Value) (kl : Lit) (hx : a.eval x = key) (hv : a.eval v = val) (hkey : keyOf P k key = some kl)
    (d : DataW H) (ps : List MemPlace) (hval : R val = some (d, ps))
    (hK : ∀ w', w'.ownsMap P k R b (n + 1) (D.put kl d) → w.grownBy w' (some b) → wpList P ops Q rest (a.put o.dst undef) w') :
    wpList P ops Q (o :: rest) a w := by
  refine wpList_plain hg fun K' hK' => ?_
  obtain ⟨w', hrun, r1, r2⟩ := hown.update K ht hn hkey hval
  unfold Oper.wp
  simp [execOp, hop, hm, hx, hv, hrun, Result.andThen]
  exact hK' _ _ (hK w' r1 r2)
theorem own_map_below {w w' : World} {b n : Nat} {D : DataW Unit} (h : w.ownsMap Try.prog 3 (plainElem Try.prog 3) b n D) (hb : Below w.heap.size w w') : w'.ownsMap Try.prog 3 (plainElem Try.prog 3) b n D := by
  obtain ⟨es, clock, h1, h2⟩ := h
  have hlt : b < w.heap.size := by
    rcases Nat.lt_or_ge b w.heap.size with h | h
    · exact h
    · rw [Array.getElem?_eq_none h] at h1; cases h1
  exact ⟨es, clock, by rw [hb.block b hlt]; exact h1, h2⟩
theorem wf_nat (n : Nat) (h : n ≤ 100000) : (Lit.int .i64 (n : Int)).wf = true := by refine WalkArith.wf_i64 ?_; omega
theorem wf_nat1 (n : Nat) (h : n ≤ 100000) : (Lit.int .i64 ((n : Int) + 1)).wf = true := by refine WalkArith.wf_i64 ?_; omega
theorem own_ne_map {w : World} {base n b m : Nat} {v : Value} {xs : List Value} {D : DataW Unit} (own : w.ownsRow base 5 1 v n xs) (om : w.ownsMap Try.prog 3 (plainElem Try.prog 3) b m D) : v.ownBlock = none ∨ v.ownBlock ≠ some b := by
  rcases own.2 with ⟨rfl, _⟩ | ⟨g, cap, cur, rfl, _, hg, _⟩
  · exact .inl rfl
  · right
    intro e
    simp only [Value.ownBlock, Option.some.injEq] at e
    obtain ⟨es, clock, h1, _⟩ := om
    rw [e, h1] at hg
    cases hg
theorem law3 : Keyed Try.prog 3 := int_keyed Try.underlying3
theorem zero3 (w : World) : (zeroValue 3).run Try.prog w = .ok (.int .i64 0) w := by kernel_rfl
set_option maxRecDepth 100000 in
set_option maxHeartbeats 4000000 in
theorem cuts_long (A : Option Addr) (n c : Nat) (cut : Int) (w : World) (hn : 20 < n) : Calls Try.prog 6 #[.slice A n c, .int .i64 cut] w fun e w' => e = .returned (.bool true) ∧ Below w.heap.size w w' := by
  have hn' : (20 : Int) < n := by omega
  go_enter Try.func6, Try.ntmps6
  go_wp2_with fail
  refine (awake _).mono ?_; rintro e w1 ⟨rfl, hb1⟩
  go_wp2
  go_ret
  exact ⟨rfl, hb1⟩
set_option maxRecDepth 100000 in
set_option maxHeartbeats 8000000 in
theorem cuts_in {w : World} {h off cap : Nat} {xs : List (Int × Int × Int)} (cut : Int) (hr : RdI w h off xs) (hlt : h < w.heap.size) (hl : xs.length ≤ 20)
    (hrng : ∀ x ∈ xs, -9223372036854775808 ≤ x.2.1 ∧ x.2.1 < 9223372036854775808 ∧ -9223372036854775808 ≤ x.2.2 ∧ x.2.2 < 9223372036854775808) :
    Calls Try.prog 6 #[.slice (some ⟨h, off, none⟩) xs.length cap, .int .i64 cut] w fun e w' => e = .returned (.bool true) ∧ Below w.heap.size w w' := by
  have HR : Hid (∀ W, Below w.heap.size w W → RdI W h off xs) := Lib.hid (fun W hW j u hu => by rw [hW.cell (p := ⟨h, off + j, none⟩) hlt]; exact hr j u hu)
  have RNG := Lib.hid hrng
  clear hr hrng
  have hlz : (xs.length : Int) ≤ 20 := by omega
  have hmm := @run_makeMap Try.prog
  go_enter Try.func6, Try.ntmps6
  go_wp2_with fail
  refine (awake _).mono ?_; rintro e w1 ⟨rfl, hb1⟩
  have B1 := Lib.hid hb1; clear hb1
  go_wp2_with ((refine wpList_insert_own (H := Unit) _ rfl (.tmp 17) _ _ 42 rfl 3 3 law3 Try.underlying42 (plainElem Try.prog 3) w1.heap.size 0 _ rfl (World.ownsMap_made _ _ _ _) (by unfold maxLen; omega) _ _ _ rfl rfl (keyOf_int_mk Try.underlying3 (a := 0) (by decide)) _ [] (plainElem_int Try.underlying3 (a := 0) (by decide)) ?_))
  intro w2 om2 gr2
  have hB1 := B1.out.size
  have B2 : Below w.heap.size w w2 := (B1.out.alloc hB1 _).grown gr2 (by simp; omega) (fun k hk => by injection hk with hk; omega)
  have BB2 := Lib.hid B2
  obtain ⟨mb, hmb⟩ : ∃ mb, mb = w1.heap.size := ⟨_, rfl⟩
  rw [← hmb] at om2 ⊢
  have OM2 : Hid (w2.ownsMap Try.prog 3 (plainElem Try.prog 3) mb 1 (MC xs 0)) := Lib.hid om2
  have HMB : Hid (w.heap.size ≤ mb) := Lib.hid (by omega)
  clear om2 gr2 B2 hmb hmm
  go_wp2
  go_loopw [5, 7] (fun b i wr => ∃ (k nn base : Nat), k ≤ xs.length ∧ i = .int .i64 k ∧ Hid (Below w.heap.size w wr) ∧ Hid (base ≤ wr.heap.size) ∧ Hid (wr.ownsRow base 5 1 b nn (bys (code (xs.take k)))) ∧ Hid (∀ x ∈ xs.take k, Fine x) ∧ Hid (wr.ownsMap Try.prog 3 (plainElem Try.prog 3) mb (k + 1) (MC xs k))) (fun _ i _ => xs.length - (intOf i).toNat)
  case atStart => exact ⟨0, 0, 0, by omega, rfl, BB2, Lib.hid (by omega), Lib.hid (World.ownsRow_nil _ _ _ _), Lib.hid (by simp), OM2⟩
  case round =>
    obtain ⟨k, nn, base, hk, rfl, hbw, hbase, own, hfine, om⟩ := hrel
    by_cases hkl : k < xs.length
    · obtain ⟨y, m, hym⟩ : ∃ y m, xs.drop k = y :: m := ⟨xs[k], xs.drop (k + 1), List.drop_eq_getElem_cons hkl⟩
      obtain ⟨t1, t2, t3⟩ := take_succ xs k y m hym
      have ry := RNG.out y (by have : y ∈ xs.drop k := by rw [hym]; exact List.mem_cons_self ..
                               exact List.mem_of_mem_drop this)
      have C : Hid (∀ W, Below w.heap.size w W → W.cell? ⟨h, off + k * 3, none⟩ = some (.int .i64 y.1) ∧ W.cell? ⟨h, off + k * 3 + 1, none⟩ = some (.int .i64 y.2.1) ∧ W.cell? ⟨h, off + k * 3 + 2, none⟩ = some (.int .i64 y.2.2)) := Lib.hid (fun W hW => (HR.out W hW).at_ k y m hym)
      obtain ⟨y1, y2, y3⟩ := y
      simp only at C ry
      have cl := code_byte (xs.take k) hfine.out
      have R1 := Lib.hid ry.1; have R2 := Lib.hid ry.2.1; have R3 := Lib.hid ry.2.2.1; have R4 := Lib.hid ry.2.2.2
      have T1 := Lib.hid t1
      have CL := Lib.hid cl
      clear t1 t2 t3 ry hym cl
      obtain ⟨c0, c1, c2⟩ := C.out wr hbw.out
      by_cases hg : 0 ≤ y1 ∧ y1 ≤ 63
      · have GV : Hid ((decide (0 ≤ y1) && decide (y1 ≤ 63)) = true) := Lib.hid (by simp [hg.1, hg.2])
        have FY : Hid (Fine (y1, y2, y3)) := Lib.hid ⟨hg.1, hg.2, R1.out, R2.out, R3.out, R4.out⟩
        clear hg
        go_wp2_with fail
        refine (good_any _ _ _ _).mono ?_; rintro e w3 ⟨rfl, hb3⟩
        rw [GV.out]
        have B3 := Lib.hid (bt hbw.out hb3)
        have SRC := Lib.hid (Src.of_own (own_below own.out hb3))
        have OM3 := Lib.hid (own_map_below om.out hb3)
        obtain ⟨c0, c1, c2⟩ := C.out w3 B3.out
        clear hb3
        go_wp2_with fail
        refine (put_src y1 y2 y3 SRC.out (by have := CL.out.2; rw [List.length_take] at this; omega) R1 R2 R3 R4).mono ?_; rintro e w4 ⟨v4, n4, rfl, own4, hb4⟩
        have B4 := Lib.hid (bt B3.out hb4)
        have OM4 := Lib.hid (own_map_below OM3.out hb4)
        have CODE : Hid (code (xs.take (k + 1)) = code (xs.take k) ++ putS y1 y2 y3) := Lib.hid (by rw [T1.out, code_app, code_one])
        have FN : Hid (∀ x ∈ xs.take (k + 1), Fine x) := Lib.hid (fun x hx => by
          rw [T1.out, List.mem_append, List.mem_singleton] at hx
          rcases hx with hx | rfl
          · exact hfine.out x hx
          · exact FY.out)
        rw [← CODE.out] at own4
        have hs3 := hb4.size
        have hcl := (code_byte (xs.take (k + 1)) FN.out).2
        rw [List.length_take] at hcl
        have hne : code (xs.take (k + 1)) ≠ [] := fun e => by
          have e1 := CODE.out
          rw [e] at e1
          obtain ⟨c, t, ec⟩ := addS_ne y1.toNat y2 y3
          have e2 := putS_fine (y1, y2, y3) FY.out
          simp only at e2
          rw [e2, ec] at e1
          have := congrArg List.length e1
          simp at this
        have hop := own_open own4
        rcases hop with ⟨_, h0⟩ | ⟨g4, cp4, rfl, _, _, _, _⟩
        · exact absurd h0 hne
        have OWN4 := Lib.hid own4
        obtain ⟨q, hq⟩ : ∃ q, q = (code (xs.take (k + 1))).length := ⟨_, rfl⟩
        rw [← hq] at OWN4 ⊢
        have HQ : Hid (q = clen xs (k + 1)) := Lib.hid hq
        have hq1000 : q ≤ 1000 := by omega
        have hk20 : k ≤ 20 := by omega
        have hk1 : k + 1 ≤ xs.length := by omega
        have MEAS : Hid (xs.length - (k + 1) < xs.length - k) := Lib.hid (by omega)
        have KN : Hid (((k : Int) + 1).toNat = k + 1) := Lib.hid (by omega)
        have HS3 := Lib.hid hs3
        have LT := Lib.hid (by unfold maxLen; omega : k + 1 < maxLen)
        have WQ := Lib.hid (wf_nat q (by omega)); have WK := Lib.hid (wf_nat1 k (by omega))
        clear hq hb4 own4 hne hcl hs3 c0 c1 c2
        go_wp2_with ((at_mapUpdate; refine wpList_mapUpdate_own (H := Unit) _ rfl _ _ _ 42 rfl 3 3 law3 Try.underlying42 (plainElem Try.prog 3) mb (k + 1) _ rfl OM4.out LT.out _ _ _ rfl rfl (keyOf_int_mk Try.underlying3 WQ.out) _ [] (plainElem_int Try.underlying3 WK.out) ?_))
        intro w6 om6 gr6
        have om6' : w6.ownsMap Try.prog 3 (plainElem Try.prog 3) mb (k + 1 + 1) (MC xs (k + 1)) := by
          show w6.ownsMap Try.prog 3 (plainElem Try.prog 3) mb (k + 1 + 1) ((MC xs k).put (.int .i64 (clen xs (k + 1) : Nat)) (.lit (.int .i64 ((k : Int) + 1))))
          rw [← HQ.out]; exact om6
        have OM6 := Lib.hid om6'
        have OWN6 : Hid (w6.ownsRow w3.heap.size 5 1 (.slice (some ⟨g4, 0, none⟩) q cp4) n4 (bys (code (xs.take (k + 1))))) := Lib.hid (OWN4.out.kept gr6 (own_ne_map OWN4.out OM4.out))
        have B6 := Lib.hid (B4.out.grown gr6 B4.out.size (fun z hz => by injection hz with hz; rw [← hz]; exact HMB.out))
        have HS6 : Hid (w3.heap.size ≤ w6.heap.size) := Lib.hid (Nat.le_trans HS3.out gr6.size)
        clear om6 om6' gr6
        go_wp2
        go_roundw
        case rel => exact ⟨k + 1, n4, w3.heap.size, hk1, by go_num, B6, HS6, OWN6, FN, OM6⟩
        case measure =>
          simp only [intOf]
          rw [KN.out, Int.toNat_natCast]
          exact MEAS.out
      · have GV : Hid ((decide (0 ≤ y1) && decide (y1 ≤ 63)) = false) := Lib.hid (by
          rcases Classical.em (0 ≤ y1) with h | h
          · have : ¬ y1 ≤ 63 := fun h2 => hg ⟨h, h2⟩
            simp [this]
          · simp [h])
        clear hg
        go_wp2_with fail
        refine (good_any _ _ _ _).mono ?_; rintro e w3 ⟨rfl, hb3⟩
        rw [GV.out]
        have B3 := Lib.hid (bt hbw.out hb3)
        go_wp2
        go_ret
        exact ⟨rfl, B3.out⟩
    · obtain rfl : k = xs.length := by omega
      have OWN : Hid (wr.ownsRow base 5 1 u5 nn (bys (code xs))) := Lib.hid (by have := own.out; rwa [List.take_length] at this)
      have FN : Hid (∀ x ∈ xs, Fine x) := Lib.hid (by have := hfine.out; rwa [List.take_length] at this)
      have HL := Lib.hid (code_byte xs FN.out)
      clear own hfine hkl
      rcases own_open OWN.out with ⟨rfl, h0⟩ | ⟨g, cp, rfl, _, hg, hcp, hcell⟩
      · have hx0 : xs = [] := by
          have hall := allS_code xs FN.out
          rw [h0] at hall
          injection hall with e2
          exact e2.symm
        by_cases hc0 : cut < 0
        · clear h0 hx0
          go_wp2
          go_ret
          exact ⟨rfl, hbw.out⟩
        by_cases hc1 : 0 < cut
        · have hd : decide (cut < 0) = false := decide_eq_false hc0
          clear h0 hx0 hc0
          go_wp2
          all_goals (go_ret; exact ⟨rfl, hbw.out⟩)
        · obtain rfl : cut = 0 := by omega
          have hit0 := MC_hit xs FN.out xs.length (Nat.le_refl _) 0 (by omega)
          have hc : clen xs 0 = 0 := by simp [clen, code]
          rw [hc] at hit0
          have hit : has (MC xs xs.length) (.int .i64 0) = true ∧ ∀ z, (MC xs xs.length).atKey (.int .i64 0) z = .lit (.int .i64 0) := hit0
          clear hit0
          have HIT := Lib.hid hit
          have OMX : Hid (wr.ownsMap Try.prog 3 (plainElem Try.prog 3) mb (xs.length + 1) (MC xs xs.length)) := om
          clear h0 hx0 hc0 hc1 hit hc om
          go_wp2_with fail
          refine (all_e none 0 _).mono ?_; rintro e w6 ⟨rfl, rfl⟩
          go_wp2_with ((at_lookup; refine wpList_lookup_own_ok_int (H := Unit) _ rfl _ _ 42 rfl 3 3 .i64 law3 Try.underlying42 Try.underlying3 (zero3 _) mb (xs.length + 1) _ rfl OMX.out _ _ rfl (keyOf_int_mk Try.underlying3 (a := 0) (by decide)) ?_))
          intro cc hat hwc
          have hcc : cc = 0 := by
            have := HIT.out.2 (.lit (.int .i64 0))
            rw [hat] at this
            injection this with this
            injection this with _ this
          subst hcc
          rw [show has (MC xs xs.length) (.int .i64 0) = true from HIT.out.1]
          clear hat hwc
          go_wp2
          go_ret
          exact ⟨rfl, hbw.out⟩
      · by_cases hc0 : cut < 0
        · clear hcell
          go_wp2
          go_ret
          exact ⟨rfl, hbw.out⟩
        by_cases hc1 : ((code xs).length : Int) < cut
        · have hd : decide (cut < 0) = false := decide_eq_false hc0
          clear hcell hc0
          go_wp2
          all_goals (go_ret; exact ⟨rfl, hbw.out⟩)
        · obtain ⟨c, rfl⟩ : ∃ c : Nat, cut = c := ⟨cut.toNat, by omega⟩
          have hcl : c ≤ (code xs).length := by omega
          have hcp2 : c ≤ cp := by omega
          have htl : ((code xs).take c).length = c := by rw [List.length_take]; omega
          have ALC := all_any (w := wr) (h := g) (o := 0) (cap := cp) (bs := (code xs).take c) (fun j hj => by
            rw [htl] at hj
            rw [hcell j (by omega)]
            simp [List.getD, hj]) hg (fun j => by
              rcases Nat.lt_or_ge j c with hj | hj
              · have := HL.out.1 j
                simpa [List.getD, hj] using this
              · rw [List.getD, List.getElem?_eq_none (by omega)]; simp) (by have := HL.out.2; omega) (by omega)
          rw [htl] at ALC
          have ALH := Lib.hid ALC
          have AC := Lib.hid (allS_cut xs FN.out c hcl)
          have HCL := Lib.hid hcl
          have hc1000 : c ≤ 1000 := by have := HL.out.2; omega
          have WC := Lib.hid (wf_nat c (by omega))
          have hd : decide ((c : Int) < 0) = false := decide_eq_false hc0
          have hd2 : decide (((code xs).length : Int) < (c : Int)) = false := decide_eq_false hc1
          have hd3 : decide ((code xs).length < c) = false := decide_eq_false (by omega)
          have OMX : Hid (wr.ownsMap Try.prog 3 (plainElem Try.prog 3) mb (xs.length + 1) (MC xs xs.length)) := om
          have hne : cp = 0 → g = g := fun _ => rfl
          clear ALC hcell hc0 hc1 htl om hne
          cases hfc : findC xs c with
          | none =>
            have miss := MC_miss xs c xs.length (fun j hj e => by
              have := (findC_iff xs FN.out c j).2 ⟨hj, by unfold clen at e; omega⟩
              rw [hfc] at this; cases this)
            have MISS := Lib.hid miss
            have ACN : Hid (allS (((code xs).take c).length + 1) ((code xs).take c) = none) := Lib.hid (by rw [AC.out, hfc]; rfl)
            clear miss hfc
            go_wp2_with fail
            refine ALH.out.mono ?_; rintro e w6 hpost
            unfold AllPost at hpost
            rw [ACN.out] at hpost
            obtain ⟨v, x, rfl, hb6, rfl, rfl⟩ := hpost
            have B6 := Lib.hid (bt hbw.out hb6)
            have OM6 := Lib.hid (own_map_below OMX.out hb6)
            clear hb6
            go_wp2_with ((at_lookup; refine wpList_lookup_own_ok_int (H := Unit) _ rfl _ _ 42 rfl 3 3 .i64 law3 Try.underlying42 Try.underlying3 (zero3 _) mb (xs.length + 1) _ rfl OM6.out _ _ rfl (keyOf_int_mk Try.underlying3 WC.out) ?_))
            intro cc hat hwc
            rw [MISS.out]
            clear hat hwc
            go_wp2
            go_ret
            exact ⟨rfl, B6.out⟩
          | some j =>
            have hj := (findC_iff xs FN.out c j).1 hfc
            have hit := MC_hit xs FN.out xs.length (Nat.le_refl _) j hj.1
            rw [show clen xs j = c from hj.2] at hit
            have HIT := Lib.hid hit
            have ACN : Hid (allS (((code xs).take c).length + 1) ((code xs).take c) = some (xs.take j)) := Lib.hid (by rw [AC.out, hfc]; rfl)
            have TL : Hid ((xs.take j).length = j) := Lib.hid (by rw [List.length_take]; omega)
            clear hit hfc hj
            go_wp2_with fail
            refine ALH.out.mono ?_; rintro e w6 hpost
            unfold AllPost at hpost
            rw [ACN.out] at hpost
            obtain ⟨v, x, rfl, hb6, rfl, own6⟩ := hpost
            rw [TL.out] at own6
            have B6 := Lib.hid (bt hbw.out hb6)
            have OM6 := Lib.hid (own_map_below OMX.out hb6)
            clear hb6
            rcases own6.2 with ⟨rfl, hj0⟩ | ⟨g6, c6, cur6, rfl, _⟩
            · subst hj0
              clear own6
              go_wp2_with ((at_lookup; refine wpList_lookup_own_ok_int (H := Unit) _ rfl _ _ 42 rfl 3 3 .i64 law3 Try.underlying42 Try.underlying3 (zero3 _) mb (xs.length + 1) _ rfl OM6.out _ _ rfl (keyOf_int_mk Try.underlying3 WC.out) ?_))
              intro cc hat hwc
              have hcc : cc = 0 := by
                have := HIT.out.2 (.lit (.int .i64 0))
                rw [hat] at this
                injection this with this
                injection this with _ this
              subst hcc
              rw [HIT.out.1]
              clear hat hwc
              go_wp2
              go_ret
              exact ⟨rfl, B6.out⟩
            · clear own6
              go_wp2_with ((at_lookup; refine wpList_lookup_own_ok_int (H := Unit) _ rfl _ _ 42 rfl 3 3 .i64 law3 Try.underlying42 Try.underlying3 (zero3 _) mb (xs.length + 1) _ rfl OM6.out _ _ rfl (keyOf_int_mk Try.underlying3 WC.out) ?_))
              intro cc hat hwc
              have hcc : cc = (j : Nat) := by
                have := HIT.out.2 (.lit (.int .i64 0))
                rw [hat] at this
                injection this with this
                injection this with _ this
              subst hcc
              rw [HIT.out.1]
              clear hat hwc
              go_wp2
              go_ret
              exact ⟨rfl, B6.out⟩
set_option maxRecDepth 100000 in
set_option maxHeartbeats 4000000 in
theorem cuts_zero (A : Option Addr) (c : Nat) (cut : Int) (w : World) : Calls Try.prog 6 #[.slice A 0 c, .int .i64 cut] w fun e w' => e = .returned (.bool true) ∧ Below w.heap.size w w' := by
  have hmm := @run_makeMap Try.prog
  go_enter Try.func6, Try.ntmps6
  go_wp2_with fail
  refine (awake _).mono ?_; rintro e w1 ⟨rfl, hb1⟩
  have B1 := Lib.hid hb1; clear hb1
  go_wp2_with ((refine wpList_insert_own (H := Unit) _ rfl (.tmp 17) _ _ 42 rfl 3 3 law3 Try.underlying42 (plainElem Try.prog 3) w1.heap.size 0 _ rfl (World.ownsMap_made _ _ _ _) (by unfold maxLen; omega) _ _ _ rfl rfl (keyOf_int_mk Try.underlying3 (a := 0) (by decide)) _ [] (plainElem_int Try.underlying3 (a := 0) (by decide)) ?_))
  intro w2 om2 gr2
  have hB1 := B1.out.size
  have B2 : Below w.heap.size w w2 := (B1.out.alloc hB1 _).grown gr2 (by simp; omega) (fun k hk => by injection hk with hk; omega)
  have BB2 := Lib.hid B2
  obtain ⟨mb, hmb⟩ : ∃ mb, mb = w1.heap.size := ⟨_, rfl⟩
  rw [← hmb] at om2 ⊢
  have OM2 : Hid (w2.ownsMap Try.prog 3 (plainElem Try.prog 3) mb 1 (MC [] 0)) := Lib.hid om2
  clear om2 gr2 B2 hmb hmm
  have hit0 := MC_hit [] (by simp) 0 (by simp) 0 (by omega)
  have hc : clen [] 0 = 0 := by simp [clen, code]
  rw [hc] at hit0
  have hit : has (MC [] 0) (.int .i64 0) = true ∧ ∀ z, (MC [] 0).atKey (.int .i64 0) z = .lit (.int .i64 0) := hit0
  have HIT := Lib.hid hit
  clear hit0 hit hc
  by_cases hc0 : cut < 0
  · go_wp2
    refine wp_loop_rounds 1 ?_
    rw [rounds_succ]
    go_wp2
    go_ret
    exact ⟨rfl, BB2.out⟩
  by_cases hc1 : 0 < cut
  · have hd : decide (cut < 0) = false := decide_eq_false hc0
    clear hc0
    go_wp2
    refine wp_loop_rounds 1 ?_
    rw [rounds_succ]
    go_wp2
    all_goals (go_ret; exact ⟨rfl, BB2.out⟩)
  · obtain rfl : cut = 0 := by omega
    clear hc0 hc1
    go_wp2
    refine wp_loop_rounds 1 ?_
    rw [rounds_succ]
    go_wp2_with fail
    refine (all_e none 0 _).mono ?_; rintro e w6 ⟨rfl, rfl⟩
    go_wp2_with ((at_lookup; refine wpList_lookup_own_ok_int (H := Unit) _ rfl _ _ 42 rfl 3 3 .i64 law3 Try.underlying42 Try.underlying3 (zero3 _) mb 1 _ rfl OM2.out _ _ rfl (keyOf_int_mk Try.underlying3 (a := 0) (by decide)) ?_))
    intro cc hat hwc
    have hcc : cc = 0 := by
      have := HIT.out.2 (.lit (.int .i64 0))
      rw [hat] at this
      injection this with this
      injection this with _ this
    subst hcc
    rw [show has (MC [] 0) (.int .i64 0) = true from HIT.out.1]
    clear hat hwc
    go_wp2
    go_ret
    exact ⟨rfl, BB2.out⟩
theorem cuts_walk (A : Option Addr) (n c : Nat) (cut : Int) (xs : List (Int × Int × Int)) (w : World) (hn : xs.length = n) (hA : n = 0 ∨ ∃ h off, A = some ⟨h, off, none⟩ ∧ h < w.heap.size ∧ RdI w h off xs)
    (hrng : ∀ x ∈ xs, -9223372036854775808 ≤ x.2.1 ∧ x.2.1 < 9223372036854775808 ∧ -9223372036854775808 ≤ x.2.2 ∧ x.2.2 < 9223372036854775808) :
    Calls Try.prog 6 #[.slice A n c, .int .i64 cut] w fun e w' => e = .returned (.bool true) ∧ Below w.heap.size w w' := by
  by_cases hl : 20 < n
  · exact cuts_long A n c cut w hl
  rcases hA with rfl | ⟨h, off, rfl, hlt, hr⟩
  · exact cuts_zero A c cut w
  subst hn
  exact cuts_in cut hr hlt (by omega) hrng
end Go.Proofs.Ytgfaadfkeeehgaa
