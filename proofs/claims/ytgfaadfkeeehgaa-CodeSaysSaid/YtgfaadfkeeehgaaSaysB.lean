import Derived.Test.YtgfaadfkeeehgaaSaysA
namespace Go.Proofs.Ytgfaadfkeeehgaa
open Go.ChangeShapes Go.WideShapes Go.ChangeAt Go.RowKit
set_option linter.unusedVariables false
set_option maxRecDepth 100000 in
set_option maxHeartbeats 8000000 in
theorem says_b {w : World} {h off cap : Nat} {bs : List Nat} (hb : ∀ j, j < bs.length → w.cell? ⟨h, off + j, none⟩ = some (.int .u8 (bs.getD j 0 : Nat))) (hlt : h < w.heap.size) (hc : ∀ j, bs.getD j 0 < 256) (h0 : 0 < bs.length) (hl : bs.length ≤ 200) (hcap : bs.length ≤ cap) (oo a b : Int)
    (ha1 : Hid (-9223372036854775808 ≤ a)) (ha2 : Hid (a < 9223372036854775808)) (hq1 : Hid (-9223372036854775808 ≤ b)) (hq2 : Hid (b < 9223372036854775808)) (l : List (Int × Int × Int)) (HSe : allS (bs.length + 1) bs = some l) (GNN : (getS bs).2 ≠ 0) (GNP : 0 ≤ (getS bs).2) :
    Calls Try.prog 4 #[.agg #[.int .i64 oo, .int .i64 a, .int .i64 b], .slice (some ⟨h, off, none⟩) bs.length cap] w fun e w' => e = .returned (.bool true) ∧ Below w.heap.size w w' := by
  have HS := Lib.hid HSe
  have hlen : 0 < l.length := by
    rcases l with _ | ⟨x, l⟩
    · have := AS_nil bs 0 (by omega) (by unfold AS; rw [List.drop_zero]; exact HSe)
      omega
    · simp
  have hll : l.length ≤ 200 := by
    have := AS_len bs l 0 (by omega) (by unfold AS; rw [List.drop_zero]; exact HSe)
    omega
  have HAS : Hid (AS bs 0 = some (l.drop 0)) := Lib.hid (by unfold AS; rw [List.drop_zero, List.drop_zero]; exact HSe)
  clear HSe
  have SRC : Hid (∀ W, Below w.heap.size w W → Src W (.slice (some ⟨h, off, none⟩) bs.length cap) bs) := Lib.hid (fun W hW => .inr ⟨⟨h, off, none⟩, cap, rfl, fun j u hu => by
    have hj : j < bs.length := by have := (List.getElem?_eq_some_iff.1 hu).1; rwa [bys_len] at this
    rw [Go.WideShapes.add_plain, hW.cell (p := ⟨h, off + j, none⟩) hlt, hb j hj, ← hu]
    simp [bys, hj]⟩)
  have hbs : bs = bs.getD 0 0 :: bs.drop 1 := by have := drop_cons bs 0 h0; simpa using this
  have hd1 : (bs.drop 1).length + 1 = bs.length := by rw [List.length_drop]; omega
  have HBW : Hid (∀ W, Below w.heap.size w W → ∀ j, j < bs.length → W.cell? ⟨h, off + j, none⟩ = some (.int .u8 (bs.getD j 0 : Nat))) := Lib.hid (fun W hW j hj => by rw [hW.cell (p := ⟨h, off + j, none⟩) hlt, hb j hj])
  have CG : Hid (∀ W, Below w.heap.size w W → Calls Try.prog 8 #[.slice (some ⟨h, off, none⟩) bs.length cap] W fun e w' => e = .returned (.tuple #[.agg #[.int .i64 (getS bs).1.1, .int .i64 (getS bs).1.2.1, .int .i64 (getS bs).1.2.2], .int .i64 (getS bs).2, .int .i64 (errG (getS bs).2)]) ∧ Below W.heap.size W w') := Lib.hid (fun W hW => by
    have := codeget_len (w := W) (h := h) (o := off) (cap := cap) (c := bs.getD 0 0) (t := bs.drop 1) hd1 (fun j hj => by rw [← hbs] at hj ⊢; exact HBW.out W hW j hj) (Nat.lt_of_lt_of_le hlt hW.size) (hc 0) (by omega) (by omega)
    rw [← hbs] at this; exact this)
  have CR : Hid (∀ W, Below w.heap.size w W → Calls Try.prog 13 #[.slice (some ⟨h, off, none⟩) bs.length cap] W fun e w' => e = .returned (.tuple #[.agg #[.int .i64 (getS bs).1.1, .int .i64 (getS bs).1.2.1, .int .i64 (getS bs).1.2.2], .int .i64 (getS bs).2]) ∧ Below W.heap.size W w') := Lib.hid (fun W hW => by
    have := getref_len (w := W) (h := h) (o := off) (cap := cap) (c := bs.getD 0 0) (t := bs.drop 1) hd1 (fun j hj => by rw [← hbs] at hj ⊢; exact HBW.out W hW j hj) (Nat.lt_of_lt_of_le hlt hW.size) (hc 0) (by omega) (by omega)
    rw [← hbs] at this; exact this)
  have AL : Hid (∀ W, Below w.heap.size w W → Calls Try.prog 9 #[.slice (some ⟨h, off, none⟩) bs.length cap] W fun e w' => AllPost W bs e w') := Lib.hid (fun W hW => all_any (HBW.out W hW) (Nat.lt_of_lt_of_le hlt hW.size) hc (by omega) hcap)
  have WH : Hid (∀ W, Below w.heap.size w W → Calls Try.prog 14 #[.slice (some ⟨h, off, none⟩) bs.length cap] W fun e w' => e = .returned (.bool (AS bs 0).isSome) ∧ Below W.heap.size W w') := Lib.hid (fun W hW => whole_any (HBW.out W hW) (Nat.lt_of_lt_of_le hlt hW.size) hc (by omega) hcap)
  have HC := Lib.hid hc
  obtain ⟨g, hg⟩ : ∃ g, g = getS bs := ⟨_, rfl⟩
  rw [← hg] at CG CR GNN GNP
  obtain ⟨⟨g1, g2, g3⟩, gn⟩ := g
  simp only at CG CR
  clear hb hc hbs hd1 hg
  simp only at GNN GNP
  have ee : errG gn = 0 := by unfold errG; rw [if_neg GNN]
  have gnp : decide (0 < gn) = true := decide_eq_true (by omega)
  clear GNN GNP
  have BA := Lib.hid (below_alloc w (.cells #[.int .i64 oo, .int .i64 a, .int .i64 b] 24))
  obtain ⟨b00, b01, b02⟩ := box3 w (.int .i64 oo) (.int .i64 a) (.int .i64 b) 24
  have BX := Lib.hid (And.intro b00 (And.intro b01 b02)); clear b00 b01 b02
  have BLT : Hid (w.heap.size < (w.alloc (.cells #[.int .i64 oo, .int .i64 a, .int .i64 b] 24)).heap.size) := Lib.hid (by simp)
  have hlz : (bs.length : Int) ≤ 200 := by omega
  go_enter Try.func4, Try.ntmps4
  go_wp2_with fail
  refine (awake _).mono ?_; rintro e w1 ⟨rfl, hb1⟩
  have x0 := (hb1.cell (p := ⟨w.heap.size, 0, none⟩) BLT.out).trans BX.out.1
  have x1 := (hb1.cell (p := ⟨w.heap.size, 1, none⟩) BLT.out).trans BX.out.2.1
  have x2 := (hb1.cell (p := ⟨w.heap.size, 2, none⟩) BLT.out).trans BX.out.2.2
  have L1 : w.heap.size < w1.heap.size := Nat.lt_of_lt_of_le BLT.out hb1.size
  have B1 := Lib.hid (bt BA.out hb1); clear hb1
  go_wp2_with fail
  refine (put_src oo a b (SRC.out _ B1.out) (by omega) ha1 ha2 hq1 hq2).mono ?_; rintro e w2 ⟨p, np, rfl, own2, hb2'⟩
  have y0 := (hb2'.cell (p := ⟨w.heap.size, 0, none⟩) L1).trans x0
  have y1 := (hb2'.cell (p := ⟨w.heap.size, 1, none⟩) L1).trans x1
  have y2 := (hb2'.cell (p := ⟨w.heap.size, 2, none⟩) L1).trans x2
  have B2 := Lib.hid (bt B1.out hb2'); have OWN2 := Lib.hid own2
  clear hb2' own2 x0 x1 x2
  go_wp2_with fail
  refine (pi_src oo a b (SRC.out _ B2.out) (by omega) ha1 ha2 hq1 hq2).mono ?_; rintro e w3 ⟨q, nq, rfl, own3, hb3⟩
  have B3 := Lib.hid (bt B2.out hb3); have OWN3 := Lib.hid own3
  have OWN2' := Lib.hid (own_below OWN2.out hb3)
  clear hb3 own3 y0 y1 y2
  go_wp2_with fail
  refine (CG.out _ B3.out).mono ?_; rintro e w4 ⟨rfl, hb4⟩
  have B4 := Lib.hid (bt B3.out hb4)
  have OWN3' := Lib.hid (own_below OWN3.out hb4); have OWN2a := Lib.hid (own_below OWN2'.out hb4)
  clear hb4
  go_wp2_with fail
  refine (CR.out _ (bt B4.out (below_alloc w4 _))).mono ?_; rintro e w5 ⟨rfl, hb5⟩
  have hb5' : Below w4.heap.size w4 w5 := bt (below_alloc w4 _) hb5
  have B5 := Lib.hid (bt B4.out hb5')
  have op := own_below OWN2a.out hb5'
  have oq := own_below OWN3'.out hb5'
  have cp : ∀ o : Obj, (convert 28 9 p).run Try.prog (w5.alloc o) = .ok (.string (strB (bs ++ putS oo a b))) (w5.alloc o) := fun o => str_own (op.alloc o)
  have cq : ∀ o : Obj, (convert 28 9 q).run Try.prog (w5.alloc o) = .ok (.string (strB (bs ++ putS oo a b))) (w5.alloc o) := fun o => str_own (oq.alloc o)
  have z0 := (hb5.cell (p := ⟨w4.heap.size, 0, none⟩) (by simp)).trans (box3 w4 (.int .i64 g1) (.int .i64 g2) (.int .i64 g3) 24).1
  have z1 := (hb5.cell (p := ⟨w4.heap.size, 1, none⟩) (by simp)).trans (box3 w4 (.int .i64 g1) (.int .i64 g2) (.int .i64 g3) 24).2.1
  have z2 := (hb5.cell (p := ⟨w4.heap.size, 2, none⟩) (by simp)).trans (box3 w4 (.int .i64 g1) (.int .i64 g2) (.int .i64 g3) 24).2.2
  have L5 : w4.heap.size < w5.heap.size := by have := hb5.size; simp at this; omega
  have B6 := Lib.hid (bt B5.out (below_alloc w5 (.cells #[.int .i64 g1, .int .i64 g2, .int .i64 g3] 35)))
  clear hb5 hb5' op oq
  go_wp2_with fail
  refine (AL.out _ B6.out).mono ?_; rintro e w6 hpost
  clear cp cq z0 z1 z2
  unfold AllPost at hpost
  rw [HS.out] at hpost
  obtain ⟨v, x, rfl, hb6, rfl, own6⟩ := hpost
  have B7 := Lib.hid (bt B6.out hb6)
  have hbase : w.heap.size ≤ (w5.alloc (.cells #[.int .i64 g1, .int .i64 g2, .int .i64 g3] 35)).heap.size := B6.out.size
  have own6 := own_mono own6 hbase
  have hv : ∃ g cp, v = .slice (some ⟨g, 0, none⟩) l.length cp := by
    rcases own6.2 with ⟨_, h⟩ | ⟨g, cp, cur, e, _⟩
    · omega
    · exact ⟨g, cp, e⟩
  obtain ⟨gl, cpl, rfl⟩ := hv
  have OWN6 := Lib.hid own6
  clear hb6 own6 hbase
  go_wp2
  go_loopw [14, 15] (fun at_ k wr => ∃ (i p : Nat), i ≤ l.length ∧ p ≤ bs.length ∧ at_ = .int .i64 p ∧ k = .int .i64 i ∧ Hid (Below w.heap.size w wr) ∧ Hid (wr.ownsRow w.heap.size 24 3 (.slice (some ⟨gl, 0, none⟩) l.length cpl) l.length (ins l)) ∧ Hid (AS bs p = some (l.drop i))) (fun _ k _ => l.length - (intOf k).toNat)
  case atStart => exact ⟨0, 0, by omega, by omega, rfl, rfl, B7, OWN6, HAS⟩
  case round =>
    obtain ⟨i, pp, hi, hp, rfl, rfl, hbw, own, has⟩ := hrel
    by_cases hil : i < l.length
    · obtain ⟨y, m, hym⟩ : ∃ y m, l.drop i = y :: m := ⟨l[i], l.drop (i + 1), List.drop_eq_getElem_cons hil⟩
      have hm : l.drop (i + 1) = m := by
        have := List.drop_drop (i := 1) (j := i) (l := l)
        rw [hym] at this; simpa using this.symm
      have A := AS_cons bs pp hp y m (by rw [has.out, hym])
      obtain ⟨a1, a2, a3, a4⟩ := A
      have I := ins_at l i y m hym
      have drc := drop_cons bs pp a1
      obtain ⟨c, hcc⟩ : ∃ c, c = bs.getD pp 0 := ⟨_, rfl⟩
      obtain ⟨t, ht⟩ : ∃ t, t = bs.drop (pp + 1) := ⟨_, rfl⟩
      rw [← hcc, ← ht] at a2 a3 a4 drc
      have htl : t.length + 1 = bs.length - pp := by rw [ht, List.length_drop]; omega
      have hc256 : c < 256 := by rw [hcc]; exact HC.out pp
      have hgl := getS_len (c :: t)
      have HCT : Hid (∀ j, j < (c :: t).length → (c :: t).getD j 0 = bs.getD (pp + j) 0) := Lib.hid (fun j hj => by rw [← drc]; simp [List.getD])
      have RG : Hid (∀ W, Below w.heap.size w W → Calls Try.prog 13 #[.slice (some ⟨h, off + pp, none⟩) (bs.length - pp) (cap - pp)] W fun e w' => e = .returned (.tuple #[.agg #[.int .i64 (getS (c :: t)).1.1, .int .i64 (getS (c :: t)).1.2.1, .int .i64 (getS (c :: t)).1.2.2], .int .i64 (getS (c :: t)).2]) ∧ Below W.heap.size W w') := Lib.hid (fun W hW =>
        getref_len (c := c) (t := t) htl (fun j hj => by
          have hj' := hj
          simp only [List.length_cons] at hj'
          rw [show off + pp + j = off + (pp + j) by omega, HBW.out W hW (pp + j) (by omega), HCT.out j hj]) (Nat.lt_of_lt_of_le hlt hW.size) hc256 (by omega) (by omega))
      obtain ⟨gg, hgg⟩ : ∃ gg, gg = getS (c :: t) := ⟨_, rfl⟩
      rw [← hgg] at a2 a3 a4 RG hgl
      obtain ⟨y1, sn⟩ := gg
      simp only at a2 a3 a4 RG hgl
      subst a3
      obtain ⟨f1, f2, f3⟩ := y1
      simp only at RG I
      obtain ⟨s, rfl⟩ : ∃ s : Nat, sn = s := ⟨sn.toNat, by omega⟩
      have hs0 : 0 < s := by omega
      have hs1 : pp + s ≤ bs.length := by have := hgl.2; simp only [List.length_cons] at this; omega
      have HA4 : Hid (AS bs (pp + s) = some (l.drop (i + 1))) := Lib.hid (by rw [hm]; rw [Int.toNat_natCast] at a4; exact a4)
      have hne : ((s : Int) == 0) = false := beq_eq_false_iff_ne.2 a2
      have nec : ¬ cap = pp := by omega
      have hpn : pp ≤ bs.length := hp
      have HI := Lib.hid I
      have MEAS : Hid (l.length - (i + 1) < l.length - i) := Lib.hid (by omega)
      have hi1 : i + 1 ≤ l.length := by omega
      clear hym hm a1 a2 a4 I drc hcc ht htl hc256 hgl hgg has
      go_wp2_with fail
      refine (RG.out _ hbw.out).mono ?_; rintro e w7 ⟨rfl, hb7⟩
      have B8 := Lib.hid (bt hbw.out hb7)
      have own7 := (own_below own.out hb7).alloc (.cells #[.int .i64 f1, .int .i64 f2, .int .i64 f3] 35)
      have u0 := (own7.cellAt (i * 3) (by omega)).trans HI.out.1
      have u1 := (own7.cellAt (i * 3 + 1) (by omega)).trans HI.out.2.1
      have u2 := (own7.cellAt (i * 3 + 2) (by omega)).trans HI.out.2.2
      have OWN7 := Lib.hid own7
      have WK := Lib.hid (wk_add pp s (by omega))
      clear hb7 own7
      go_wp2
      go_quiet (fail)
      obtain ⟨wk, wk2⟩ := WK.out
      go_wp2
      clear wk wk2
      go_roundw
      case rel => exact ⟨i + 1, pp + s, hi1, hs1, by rw [Int.natCast_add], by go_num, Lib.hid (bt (bt B8.out (below_alloc w7 _)) (below_drewN _ _)), Lib.hid OWN7.out, HA4⟩
      case measure =>
        simp only [intOf]
        have e : ((i : Int) + 1).toNat = i + 1 := by omega
        rw [e, Int.toNat_natCast]
        exact MEAS.out
    · have hie : l.drop i = [] := List.drop_eq_nil_of_le (by omega)
      have PE := Lib.hid (AS_nil bs pp hp (by rw [has.out, hie]))
      have hge : l.length ≤ i := by omega
      have pb : ((pp : Int) == (bs.length : Int)) = true := beq_iff_eq.2 (by rw [PE.out])
      clear hil hie
      go_wp2
      go_ret
      exact ⟨rfl, hbw.out⟩
theorem says_walk (oo a b : Int) (A : Option Addr) (n c : Nat) (bs : List Nat) (w : World) (hn : bs.length = n)
    (hA : (n = 0 ∧ (A = none → c = 0)) ∨ ∃ h off, A = some ⟨h, off, none⟩ ∧ h < w.heap.size ∧ n ≤ c ∧ ∀ j, j < bs.length → w.cell? ⟨h, off + j, none⟩ = some (.int .u8 (bs.getD j 0 : Nat))) (hc : ∀ j, bs.getD j 0 < 256)
    (ha1 : -9223372036854775808 ≤ a) (ha2 : a < 9223372036854775808) (hb1 : -9223372036854775808 ≤ b) (hb2 : b < 9223372036854775808) :
    Calls Try.prog 4 #[.agg #[.int .i64 oo, .int .i64 a, .int .i64 b], .slice A n c] w fun e w' => e = .returned (.bool true) ∧ Below w.heap.size w w' := by
  by_cases hlong : 200 < n
  · exact says_long (.slice A n c) A n c w hlong oo a b
  rcases hA with ⟨rfl, h0⟩ | ⟨h, off, rfl, hlt, hcap, hcell⟩
  · exact says_nil A c w h0 oo a b (Lib.hid ha1) (Lib.hid ha2) (Lib.hid hb1) (Lib.hid hb2)
  subst hn
  rcases Nat.eq_zero_or_pos bs.length with h0 | hpos
  · rw [h0]
    exact says_nil _ c w (fun e => by cases e) oo a b (Lib.hid ha1) (Lib.hid ha2) (Lib.hid hb1) (Lib.hid hb2)
  have hbs : bs = bs.getD 0 0 :: bs.drop 1 := by have := drop_cons bs 0 hpos; simpa using this
  have hgn := (getS_len bs).1
  cases hall : allS (bs.length + 1) bs with
  | none =>
    by_cases hz : (getS bs).2 = 0
    · exact says_a0 hcell hlt hc hpos (by omega) hcap oo a b (Lib.hid ha1) (Lib.hid ha2) (Lib.hid hb1) (Lib.hid hb2) hall hz
    · exact says_a1 hcell hlt hc hpos (by omega) hcap oo a b (Lib.hid ha1) (Lib.hid ha2) (Lib.hid hb1) (Lib.hid hb2) hall hz hgn
  | some l =>
    refine says_b hcell hlt hc hpos (by omega) hcap oo a b (Lib.hid ha1) (Lib.hid ha2) (Lib.hid hb1) (Lib.hid hb2) l hall ?_ hgn
    intro hz
    rw [hbs, allS_step, ← hbs, if_pos hz] at hall
    cases hall
end Go.Proofs.Ytgfaadfkeeehgaa
