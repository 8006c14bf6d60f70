import Derived.Test.YtgfaadfkeeehgaaSays

namespace Go.Proofs.Ytgfaadfkeeehgaa
open Go.ChangeShapes Go.WideShapes Go.ChangeAt Go.RowKit
set_option linter.unusedVariables false
theorem AS_nil (bs : List Nat) (p : Nat) (hp : p ≤ bs.length) (h : AS bs p = some []) : p = bs.length := by
  rcases Nat.lt_or_ge p bs.length with hlt | hge
  · rw [AS_step bs p _ _ (drop_cons bs p hlt)] at h
    split at h
    · cases h
    · cases hx : AS bs (p + (getS (bs.getD p 0 :: bs.drop (p + 1))).2.toNat) <;> rw [hx] at h <;> cases h
  · omega
theorem AS_cons (bs : List Nat) (p : Nat) (hp : p ≤ bs.length) (x : Int × Int × Int) (l : List (Int × Int × Int)) (h : AS bs p = some (x :: l)) :
    p < bs.length ∧ (getS (bs.getD p 0 :: bs.drop (p + 1))).2 ≠ 0 ∧ (getS (bs.getD p 0 :: bs.drop (p + 1))).1 = x ∧ AS bs (p + (getS (bs.getD p 0 :: bs.drop (p + 1))).2.toNat) = some l := by
  rcases Nat.lt_or_ge p bs.length with hlt | hge
  · rw [AS_step bs p _ _ (drop_cons bs p hlt)] at h
    split at h
    · cases h
    · rename_i hn
      refine ⟨hlt, hn, ?_⟩
      cases hx : AS bs (p + (getS (bs.getD p 0 :: bs.drop (p + 1))).2.toNat) with
      | none => rw [hx] at h; cases h
      | some m =>
        rw [hx] at h
        simp only [Option.map_some, Option.some.injEq, List.cons.injEq] at h
        exact ⟨h.1, by rw [h.2]⟩
  · have : p = bs.length := by omega
    subst this
    unfold AS at h
    simp [allS] at h
theorem AS_len (bs : List Nat) (l : List (Int × Int × Int)) : ∀ p, p ≤ bs.length → AS bs p = some l → l.length + p ≤ bs.length := by
  induction l with
  | nil => intro p hp _; simpa using hp
  | cons x l ih =>
    intro p hp h
    obtain ⟨h1, h2, _, h4⟩ := AS_cons bs p hp x l h
    have hg := getS_len (bs.getD p 0 :: bs.drop (p + 1))
    rw [List.length_cons, List.length_drop] at hg
    have := ih _ (by omega) h4
    rw [List.length_cons]
    omega
theorem ins_at (l : List (Int × Int × Int)) (i : Nat) (x : Int × Int × Int) (m : List (Int × Int × Int)) (h : l.drop i = x :: m) : (ins l)[i * 3]? = some (.int .i64 x.1) ∧ (ins l)[i * 3 + 1]? = some (.int .i64 x.2.1) ∧ (ins l)[i * 3 + 2]? = some (.int .i64 x.2.2) := by
  have hi : i < l.length := by
    rcases Nat.lt_or_ge i l.length with h1 | h1
    · exact h1
    · rw [List.drop_eq_nil_of_le h1] at h; cases h
  have e : ins l = ins (l.take i) ++ ins (x :: m) := by rw [← ins_app, ← h, List.take_append_drop]
  have hl : (ins (l.take i)).length = i * 3 := by rw [ins_len, List.length_take]; congr 1; omega
  have e2 : ins (x :: m) = [.int .i64 x.1, .int .i64 x.2.1, .int .i64 x.2.2] ++ ins m := rfl
  rw [e, e2]
  refine ⟨?_, ?_, ?_⟩
  · rw [List.getElem?_append_right (by omega), hl, Nat.sub_self]; rfl
  · rw [List.getElem?_append_right (by omega), hl, show i * 3 + 1 - i * 3 = 1 by omega]; rfl
  · rw [List.getElem?_append_right (by omega), hl, show i * 3 + 2 - i * 3 = 2 by omega]; rfl
set_option maxRecDepth 100000 in
set_option maxHeartbeats 8000000 in
theorem says_a0 {w : World} {h off cap : Nat} {bs : List Nat} (hb : ∀ j, j < bs.length → w.cell? ⟨h, off + j, none⟩ = some (.int .u8 (bs.getD j 0 : Nat))) (hlt : h < w.heap.size) (hc : ∀ j, bs.getD j 0 < 256) (h0 : 0 < bs.length) (hl : bs.length ≤ 200) (hcap : bs.length ≤ cap) (oo a b : Int)
    (ha1 : Hid (-9223372036854775808 ≤ a)) (ha2 : Hid (a < 9223372036854775808)) (hq1 : Hid (-9223372036854775808 ≤ b)) (hq2 : Hid (b < 9223372036854775808)) (HNe : allS (bs.length + 1) bs = none) (GN0 : (getS bs).2 = 0) :
    Calls Try.prog 4 #[.agg #[.int .i64 oo, .int .i64 a, .int .i64 b], .slice (some ⟨h, off, none⟩) bs.length cap] w fun e w' => e = .returned (.bool true) ∧ Below w.heap.size w w' := by
  have HN := Lib.hid HNe
  have HN2 : Hid ((AS bs 0).isSome = false) := Lib.hid (by unfold AS; rw [List.drop_zero, HNe]; rfl)
  clear HNe
  have SRC : Hid (∀ W, Below w.heap.size w W → Src W (.slice (some ⟨h, off, none⟩) bs.length cap) bs) := Lib.hid (fun W hW => .inr ⟨⟨h, off, none⟩, cap, rfl, fun j u hu => by
    have hj : j < bs.length := by have := (List.getElem?_eq_some_iff.1 hu).1; rwa [bys_len] at this
    rw [Go.WideShapes.add_plain, hW.cell (p := ⟨h, off + j, none⟩) hlt, hb j hj, ← hu]
    simp [bys, hj]⟩)
  have hbs : bs = bs.getD 0 0 :: bs.drop 1 := by have := drop_cons bs 0 h0; simpa using this
  have hd1 : (bs.drop 1).length + 1 = bs.length := by rw [List.length_drop]; omega
  have HBW : Hid (∀ W, Below w.heap.size w W → ∀ j, j < bs.length → W.cell? ⟨h, off + j, none⟩ = some (.int .u8 (bs.getD j 0 : Nat))) := Lib.hid (fun W hW j hj => by rw [hW.cell (p := ⟨h, off + j, none⟩) hlt, hb j hj])
  have CG : Hid (∀ W, Below w.heap.size w W → Calls Try.prog 8 #[.slice (some ⟨h, off, none⟩) bs.length cap] W fun e w' => e = .returned (.tuple #[.agg #[.int .i64 (getS bs).1.1, .int .i64 (getS bs).1.2.1, .int .i64 (getS bs).1.2.2], .int .i64 (getS bs).2, .int .i64 (errG (getS bs).2)]) ∧ Below W.heap.size W w') := Lib.hid (fun W hW => by
    have := codeget_len (w := W) (h := h) (o := off) (cap := cap) (c := bs.getD 0 0) (t := bs.drop 1) hd1 (fun j hj => by rw [← hbs] at hj ⊢; exact HBW.out W hW j hj) (Nat.lt_of_lt_of_le hlt hW.size) (hc 0) (by omega) (by omega)
    rw [← hbs] at this; exact this)
  have CR : Hid (∀ W, Below w.heap.size w W → Calls Try.prog 13 #[.slice (some ⟨h, off, none⟩) bs.length cap] W fun e w' => e = .returned (.tuple #[.agg #[.int .i64 (getS bs).1.1, .int .i64 (getS bs).1.2.1, .int .i64 (getS bs).1.2.2], .int .i64 (getS bs).2]) ∧ Below W.heap.size W w') := Lib.hid (fun W hW => by
    have := getref_len (w := W) (h := h) (o := off) (cap := cap) (c := bs.getD 0 0) (t := bs.drop 1) hd1 (fun j hj => by rw [← hbs] at hj ⊢; exact HBW.out W hW j hj) (Nat.lt_of_lt_of_le hlt hW.size) (hc 0) (by omega) (by omega)
    rw [← hbs] at this; exact this)
  have AL : Hid (∀ W, Below w.heap.size w W → Calls Try.prog 9 #[.slice (some ⟨h, off, none⟩) bs.length cap] W fun e w' => AllPost W bs e w') := Lib.hid (fun W hW => all_any (HBW.out W hW) (Nat.lt_of_lt_of_le hlt hW.size) hc (by omega) hcap)
  have WH : Hid (∀ W, Below w.heap.size w W → Calls Try.prog 14 #[.slice (some ⟨h, off, none⟩) bs.length cap] W fun e w' => e = .returned (.bool (AS bs 0).isSome) ∧ Below W.heap.size W w') := Lib.hid (fun W hW => whole_any (HBW.out W hW) (Nat.lt_of_lt_of_le hlt hW.size) hc (by omega) hcap)
  have HC := Lib.hid hc
  obtain ⟨g, hg⟩ : ∃ g, g = getS bs := ⟨_, rfl⟩
  rw [← hg] at CG CR GN0
  obtain ⟨⟨g1, g2, g3⟩, gn⟩ := g
  simp only at CG CR
  clear hb hc hbs hd1 hg
  simp only at GN0
  subst GN0
  have ee : errG 0 = 3 := rfl
  have BA := Lib.hid (below_alloc w (.cells #[.int .i64 oo, .int .i64 a, .int .i64 b] 24))
  obtain ⟨b00, b01, b02⟩ := box3 w (.int .i64 oo) (.int .i64 a) (.int .i64 b) 24
  have BX := Lib.hid (And.intro b00 (And.intro b01 b02)); clear b00 b01 b02
  have BLT : Hid (w.heap.size < (w.alloc (.cells #[.int .i64 oo, .int .i64 a, .int .i64 b] 24)).heap.size) := Lib.hid (by simp)
  have hlz : (bs.length : Int) ≤ 200 := by omega
  go_enter Try.func4, Try.ntmps4
  go_wp2_with fail
  refine (awake _).mono ?_; rintro e w1 ⟨rfl, hb1⟩
  have x0 := (hb1.cell (p := ⟨w.heap.size, 0, none⟩) BLT.out).trans BX.out.1
  have x1 := (hb1.cell (p := ⟨w.heap.size, 1, none⟩) BLT.out).trans BX.out.2.1
  have x2 := (hb1.cell (p := ⟨w.heap.size, 2, none⟩) BLT.out).trans BX.out.2.2
  have L1 : w.heap.size < w1.heap.size := Nat.lt_of_lt_of_le BLT.out hb1.size
  have B1 := Lib.hid (bt BA.out hb1); clear hb1
  go_wp2_with fail
  refine (put_src oo a b (SRC.out _ B1.out) (by omega) ha1 ha2 hq1 hq2).mono ?_; rintro e w2 ⟨p, np, rfl, own2, hb2'⟩
  have y0 := (hb2'.cell (p := ⟨w.heap.size, 0, none⟩) L1).trans x0
  have y1 := (hb2'.cell (p := ⟨w.heap.size, 1, none⟩) L1).trans x1
  have y2 := (hb2'.cell (p := ⟨w.heap.size, 2, none⟩) L1).trans x2
  have B2 := Lib.hid (bt B1.out hb2'); have OWN2 := Lib.hid own2
  clear hb2' own2 x0 x1 x2
  go_wp2_with fail
  refine (pi_src oo a b (SRC.out _ B2.out) (by omega) ha1 ha2 hq1 hq2).mono ?_; rintro e w3 ⟨q, nq, rfl, own3, hb3⟩
  have B3 := Lib.hid (bt B2.out hb3); have OWN3 := Lib.hid own3
  have OWN2' := Lib.hid (own_below OWN2.out hb3)
  clear hb3 own3 y0 y1 y2
  go_wp2_with fail
  refine (CG.out _ B3.out).mono ?_; rintro e w4 ⟨rfl, hb4⟩
  have B4 := Lib.hid (bt B3.out hb4)
  have OWN3' := Lib.hid (own_below OWN3.out hb4); have OWN2a := Lib.hid (own_below OWN2'.out hb4)
  clear hb4
  go_wp2_with fail
  refine (CR.out _ (bt B4.out (below_alloc w4 _))).mono ?_; rintro e w5 ⟨rfl, hb5⟩
  have hb5' : Below w4.heap.size w4 w5 := bt (below_alloc w4 _) hb5
  have B5 := Lib.hid (bt B4.out hb5')
  have op := own_below OWN2a.out hb5'
  have oq := own_below OWN3'.out hb5'
  have cp : ∀ o : Obj, (convert 28 9 p).run Try.prog (w5.alloc o) = .ok (.string (strB (bs ++ putS oo a b))) (w5.alloc o) := fun o => str_own (op.alloc o)
  have cq : ∀ o : Obj, (convert 28 9 q).run Try.prog (w5.alloc o) = .ok (.string (strB (bs ++ putS oo a b))) (w5.alloc o) := fun o => str_own (oq.alloc o)
  have z0 := (hb5.cell (p := ⟨w4.heap.size, 0, none⟩) (by simp)).trans (box3 w4 (.int .i64 g1) (.int .i64 g2) (.int .i64 g3) 24).1
  have z1 := (hb5.cell (p := ⟨w4.heap.size, 1, none⟩) (by simp)).trans (box3 w4 (.int .i64 g1) (.int .i64 g2) (.int .i64 g3) 24).2.1
  have z2 := (hb5.cell (p := ⟨w4.heap.size, 2, none⟩) (by simp)).trans (box3 w4 (.int .i64 g1) (.int .i64 g2) (.int .i64 g3) 24).2.2
  have L5 : w4.heap.size < w5.heap.size := by have := hb5.size; simp at this; omega
  have B6 := Lib.hid (bt B5.out (below_alloc w5 (.cells #[.int .i64 g1, .int .i64 g2, .int .i64 g3] 35)))
  clear hb5 hb5' op oq
  go_wp2_with fail
  refine (AL.out _ B6.out).mono ?_; rintro e w6 hpost
  clear cp cq z0 z1 z2
  unfold AllPost at hpost
  rw [HN.out] at hpost
  obtain ⟨v, x, rfl, hb6, rfl, rfl⟩ := hpost
  have B7 := Lib.hid (bt B6.out hb6); clear hb6
  go_wp2
  refine wp_loop_rounds 1 ?_
  rw [rounds_succ]
  go_wp2_with fail
  refine (WH.out _ B7.out).mono ?_; rintro e w7 ⟨rfl, hb7⟩
  rw [HN2.out]
  have B8 := Lib.hid (bt B7.out hb7)
  go_wp2
  go_ret
  exact ⟨rfl, B8.out⟩
set_option maxRecDepth 100000 in
set_option maxHeartbeats 8000000 in
theorem says_a1 {w : World} {h off cap : Nat} {bs : List Nat} (hb : ∀ j, j < bs.length → w.cell? ⟨h, off + j, none⟩ = some (.int .u8 (bs.getD j 0 : Nat))) (hlt : h < w.heap.size) (hc : ∀ j, bs.getD j 0 < 256) (h0 : 0 < bs.length) (hl : bs.length ≤ 200) (hcap : bs.length ≤ cap) (oo a b : Int)
    (ha1 : Hid (-9223372036854775808 ≤ a)) (ha2 : Hid (a < 9223372036854775808)) (hq1 : Hid (-9223372036854775808 ≤ b)) (hq2 : Hid (b < 9223372036854775808)) (HNe : allS (bs.length + 1) bs = none) (GNN : (getS bs).2 ≠ 0) (GNP : 0 ≤ (getS bs).2) :
    Calls Try.prog 4 #[.agg #[.int .i64 oo, .int .i64 a, .int .i64 b], .slice (some ⟨h, off, none⟩) bs.length cap] w fun e w' => e = .returned (.bool true) ∧ Below w.heap.size w w' := by
  have HN := Lib.hid HNe
  have HN2 : Hid ((AS bs 0).isSome = false) := Lib.hid (by unfold AS; rw [List.drop_zero, HNe]; rfl)
  clear HNe
  have SRC : Hid (∀ W, Below w.heap.size w W → Src W (.slice (some ⟨h, off, none⟩) bs.length cap) bs) := Lib.hid (fun W hW => .inr ⟨⟨h, off, none⟩, cap, rfl, fun j u hu => by
    have hj : j < bs.length := by have := (List.getElem?_eq_some_iff.1 hu).1; rwa [bys_len] at this
    rw [Go.WideShapes.add_plain, hW.cell (p := ⟨h, off + j, none⟩) hlt, hb j hj, ← hu]
    simp [bys, hj]⟩)
  have hbs : bs = bs.getD 0 0 :: bs.drop 1 := by have := drop_cons bs 0 h0; simpa using this
  have hd1 : (bs.drop 1).length + 1 = bs.length := by rw [List.length_drop]; omega
  have HBW : Hid (∀ W, Below w.heap.size w W → ∀ j, j < bs.length → W.cell? ⟨h, off + j, none⟩ = some (.int .u8 (bs.getD j 0 : Nat))) := Lib.hid (fun W hW j hj => by rw [hW.cell (p := ⟨h, off + j, none⟩) hlt, hb j hj])
  have CG : Hid (∀ W, Below w.heap.size w W → Calls Try.prog 8 #[.slice (some ⟨h, off, none⟩) bs.length cap] W fun e w' => e = .returned (.tuple #[.agg #[.int .i64 (getS bs).1.1, .int .i64 (getS bs).1.2.1, .int .i64 (getS bs).1.2.2], .int .i64 (getS bs).2, .int .i64 (errG (getS bs).2)]) ∧ Below W.heap.size W w') := Lib.hid (fun W hW => by
    have := codeget_len (w := W) (h := h) (o := off) (cap := cap) (c := bs.getD 0 0) (t := bs.drop 1) hd1 (fun j hj => by rw [← hbs] at hj ⊢; exact HBW.out W hW j hj) (Nat.lt_of_lt_of_le hlt hW.size) (hc 0) (by omega) (by omega)
    rw [← hbs] at this; exact this)
  have CR : Hid (∀ W, Below w.heap.size w W → Calls Try.prog 13 #[.slice (some ⟨h, off, none⟩) bs.length cap] W fun e w' => e = .returned (.tuple #[.agg #[.int .i64 (getS bs).1.1, .int .i64 (getS bs).1.2.1, .int .i64 (getS bs).1.2.2], .int .i64 (getS bs).2]) ∧ Below W.heap.size W w') := Lib.hid (fun W hW => by
    have := getref_len (w := W) (h := h) (o := off) (cap := cap) (c := bs.getD 0 0) (t := bs.drop 1) hd1 (fun j hj => by rw [← hbs] at hj ⊢; exact HBW.out W hW j hj) (Nat.lt_of_lt_of_le hlt hW.size) (hc 0) (by omega) (by omega)
    rw [← hbs] at this; exact this)
  have AL : Hid (∀ W, Below w.heap.size w W → Calls Try.prog 9 #[.slice (some ⟨h, off, none⟩) bs.length cap] W fun e w' => AllPost W bs e w') := Lib.hid (fun W hW => all_any (HBW.out W hW) (Nat.lt_of_lt_of_le hlt hW.size) hc (by omega) hcap)
  have WH : Hid (∀ W, Below w.heap.size w W → Calls Try.prog 14 #[.slice (some ⟨h, off, none⟩) bs.length cap] W fun e w' => e = .returned (.bool (AS bs 0).isSome) ∧ Below W.heap.size W w') := Lib.hid (fun W hW => whole_any (HBW.out W hW) (Nat.lt_of_lt_of_le hlt hW.size) hc (by omega) hcap)
  have HC := Lib.hid hc
  obtain ⟨g, hg⟩ : ∃ g, g = getS bs := ⟨_, rfl⟩
  rw [← hg] at CG CR GNN GNP
  obtain ⟨⟨g1, g2, g3⟩, gn⟩ := g
  simp only at CG CR
  clear hb hc hbs hd1 hg
  simp only at GNN GNP
  have ee : errG gn = 0 := by unfold errG; rw [if_neg GNN]
  have gnp : decide (0 < gn) = true := decide_eq_true (by omega)
  clear GNN GNP
  have BA := Lib.hid (below_alloc w (.cells #[.int .i64 oo, .int .i64 a, .int .i64 b] 24))
  obtain ⟨b00, b01, b02⟩ := box3 w (.int .i64 oo) (.int .i64 a) (.int .i64 b) 24
  have BX := Lib.hid (And.intro b00 (And.intro b01 b02)); clear b00 b01 b02
  have BLT : Hid (w.heap.size < (w.alloc (.cells #[.int .i64 oo, .int .i64 a, .int .i64 b] 24)).heap.size) := Lib.hid (by simp)
  have hlz : (bs.length : Int) ≤ 200 := by omega
  go_enter Try.func4, Try.ntmps4
  go_wp2_with fail
  refine (awake _).mono ?_; rintro e w1 ⟨rfl, hb1⟩
  have x0 := (hb1.cell (p := ⟨w.heap.size, 0, none⟩) BLT.out).trans BX.out.1
  have x1 := (hb1.cell (p := ⟨w.heap.size, 1, none⟩) BLT.out).trans BX.out.2.1
  have x2 := (hb1.cell (p := ⟨w.heap.size, 2, none⟩) BLT.out).trans BX.out.2.2
  have L1 : w.heap.size < w1.heap.size := Nat.lt_of_lt_of_le BLT.out hb1.size
  have B1 := Lib.hid (bt BA.out hb1); clear hb1
  go_wp2_with fail
  refine (put_src oo a b (SRC.out _ B1.out) (by omega) ha1 ha2 hq1 hq2).mono ?_; rintro e w2 ⟨p, np, rfl, own2, hb2'⟩
  have y0 := (hb2'.cell (p := ⟨w.heap.size, 0, none⟩) L1).trans x0
  have y1 := (hb2'.cell (p := ⟨w.heap.size, 1, none⟩) L1).trans x1
  have y2 := (hb2'.cell (p := ⟨w.heap.size, 2, none⟩) L1).trans x2
  have B2 := Lib.hid (bt B1.out hb2'); have OWN2 := Lib.hid own2
  clear hb2' own2 x0 x1 x2
  go_wp2_with fail
  refine (pi_src oo a b (SRC.out _ B2.out) (by omega) ha1 ha2 hq1 hq2).mono ?_; rintro e w3 ⟨q, nq, rfl, own3, hb3⟩
  have B3 := Lib.hid (bt B2.out hb3); have OWN3 := Lib.hid own3
  have OWN2' := Lib.hid (own_below OWN2.out hb3)
  clear hb3 own3 y0 y1 y2
  go_wp2_with fail
  refine (CG.out _ B3.out).mono ?_; rintro e w4 ⟨rfl, hb4⟩
  have B4 := Lib.hid (bt B3.out hb4)
  have OWN3' := Lib.hid (own_below OWN3.out hb4); have OWN2a := Lib.hid (own_below OWN2'.out hb4)
  clear hb4
  go_wp2_with fail
  refine (CR.out _ (bt B4.out (below_alloc w4 _))).mono ?_; rintro e w5 ⟨rfl, hb5⟩
  have hb5' : Below w4.heap.size w4 w5 := bt (below_alloc w4 _) hb5
  have B5 := Lib.hid (bt B4.out hb5')
  have op := own_below OWN2a.out hb5'
  have oq := own_below OWN3'.out hb5'
  have cp : ∀ o : Obj, (convert 28 9 p).run Try.prog (w5.alloc o) = .ok (.string (strB (bs ++ putS oo a b))) (w5.alloc o) := fun o => str_own (op.alloc o)
  have cq : ∀ o : Obj, (convert 28 9 q).run Try.prog (w5.alloc o) = .ok (.string (strB (bs ++ putS oo a b))) (w5.alloc o) := fun o => str_own (oq.alloc o)
  have z0 := (hb5.cell (p := ⟨w4.heap.size, 0, none⟩) (by simp)).trans (box3 w4 (.int .i64 g1) (.int .i64 g2) (.int .i64 g3) 24).1
  have z1 := (hb5.cell (p := ⟨w4.heap.size, 1, none⟩) (by simp)).trans (box3 w4 (.int .i64 g1) (.int .i64 g2) (.int .i64 g3) 24).2.1
  have z2 := (hb5.cell (p := ⟨w4.heap.size, 2, none⟩) (by simp)).trans (box3 w4 (.int .i64 g1) (.int .i64 g2) (.int .i64 g3) 24).2.2
  have L5 : w4.heap.size < w5.heap.size := by have := hb5.size; simp at this; omega
  have B6 := Lib.hid (bt B5.out (below_alloc w5 (.cells #[.int .i64 g1, .int .i64 g2, .int .i64 g3] 35)))
  clear hb5 hb5' op oq
  go_wp2_with fail
  refine (AL.out _ B6.out).mono ?_; rintro e w6 hpost
  clear cp cq z0 z1 z2
  unfold AllPost at hpost
  rw [HN.out] at hpost
  obtain ⟨v, x, rfl, hb6, rfl, rfl⟩ := hpost
  have B7 := Lib.hid (bt B6.out hb6); clear hb6
  go_wp2
  refine wp_loop_rounds 1 ?_
  rw [rounds_succ]
  go_wp2_with fail
  refine (WH.out _ B7.out).mono ?_; rintro e w7 ⟨rfl, hb7⟩
  rw [HN2.out]
  have B8 := Lib.hid (bt B7.out hb7)
  go_wp2
  go_ret
  exact ⟨rfl, B8.out⟩
end Go.Proofs.Ytgfaadfkeeehgaa
