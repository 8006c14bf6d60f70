import Derived.Test.YtdkfimejabanlaaDoorYv
import Derived.Test.YtdkfimejabanlaaDoorTs
namespace Go.Proofs.YtdkfimejabanlaaDoor
open DR
open Go.ChangeShapes Go.WideShapes Go.ChangeAt Go.RowKit Go.WideMaps
set_option linter.unusedVariables false
set_option linter.unusedSimpArgs false
theorem news_raw (w : World) : Calls Tryd.prog 11 #[] w fun e w' => e = .returned (.pointer (some ⟨w.heap.size, 0, none⟩)) ∧ w'.heap[w.heap.size]? = some (.cells #[.int .i64 0, .slice none 0 0] SubY (0, 0)) ∧ Below w.heap.size w w' := by
  have h := heap_alloc_new w (.cells #[.int .i64 0, .slice none 0 0] SubY)
  have h2 := below_alloc w (.cells #[.int .i64 0, .slice none 0 0] SubY)
  go_enter Tryd.func11, Tryd.ntmps11
  go_wp2
  go_ret
  exact ⟨rfl, h, h2⟩
theorem SubS.raw {w : World} {Pr : Nat → Prop} {B sb : Nat} (h : w.heap[sb]? = some (.cells #[.int .i64 0, .slice none 0 0] SubY (0, 0))) (hB : B ≤ sb) (h1 : ¬ Pr sb) (h2 : ∀ b, Pr b → b < w.heap.size) : SubS w Pr B sb 0 [] :=
  ⟨fun _ => False, .slice none 0 0, [], ⟨h, World.ownsRow_nil _ _ _ _, rfl, fun e => e.elim (fun e => e) h1, fun b hb => (by cases hb), hB, fun b e => e.elim (fun e => e.elim) (h2 b), fun _ e => e.elim⟩, fun _ e => e.elim⟩
def PrD (v : Value) : Nat → Prop := fun q => v.ownBlock = some q
/-- the first loop: pairs are made one. -/
def L1 (w w6 : World) (s1 : Nat) (dv i : Value) (wr : World) : Prop := ∃ (j : Nat) (St : List TT) (P : List (TT × TT)), j ≤ 14 ∧ P.length ≤ j ∧ i = .int .i64 j ∧ Hid (SubS wr (PrD dv) s1 s1 0 St) ∧ Hid (SInv2 St) ∧ Hid (DnR wr s1 w.heap.size dv P) ∧ Hid (DOk St P) ∧ Hid (Frm w6 wr (fun q => s1 ≤ q))
theorem kid2_one (V : TT) (A : Option Addr) (c : Nat) (U : TT) (A' : Option Addr) (c' : Nat) : ∀ u ∈ kid2 V A c U A' c', u.oneCell' = true := fun u hu => by
  rcases List.mem_append.1 hu with h | h
  · exact kid_one V A c u h
  · exact kid_one U A' c' u h
theorem flatP_at2 (P : List (TT × TT)) (k j : Nat) (hj : j = 2 * k) (h : k < P.length) (h1 : j < (flatP P).length) (h2 : j + 1 < (flatP P).length) : (flatP P)[j] = P[k].1 ∧ (flatP P)[j + 1] = P[k].2 := by
  subst hj
  exact flatP_at P k h h1 h2
theorem notin_ge {L : List Nat} {n b : Nat} (h : ∀ x ∈ L, x < n) (hb : n ≤ b) : b ∉ L := fun hx => by have := h b hx; omega
/-- what is there behind the two that were replaced before. -/
structure R14 (wC w' : World) (U1 U2 : TT) (X Y : Nat) (A1 : Option Addr) (c1 : Nat) (A2 : Option Addr) (c2 : Nat) : Prop where
  x : w'.heap[X]? = some (.cells #[.int .i64 U1.k, .string U1.nm, .int .i64 U1.vr, .slice A1 U1.args.length c1] TT24 (0, 0))
  y : w'.heap[Y]? = some (.cells #[.int .i64 U2.k, .string U2.nm, .int .i64 U2.vr, .slice A2 U2.args.length c2] TT24 (0, 0))
  rx : TRow w' (wC.heap.size ≤ ·) A1 U1.args
  ry : TRow w' (wC.heap.size ≤ ·) A2 U2.args
  bel : Below wC.heap.size wC w'
  xl : wC.heap.size ≤ X
  yl : wC.heap.size ≤ Y
theorem DnR.nil (w : World) (B lo : Nat) : DnR w B lo (.slice none 0 0) [] := ⟨[], World.ownsRow_nil _ _ _ _, rfl⟩
/-- behind an append to the row of what was made one. -/
theorem done_push {w w5 w7 w8 : World} {s1 g cap : Nat} {v : Value} {St : List TT} {P : List (TT × TT)} {V U : TT} {A A' : Option Addr} {c c' : Nat} {xs : List Value} (hlo : w.heap.size ≤ s1) (hT : SubS w5 (PrD v) s1 s1 0 St) (ho : w5.ownsRow s1 TT24 4 v (2 * P.length) xs) (hk : KidsT w5 (· < w.heap.size) (flatP P) xs) (hV : TRow w5 (· < w.heap.size) A V.args) (hU : TRow w5 (· < w.heap.size) A' U.args) (h7 : Below w5.heap.size w5 w7)
    (own8 : w8.ownsRow s1 TT24 4 (.slice (some ⟨g, 0, none⟩) (2 * P.length + 2) cap) (2 * P.length + 2) (xs ++ kid2 V A c U A' c')) (gr8 : w7.grownBy w8 v.ownBlock) (at8 : v.ownBlock = some g ∨ g = w7.heap.size) (hlt8 : g < w8.heap.size) :
    SubS w8 (PrD (.slice (some ⟨g, 0, none⟩) (2 * P.length + 2) cap)) s1 s1 0 St ∧ DnR w8 s1 w.heap.size (.slice (some ⟨g, 0, none⟩) (2 * P.length + 2) cap) (P ++ [(V, U)]) ∧ Frm w5 w8 (fun q => s1 ≤ q) := by
  have f : Frm w5 w8 (PrD v) := (Frm.of_below h7 (Nat.le_refl _) _).trans (Frm.of_grown gr8 (fun k hk => hk))
  refine ⟨hT.swap f (fun b hb => ?_), DnR.push ho hk hlo hV hU h7 own8 gr8, f.mono (fun k _ hk => (ho.lt k hk).1)⟩
  have hb : g = b := by injection hb
  subst hb
  refine ⟨hlt8, ?_⟩
  rcases at8 with e | e
  · exact .inl e
  · right; rw [e]; exact h7.size
set_option maxRecDepth 100000 in
set_option maxHeartbeats 32000000 in
theorem one_walk {l : List TT} {A : Option Addr} {c : Nat} {a b : TT} {va vb : Value} {w : World} (hAw : ∀ W, Calls Tryd.prog 10 #[] W fun e W' => e = .returned (.bool true) ∧ Below W.heap.size W W') (hl : TRow w any0 A l) (ha : TIn w any0 a va) (hb : TIn w any0 b vb) :
    Calls Tryd.prog 6 #[.slice A l.length c, va, vb] w fun e w' => e = .returned (.bool true) ∧ Below w.heap.size w w' := by
  have HAW := Lib.hid hAw
  have HL := Lib.hid (hl.weak (P' := (· < w.heap.size)) fun b hb _ => hb)
  have HIA := Lib.hid ha; have HIB := Lib.hid hb
  obtain ⟨Aa, ca, rfl, hAa⟩ := ha
  obtain ⟨Ab, cb, rfl, hAb⟩ := hb
  have CSA := Lib.hid (fun W (hW : Below w.heap.size w W) => small_any 7 a _ 64 W most64 (HIA.out.later hW))
  have CSB := Lib.hid (fun W (hW : Below w.heap.size w W) => small_any 7 b _ 64 W most64 (HIB.out.later hW))
  have GA := Lib.hid (fun (h : bigT 7 a = false) W (hW : Below w.heap.size w W) => good_any (d := 7) (Nat.le_refl 7) h (HIA.out.later hW))
  have GB := Lib.hid (fun (h : bigT 7 b = false) W (hW : Below w.heap.size w W) => good_any (d := 7) (Nat.le_refl 7) h (HIB.out.later hW))
  obtain ⟨wB, hwB⟩ : ∃ z, z = (w.alloc (.cells #[.int .i64 a.k, .string a.nm, .int .i64 a.vr, .slice Aa a.args.length ca] 27)).alloc (.cells #[.int .i64 b.k, .string b.nm, .int .i64 b.vr, .slice Ab b.args.length cb] 27) := ⟨_, rfl⟩
  have BX := two_box (w := w) (.cells #[.int .i64 a.k, .string a.nm, .int .i64 a.vr, .slice Aa a.args.length ca] 27) (.cells #[.int .i64 b.k, .string b.nm, .int .i64 b.vr, .slice Ab b.args.length cb] 27)
  rw [← hwB] at BX
  have HB := Lib.hid (show Below w.heap.size w wB by rw [hwB]; exact bt (below_alloc w _) (below_alloc _ _))
  have HZ := Lib.hid (show wB.heap.size = w.heap.size + 2 by rw [hwB]; simp)
  have HX := Lib.hid BX
  have HWB := Lib.hid hwB
  have KA := Lib.hid (fun W (hW : Below wB.heap.size wB W) => cells4 ((hW.block w.heap.size (by rw [HZ.out]; omega)).trans HX.out.1))
  have KB := Lib.hid (fun W (hW : Below wB.heap.size wB W) => cells4 ((hW.block (w.heap.size + 1) (by rw [HZ.out]; omega)).trans HX.out.2))
  unfold tv at CSA CSB GA GB HIA HIB ⊢
  clear BX hwB hAw hAa hAb hl
  by_cases h12 : 12 < l.length
  · have d12 : decide ((12 : Int) < (l.length : Int)) = true := decide_eq_true (by omega)
    have i12 : (12 : Int) < (l.length : Int) := by omega
    clear h12
    as_aux_lemma =>
    go_enter Tryd.func6, Tryd.ntmps6
    go_wp2_with fail
    rw [← HWB.out]
    try go_wp2_with fail
    refine (HAW.out _).mono ?_; rintro e w1 ⟨rfl, b1⟩
    have B1 := Lib.hid b1
    clear b1
    go_wp2
    go_ret
    exact ⟨rfl, bt HB.out B1.out⟩
  have d12 : decide ((12 : Int) < (l.length : Int)) = false := decide_eq_false (by omega)
  have i12 : ¬ (12 : Int) < (l.length : Int) := by omega
  cases h0 : bigT 7 a with
  | true =>
    rw [h0] at CSA
    as_aux_lemma =>
    go_enter Tryd.func6, Tryd.ntmps6
    go_wp2_with fail
    rw [← HWB.out]
    try go_wp2_with fail
    refine (HAW.out _).mono ?_; rintro e w1 ⟨rfl, b1⟩
    have B1 := Lib.hid b1
    clear b1
    obtain ⟨x0, x1, x2, x3⟩ := KA.out _ B1.out
    go_wp2_with fail
    refine (CSA.out _ (bt HB.out B1.out)).mono ?_; rintro e w2 ⟨rfl, b2⟩
    have B2 := Lib.hid (bt B1.out b2)
    clear b2 x0 x1 x2 x3
    go_wp2
    go_ret
    exact ⟨rfl, bt HB.out B2.out⟩
  | false =>
  rw [h0] at CSA
  cases h1 : bigT 7 b with
  | true =>
    rw [h1] at CSB
    as_aux_lemma =>
    go_enter Tryd.func6, Tryd.ntmps6
    go_wp2_with fail
    rw [← HWB.out]
    try go_wp2_with fail
    refine (HAW.out _).mono ?_; rintro e w1 ⟨rfl, b1⟩
    have B1 := Lib.hid b1
    clear b1
    obtain ⟨x0, x1, x2, x3⟩ := KA.out _ B1.out
    go_wp2_with fail
    refine (CSA.out _ (bt HB.out B1.out)).mono ?_; rintro e w2 ⟨rfl, b2⟩
    have B2 := Lib.hid (bt B1.out b2)
    clear b2 x0 x1 x2 x3
    obtain ⟨x0, x1, x2, x3⟩ := KB.out _ B2.out
    go_wp2_with fail
    refine (CSB.out _ (bt HB.out B2.out)).mono ?_; rintro e w3 ⟨rfl, b3⟩
    have B3 := Lib.hid (bt B2.out b3)
    clear b3 x0 x1 x2 x3
    go_wp2
    go_ret
    exact ⟨rfl, bt HB.out B3.out⟩
  | false =>
  rw [h1] at CSB
  replace GA := Lib.hid (GA.out h0)
  replace GB := Lib.hid (GB.out h1)
  cases h2 : goodT a with
  | false =>
    rw [h2] at GA
    as_aux_lemma =>
    go_enter Tryd.func6, Tryd.ntmps6
    go_wp2_with fail
    rw [← HWB.out]
    try go_wp2_with fail
    refine (HAW.out _).mono ?_; rintro e w1 ⟨rfl, b1⟩
    have B1 := Lib.hid b1
    clear b1
    obtain ⟨x0, x1, x2, x3⟩ := KA.out _ B1.out
    go_wp2_with fail
    refine (CSA.out _ (bt HB.out B1.out)).mono ?_; rintro e w2 ⟨rfl, b2⟩
    have B2 := Lib.hid (bt B1.out b2)
    clear b2 x0 x1 x2 x3
    obtain ⟨x0, x1, x2, x3⟩ := KB.out _ B2.out
    go_wp2_with fail
    refine (CSB.out _ (bt HB.out B2.out)).mono ?_; rintro e w3 ⟨rfl, b3⟩
    have B3 := Lib.hid (bt B2.out b3)
    clear b3 x0 x1 x2 x3
    obtain ⟨x0, x1, x2, x3⟩ := KA.out _ B3.out
    go_wp2_with fail
    refine (GA.out _ (bt HB.out B3.out)).mono ?_; rintro e w4 ⟨rfl, b4⟩
    have B4 := Lib.hid (bt B3.out b4)
    clear b4 x0 x1 x2 x3
    go_wp2
    go_ret
    exact ⟨rfl, bt HB.out B4.out⟩
  | true =>
  rw [h2] at GA
  cases h3 : goodT b with
  | false =>
    rw [h3] at GB
    as_aux_lemma =>
    go_enter Tryd.func6, Tryd.ntmps6
    go_wp2_with fail
    rw [← HWB.out]
    try go_wp2_with fail
    refine (HAW.out _).mono ?_; rintro e w1 ⟨rfl, b1⟩
    have B1 := Lib.hid b1
    clear b1
    obtain ⟨x0, x1, x2, x3⟩ := KA.out _ B1.out
    go_wp2_with fail
    refine (CSA.out _ (bt HB.out B1.out)).mono ?_; rintro e w2 ⟨rfl, b2⟩
    have B2 := Lib.hid (bt B1.out b2)
    clear b2 x0 x1 x2 x3
    obtain ⟨x0, x1, x2, x3⟩ := KB.out _ B2.out
    go_wp2_with fail
    refine (CSB.out _ (bt HB.out B2.out)).mono ?_; rintro e w3 ⟨rfl, b3⟩
    have B3 := Lib.hid (bt B2.out b3)
    clear b3 x0 x1 x2 x3
    obtain ⟨x0, x1, x2, x3⟩ := KA.out _ B3.out
    go_wp2_with fail
    refine (GA.out _ (bt HB.out B3.out)).mono ?_; rintro e w4 ⟨rfl, b4⟩
    have B4 := Lib.hid (bt B3.out b4)
    clear b4 x0 x1 x2 x3
    obtain ⟨x0, x1, x2, x3⟩ := KB.out _ B4.out
    go_wp2_with fail
    refine (GB.out _ (bt HB.out B4.out)).mono ?_; rintro e w5 ⟨rfl, b5⟩
    have B5 := Lib.hid (bt B4.out b5)
    clear b5 x0 x1 x2 x3
    go_wp2
    go_ret
    exact ⟨rfl, bt HB.out B5.out⟩
  | true =>
  rw [h3] at GB
  have BGA := Lib.hid h0
  have BGB := Lib.hid h1
  have HGA := Lib.hid h2
  have HGB := Lib.hid h3
  have hl12 : l.length ≤ 12 := by omega
  clear h0 h1 h2 h3 h12
  go_enter Tryd.func6, Tryd.ntmps6
  go_wp2_with fail
  rw [← HWB.out]
  try go_wp2_with fail
  refine (HAW.out _).mono ?_; rintro e w1 ⟨rfl, b1⟩
  have B1 := Lib.hid b1
  clear b1
  obtain ⟨x0, x1, x2, x3⟩ := KA.out _ B1.out
  go_wp2_with fail
  refine (CSA.out _ (bt HB.out B1.out)).mono ?_; rintro e w2 ⟨rfl, b2⟩
  have B2 := Lib.hid (bt B1.out b2)
  clear b2 x0 x1 x2 x3
  obtain ⟨x0, x1, x2, x3⟩ := KB.out _ B2.out
  go_wp2_with fail
  refine (CSB.out _ (bt HB.out B2.out)).mono ?_; rintro e w3 ⟨rfl, b3⟩
  have B3 := Lib.hid (bt B2.out b3)
  clear b3 x0 x1 x2 x3
  obtain ⟨x0, x1, x2, x3⟩ := KA.out _ B3.out
  go_wp2_with fail
  refine (GA.out _ (bt HB.out B3.out)).mono ?_; rintro e w4 ⟨rfl, b4⟩
  have B4 := Lib.hid (bt B3.out b4)
  clear b4 x0 x1 x2 x3
  obtain ⟨x0, x1, x2, x3⟩ := KB.out _ B4.out
  go_wp2_with fail
  refine (GB.out _ (bt HB.out B4.out)).mono ?_; rintro e w5 ⟨rfl, b5⟩
  have B5 := Lib.hid (bt B4.out b5)
  clear b5 x0 x1 x2 x3
  go_wp2_with fail
  refine (news_raw _).mono ?_; rintro e w6 ⟨rfl, s6, b6⟩
  obtain ⟨s1, hs1⟩ : ∃ z, z = w5.heap.size := ⟨_, rfl⟩
  have S6 := Lib.hid (show w6.heap[s1]? = some (.cells #[.int .i64 0, .slice none 0 0] SubY (0, 0)) by rw [hs1]; exact s6)
  have L6 := Lib.hid (show s1 < w6.heap.size from (Array.getElem?_eq_some_iff.1 S6.out).1)
  have HS1 := Lib.hid (show wB.heap.size ≤ s1 ∧ w.heap.size ≤ s1 by have := B5.out.size; have := HZ.out; rw [hs1]; omega)
  have B6 := Lib.hid (bt B5.out b6)
  rw [← hs1]
  clear s6 b6 hs1
  have FB := Lib.hid (show ∀ W, Frm w6 W (fun q => s1 ≤ q) → Below wB.heap.size wB W from fun W hF => B6.out.trans (hF.below (fun q hq => by have : s1 ≤ q := hq; have := HS1.out; omega) B6.out.size))
  have FW := Lib.hid (show ∀ W, Frm w6 W (fun q => s1 ≤ q) → Below w.heap.size w W from fun W hF => bt HB.out (FB.out W hF))
  have SS := Lib.hid (show SubS w6 (PrD (.slice none 0 0)) s1 s1 0 [] from SubS.raw S6.out (Nat.le_refl _) (fun e => (by cases e)) (fun q e => (by cases e)))
  clear CSA CSB GA GB HAW
  go_wp2
  go_loopw [8, 9] (fun dv i wr => L1 w w6 s1 dv i wr) (fun _ i _ => 14 - (intOf i).toNat)
  case atStart => exact ⟨0, [], [], by omega, by simp, by first | rfl | trivial, SS, Lib.hid sinv2_nil, Lib.hid (DnR.nil _ _ _), Lib.hid (fun p hp => by cases hp), Lib.hid (Frm.refl _ _)⟩
  case round =>
    obtain ⟨j, St, P, hj, hPj, rfl, HT, HI, HD, HO, HR⟩ := hrel
    obtain ⟨xs, ho, hkd⟩ := HD.out
    obtain ⟨Ad, cd, rfl⟩ := vform ho
    have HOW := Lib.hid ho
    have HKD := Lib.hid hkd
    have HZR := Lib.hid (show s1 ≤ wr.heap.size by have := HR.out.size; have := L6.out; omega)
    have HWR := Lib.hid (FW.out _ HR.out)
    have HLT := Lib.hid (show w.heap.size ≤ s1 from HS1.out.2)
    clear ho hkd
    by_cases hjl : j + 1 < l.length
    · have hjli : (j : Int) + 1 < (l.length : Int) := by omega
      have hj0 : j < l.length := by omega
      have hj0i : (j : Int) < (l.length : Int) := by omega
      have hj1 : (0 : Int) ≤ (j : Int) + 1 := by omega
      have WJ := Lib.hid (show IntKind.i64.wrap ((j : Int) + 1) = (j : Int) + 1 from IntWalk.i64_in _ (by omega))
      obtain ⟨b9, o, rfl, hb, hr⟩ := HL.out.at (by omega)
      obtain ⟨A1, c1, p0, p1, p2, p3, q1, q2, e1, hin1⟩ := hr wr HWR.out j hj0
      obtain ⟨A2, c2, r0, r1, r2, r3, q3, q4, e2, hin2⟩ := hr wr HWR.out (j + 1) hjl
      obtain ⟨rfl, rfl⟩ := tv_inj e1
      obtain ⟨rfl, rfl⟩ := tv_inj e2
      obtain ⟨V, hV⟩ : ∃ V, V = l[j] := ⟨_, rfl⟩
      obtain ⟨U, hU⟩ : ∃ V, V = l[j + 1] := ⟨_, rfl⟩
      rw [← hV] at p0 p1 p2 p3 hin1
      rw [← hU] at r0 r1 r2 r3 hin2
      have I1 := Lib.hid hin1
      have I2 := Lib.hid hin2
      have CS := Lib.hid (fun W (hW : Below wr.heap.size wr W) => small_any 7 V (tv V A1 c1) 64 W most64 ⟨A1, c1, rfl, (I1.out.weak (fun _ _ _ => trivial)).later hW⟩)
      have CS2 := Lib.hid (fun W (hW : Below wr.heap.size wr W) => small_any 7 U (tv U A2 c2) 64 W most64 ⟨A2, c2, rfl, (I2.out.weak (fun _ _ _ => trivial)).later hW⟩)
      have HB9 := Lib.hid (show b9 < wr.heap.size from Nat.lt_of_lt_of_le hb HWR.out.size)
      have HBL := Lib.hid hb
      unfold tv at CS CS2
      clear hr hb hV hU hin1 hin2 e1 e2
      cases hbg : bigT 7 V with
      | true =>
        rw [hbg] at CS
        as_aux_lemma =>
        clear hbg CS2 I1 I2
        go_wp2_with fail
        refine (CS.out _ (Below.refl _ _)).mono ?_; rintro e w3 ⟨rfl, b3⟩
        have B3 := Lib.hid (bt HWR.out b3)
        clear b3 CS p0 p1 p2 p3 r0 r1 r2 r3
        go_wp2
        go_ret
        exact ⟨rfl, B3.out⟩
      | false =>
      rw [hbg] at CS
      cases hbg2 : bigT 7 U with
      | true =>
        rw [hbg2] at CS2
        as_aux_lemma =>
        clear hbg hbg2 I1 I2
        go_wp2_with fail
        refine (CS.out _ (Below.refl _ _)).mono ?_; rintro e w3 ⟨rfl, b3⟩
        have B3 := Lib.hid b3
        have r0 := (b3.cell (p := ⟨b9, _, none⟩) HB9.out).trans r0
        have r1 := (b3.cell (p := ⟨b9, _, none⟩) HB9.out).trans r1
        have r2 := (b3.cell (p := ⟨b9, _, none⟩) HB9.out).trans r2
        have r3 := (b3.cell (p := ⟨b9, _, none⟩) HB9.out).trans r3
        clear b3 CS p0 p1 p2 p3
        go_wp2_with fail
        refine (CS2.out _ B3.out).mono ?_; rintro e w4 ⟨rfl, b4⟩
        have B4 := Lib.hid (bt HWR.out (bt B3.out b4))
        clear b4 CS2 r0 r1 r2 r3
        go_wp2
        go_ret
        exact ⟨rfl, B4.out⟩
      | false =>
      rw [hbg2] at CS2
      have P0 := Lib.hid p0; have P1 := Lib.hid p1; have P2 := Lib.hid p2; have P3 := Lib.hid p3
      have Q0 := Lib.hid r0; have Q1 := Lib.hid r1; have Q2 := Lib.hid r2; have Q3 := Lib.hid r3
      have UN := Lib.hid (fun W (hW : Below wr.heap.size wr W) => unifyS HI.out.inv (HT.out.later hW) (Nat.le_trans HZR.out hW.size) hbg hbg2 (va := tv V A1 c1) (vb := tv U A2 c2) ⟨A1, c1, rfl, (I1.out.weak (fun _ _ _ => trivial)).later hW⟩ ⟨A2, c2, rfl, (I2.out.weak (fun _ _ _ => trivial)).later hW⟩)
      have HI2 := Lib.hid (uniG_inv2 HI.out (a := V) (b := U) ⟨_, hbg⟩ ⟨_, hbg2⟩)
      have HDY := Lib.hid (fun he : (uniG St V U).1 = 0 => dok_yes HI.out HO.out hbg hbg2 he)
      have HDN := Lib.hid (fun he : (uniG St V U).1 ≠ 0 => dok_no HI.out HO.out he)
      obtain ⟨⟨er, St2⟩, hq⟩ : ∃ q, q = uniG St V U := ⟨_, rfl⟩
      rw [← hq] at UN HI2 HDY HDN
      unfold tv at UN
      clear hbg hbg2 hq
      go_wp2_with fail
      refine (CS.out _ (Below.refl _ _)).mono ?_; rintro e w3 ⟨rfl, b3⟩
      have B3 := Lib.hid b3
      have r0 := (b3.cell (p := ⟨b9, _, none⟩) HB9.out).trans r0
      have r1 := (b3.cell (p := ⟨b9, _, none⟩) HB9.out).trans r1
      have r2 := (b3.cell (p := ⟨b9, _, none⟩) HB9.out).trans r2
      have r3 := (b3.cell (p := ⟨b9, _, none⟩) HB9.out).trans r3
      clear b3 CS p0 p1 p2 p3
      go_wp2_with fail
      refine (CS2.out _ B3.out).mono ?_; rintro e w4 ⟨rfl, b4⟩
      have B4 := Lib.hid (bt B3.out b4)
      clear b4 CS2 r0 r1 r2 r3
      go_wp2_with fail
      refine wp_region_D [10] (fun w' => Below w4.heap.size w4 w') (by kernel_rfl) (bdr w4) (fun hHeld => ?_)
      refine WDt 0 { dst := some 62, op := .move (.tmp 7), type := 23, pos := _, after := #[], guard := none } (v := ?vb0) rfl (by kernel_rfl) (fun _ _ _ h => h) (Or.inl ⟨by rfl, ?hyb0⟩) hHeld ?_
      case hyb0 => (intro wz hSw; (try dsimp only at hSw); go_simp; try with_reducible rfl)
      (try simp only [putz])
      refine WDt 1 { dst := some 63, op := .move (.tmp 0), type := 25, pos := _, after := #[], guard := none } (v := ?vb1) rfl (by kernel_rfl) (fun _ _ _ h => h) (Or.inl ⟨by rfl, ?hyb1⟩) hHeld ?_
      case hyb1 => (intro wz hSw; (try dsimp only at hSw); go_simp; try with_reducible rfl)
      (try simp only [putz])
      refine WDt 2 { dst := some 64, op := .move (.tmp 9), type := 3, pos := _, after := #[], guard := none } (v := ?vb2) rfl (by kernel_rfl) (fun _ _ _ h => h) (Or.inl ⟨by rfl, ?hyb2⟩) hHeld ?_
      case hyb2 => (intro wz hSw; (try dsimp only at hSw); go_simp; try with_reducible rfl)
      (try simp only [putz])
      refine WDt 3 { dst := some 65, op := .indexAddr 25 (.tmp 63) (.tmp 64), type := 0, pos := _, after := #[{ on := 1, ground := .data }, { on := 2, ground := .data }], guard := none } (v := ?vb3) rfl (by kernel_rfl) (fun _ _ _ h => h) (Or.inl ⟨by rfl, ?hyb3⟩) hHeld ?_
      case hyb3 => (intro wz hSw; (try dsimp only at hSw); go_simp; try with_reducible rfl)
      (try simp only [putz])
      refine WDt 4 { dst := some 66, op := .load 27 (.tmp 65), type := 27, pos := _, after := #[{ on := 3, ground := .data }], guard := none } (v := ?vb4) rfl (by kernel_rfl) (fun _ _ _ h => h) (Or.inl ⟨by rfl, ?hyb4⟩) hHeld ?_
      case hyb4 => (intro wz hSw; (try dsimp only at hSw); have z0 := ((bt B4.out hSw).cell (p := ⟨b9, _, none⟩) HB9.out).trans P0.out; have z1 := ((bt B4.out hSw).cell (p := ⟨b9, _, none⟩) HB9.out).trans P1.out; have z2 := ((bt B4.out hSw).cell (p := ⟨b9, _, none⟩) HB9.out).trans P2.out; have z3 := ((bt B4.out hSw).cell (p := ⟨b9, _, none⟩) HB9.out).trans P3.out; go_simp; try with_reducible rfl)
      (try simp only [putz])
      refine WDt 5 { dst := some 67, op := .move (.tmp 0), type := 25, pos := _, after := #[], guard := none } (v := ?vb5) rfl (by kernel_rfl) (fun _ _ _ h => h) (Or.inl ⟨by rfl, ?hyb5⟩) hHeld ?_
      case hyb5 => (intro wz hSw; (try dsimp only at hSw); have wj := WJ.out; go_simp; try with_reducible rfl)
      (try simp only [putz])
      refine WDt 6 { dst := some 68, op := .move (.tmp 9), type := 3, pos := _, after := #[], guard := none } (v := ?vb6) rfl (by kernel_rfl) (fun _ _ _ h => h) (Or.inl ⟨by rfl, ?hyb6⟩) hHeld ?_
      case hyb6 => (intro wz hSw; (try dsimp only at hSw); have wj := WJ.out; go_simp; try with_reducible rfl)
      (try simp only [putz])
      refine WDt 7 { dst := some 69, op := .binOp .add 3 (.tmp 68) (.const (.int .i64 1)) 3, type := 3, pos := _, after := #[{ on := 6, ground := .data }], guard := none } (v := ?vb7) rfl (by kernel_rfl) (fun _ _ _ h => h) (Or.inl ⟨by rfl, ?hyb7⟩) hHeld ?_
      case hyb7 => (intro wz hSw; (try dsimp only at hSw); have wj := WJ.out; go_simp; try with_reducible rfl)
      (try simp only [putz])
      refine WDt 8 { dst := some 70, op := .indexAddr 25 (.tmp 67) (.tmp 69), type := 0, pos := _, after := #[{ on := 5, ground := .data }, { on := 7, ground := .data }], guard := none } (v := ?vb8) rfl (by kernel_rfl) (fun _ _ _ h => h) (Or.inl ⟨by rfl, ?hyb8⟩) hHeld ?_
      case hyb8 => (intro wz hSw; (try dsimp only at hSw); have wj := WJ.out; go_simp; try with_reducible rfl)
      (try simp only [putz])
      refine WDt 9 { dst := some 71, op := .load 27 (.tmp 70), type := 27, pos := _, after := #[{ on := 8, ground := .data }], guard := none } (v := ?vb9) rfl (by kernel_rfl) (fun _ _ _ h => h) (Or.inl ⟨by rfl, ?hyb9⟩) hHeld ?_
      case hyb9 => (intro wz hSw; (try dsimp only at hSw); have z0 := ((bt B4.out hSw).cell (p := ⟨b9, _, none⟩) HB9.out).trans Q0.out; have z1 := ((bt B4.out hSw).cell (p := ⟨b9, _, none⟩) HB9.out).trans Q1.out; have z2 := ((bt B4.out hSw).cell (p := ⟨b9, _, none⟩) HB9.out).trans Q2.out; have z3 := ((bt B4.out hSw).cell (p := ⟨b9, _, none⟩) HB9.out).trans Q3.out; go_simp; try with_reducible rfl)
      (try simp only [putz])
      refine WD_ready (rs := [10]) (by kernel_rfl) (by simp) ?_
      refine AllD.last (o := _) rfl (by kernel_rfl) (fun K hK => ?_) AllD.nil
      rw [if_pos (by rfl)]
      go_simp
      have hw5 := bt B4.out hHeld
      refine (UN.out _ hw5).mono ?_; rintro e w5 ⟨rfl, s5, g5⟩
      try go_wp2_with fail
      refine hK.out _ _ ?_
      clear hK K
      (try simp only [putz])
      have S5 := Lib.hid s5
      have F5 := Lib.hid ((Frm.of_below hw5 (Nat.le_refl _) (Tn (PrD (.slice Ad (2 * P.length) cd)) s1)).trans g5)
      clear s5 g5 hw5 UN
      refine WD_takeAny (i := 11) (oi := { dst := some 73, op := .binOp .eql 29 (.tmp 72) (.const (.int .i64 0)) 29, type := 4, pos := _, after := #[{ on := 10, ground := .data }], guard := none }) (v := ?vb11) rfl (by kernel_rfl) (by kernel_rfl) (by kernel_rfl) (by kernel_rfl) (fun _ _ _ h => h) (Or.inl ⟨by rfl, ?hyb11⟩) ?_
      case hyb11 => (intro wz _; go_simp; try with_reducible rfl)
      (try simp only [putz])
      refine WD_done (by kernel_rfl) ?_ _
      have B5w := Lib.hid (show Below s1 wr w5 from F5.out.below (fun q hq => hq.1) HZR.out)
      have OW5 := Lib.hid (own_frm HOW.out F5.out (fun q hq e => e.2 hq))
      have KD5 := Lib.hid (HKD.out.move (w' := w5) (P' := (· < w.heap.size)) (fun q hq hp => ⟨F5.out.block q hq (fun e => by have := e.1; have := HLT.out; omega), hp⟩) F5.out.size)
      have HR5 := Lib.hid (HR.out.trans (F5.out.mono (fun q _ hq => hq.1)))
      have SZ5 := Lib.hid (show s1 ≤ w5.heap.size by have := HR5.out.size; have := L6.out; omega)
      by_cases he : er = 0
      · subst he
        have HDY2 := Lib.hid (HDY.out rfl)
        obtain ⟨i0, hi0, hz0, hz1, hz2⟩ := info_parts infoT
        have T1 := Lib.hid (show TRow w5 (· < w.heap.size) A1 V.args from I1.out.move (fun q hq hp => ⟨F5.out.block q hq (fun e => by have := e.1; have := HLT.out; omega), hp⟩) F5.out.size)
        have T2 := Lib.hid (show TRow w5 (· < w.heap.size) A2 U.args from I2.out.move (fun q hq hp => ⟨F5.out.block q hq (fun e => by have := e.1; have := HLT.out; omega), hp⟩) F5.out.size)
        have HB5 := Lib.hid (show b9 < w5.heap.size from Nat.lt_of_lt_of_le HB9.out F5.out.size)
        have K5 := Lib.hid (show ∀ (o' : Nat) v, wr.cell? ⟨b9, o', none⟩ = some v → w5.cell? ⟨b9, o', none⟩ = some v from fun o' v hv => (World.cell?_of_block (a := ⟨b9, o', none⟩) (F5.out.block b9 HB9.out (fun e => by have := e.1; have := HLT.out; have := HBL.out; omega))).trans hv)
        clear HDY HDN
        go_wp2_with fail
        refine wp_region_D [11] (fun w' => Below w5.heap.size w5 w') (by kernel_rfl) (bdr w5) (fun hHeld => ?_)
        refine WDt 0 { dst := some 74, op := .move (.tmp 8), type := 25, pos := _, after := #[], guard := none } (v := ?vc0) rfl (by kernel_rfl) (fun _ _ _ h => h) (Or.inl ⟨by rfl, ?hyc0⟩) hHeld ?_
        case hyc0 => (intro wz hSw; (try dsimp only at hSw); go_simp; try with_reducible rfl)
        (try simp only [putz])
        refine WDt 1 { dst := some 75, op := .move (.tmp 0), type := 25, pos := _, after := #[], guard := none } (v := ?vc1) rfl (by kernel_rfl) (fun _ _ _ h => h) (Or.inl ⟨by rfl, ?hyc1⟩) hHeld ?_
        case hyc1 => (intro wz hSw; (try dsimp only at hSw); go_simp; try with_reducible rfl)
        (try simp only [putz])
        refine WDt 2 { dst := some 76, op := .move (.tmp 9), type := 3, pos := _, after := #[], guard := none } (v := ?vc2) rfl (by kernel_rfl) (fun _ _ _ h => h) (Or.inl ⟨by rfl, ?hyc2⟩) hHeld ?_
        case hyc2 => (intro wz hSw; (try dsimp only at hSw); go_simp; try with_reducible rfl)
        (try simp only [putz])
        refine WDt 3 { dst := some 77, op := .indexAddr 25 (.tmp 75) (.tmp 76), type := 0, pos := _, after := #[{ on := 1, ground := .data }, { on := 2, ground := .data }], guard := none } (v := ?vc3) rfl (by kernel_rfl) (fun _ _ _ h => h) (Or.inl ⟨by rfl, ?hyc3⟩) hHeld ?_
        case hyc3 => (intro wz hSw; (try dsimp only at hSw); go_simp; try with_reducible rfl)
        (try simp only [putz])
        refine WDt 4 { dst := some 78, op := .load 27 (.tmp 77), type := 27, pos := _, after := #[{ on := 3, ground := .data }], guard := none } (v := ?vc4) rfl (by kernel_rfl) (fun _ _ _ h => h) (Or.inl ⟨by rfl, ?hyc4⟩) hHeld ?_
        case hyc4 => (intro wz hSw; (try dsimp only at hSw); have z0 := (hSw.cell (p := ⟨b9, _, none⟩) HB5.out).trans (K5.out _ _ P0.out); have z1 := (hSw.cell (p := ⟨b9, _, none⟩) HB5.out).trans (K5.out _ _ P1.out); have z2 := (hSw.cell (p := ⟨b9, _, none⟩) HB5.out).trans (K5.out _ _ P2.out); have z3 := (hSw.cell (p := ⟨b9, _, none⟩) HB5.out).trans (K5.out _ _ P3.out); go_simp; try with_reducible rfl)
        (try simp only [putz])
        refine WDt 5 { dst := some 79, op := .move (.tmp 0), type := 25, pos := _, after := #[], guard := none } (v := ?vc5) rfl (by kernel_rfl) (fun _ _ _ h => h) (Or.inl ⟨by rfl, ?hyc5⟩) hHeld ?_
        case hyc5 => (intro wz hSw; (try dsimp only at hSw); have wj := WJ.out; go_simp; try with_reducible rfl)
        (try simp only [putz])
        refine WDt 6 { dst := some 80, op := .move (.tmp 9), type := 3, pos := _, after := #[], guard := none } (v := ?vc6) rfl (by kernel_rfl) (fun _ _ _ h => h) (Or.inl ⟨by rfl, ?hyc6⟩) hHeld ?_
        case hyc6 => (intro wz hSw; (try dsimp only at hSw); have wj := WJ.out; go_simp; try with_reducible rfl)
        (try simp only [putz])
        refine WDt 7 { dst := some 81, op := .binOp .add 3 (.tmp 80) (.const (.int .i64 1)) 3, type := 3, pos := _, after := #[{ on := 6, ground := .data }], guard := none } (v := ?vc7) rfl (by kernel_rfl) (fun _ _ _ h => h) (Or.inl ⟨by rfl, ?hyc7⟩) hHeld ?_
        case hyc7 => (intro wz hSw; (try dsimp only at hSw); have wj := WJ.out; go_simp; try with_reducible rfl)
        (try simp only [putz])
        refine WDt 8 { dst := some 82, op := .indexAddr 25 (.tmp 79) (.tmp 81), type := 0, pos := _, after := #[{ on := 5, ground := .data }, { on := 7, ground := .data }], guard := none } (v := ?vc8) rfl (by kernel_rfl) (fun _ _ _ h => h) (Or.inl ⟨by rfl, ?hyc8⟩) hHeld ?_
        case hyc8 => (intro wz hSw; (try dsimp only at hSw); have wj := WJ.out; go_simp; try with_reducible rfl)
        (try simp only [putz])
        refine WDt 9 { dst := some 83, op := .load 27 (.tmp 82), type := 27, pos := _, after := #[{ on := 8, ground := .data }], guard := none } (v := ?vc9) rfl (by kernel_rfl) (fun _ _ _ h => h) (Or.inl ⟨by rfl, ?hyc9⟩) hHeld ?_
        case hyc9 => (intro wz hSw; (try dsimp only at hSw); have z0 := (hSw.cell (p := ⟨b9, _, none⟩) HB5.out).trans (K5.out _ _ Q0.out); have z1 := (hSw.cell (p := ⟨b9, _, none⟩) HB5.out).trans (K5.out _ _ Q1.out); have z2 := (hSw.cell (p := ⟨b9, _, none⟩) HB5.out).trans (K5.out _ _ Q2.out); have z3 := (hSw.cell (p := ⟨b9, _, none⟩) HB5.out).trans (K5.out _ _ Q3.out); go_simp; try with_reducible rfl)
        (try simp only [putz])
        refine WD_ready (rs := [10]) (by kernel_rfl) (by simp) ?_
        refine AllD.cons (o := _) rfl (fun K hK => ?_) AllD.nil
        rw [if_pos (by rfl)]
        go_simp
        refine hK.out _ _ ((below_alloc w5 _).drew) (fun hHeld => ?_)
        clear hK K
        (try simp only [putz])
        clear hHeld
        obtain ⟨w7, hw7⟩ : ∃ z, z = (w5.alloc (.cells #[.int .i64 V.k, .string V.nm, .int .i64 V.vr, .slice A1 V.args.length c1, .int .i64 U.k, .string U.nm, .int .i64 U.vr, .slice A2 U.args.length c2] 27)).drew := ⟨_, rfl⟩
        rw [← hw7]
        have N7 : Hid (w7.heap[w5.heap.size]? = some (.cells #[.int .i64 V.k, .string V.nm, .int .i64 V.vr, .slice A1 V.args.length c1, .int .i64 U.k, .string U.nm, .int .i64 U.vr, .slice A2 U.args.length c2] 27 (0, 0))) := Lib.hid (by rw [hw7]; exact heap_alloc_new w5 _)
        have B7 := Lib.hid (show Below w5.heap.size w5 w7 by rw [hw7]; exact (below_alloc w5 _).drew)
        have O7 := Lib.hid (own_bl OW5.out B7.out)
        have Q7 := Lib.hid (show s1 ≤ w7.heap.size by have := B7.out.size; have := SZ5.out; omega)
        have hq7 := Q7.out
        clear hw7
        refine WD_ready (rs := [11]) (by kernel_rfl) (by simp) ?_
        refine AllD.last (o := _) rfl (by kernel_rfl) (fun K hK => ?_) AllD.nil
        refine step_append_lies _ (by rfl) (.tmp 74) (.tmp 84) 25 rfl s1 27 i0 (.agg #[.int .i64 0, .string .empty, .int .i64 0, .slice none 0 0]) 4 56 Tryd.underlying25 hi0 hz0 hz1 hz2 rfl (by decide) (.slice Ad (2 * P.length) cd) (2 * P.length) xs rfl O7.out ⟨w5.heap.size, 0, none⟩ 2 2 (kid2 V A1 c1 U A2 c2) rfl rfl (World.news_of_block (cs := #[.int .i64 V.k, .string V.nm, .int .i64 V.vr, .slice A1 V.args.length c1, .int .i64 U.k, .string U.nm, .int .i64 U.vr, .slice A2 U.args.length c2]) (t := 27) (fr := (0, 0)) N7.out) (kid2_one _ _ _ _ _ _) (by omega) (by unfold maxLen; omega) (by omega) hq7 _ rfl ?_
        intro g cap w8 own8 gr8 at8 hlt8
        refine hK.out _ _ ?_
        clear hK K
        (try simp only [putz])
        have PU := Lib.hid (done_push (w := w) HLT.out S5.out OW5.out KD5.out T1.out T2.out B7.out own8 gr8 at8 hlt8)
        clear own8 gr8 at8 hlt8 O7 N7 B7
        refine WD_takeAny (i := 12) (oi := { dst := some 8, op := .assign (.tmp 85), type := 25, pos := _, after := #[{ on := 11, ground := .data }, { on := 11, ground := .chain }, { on := 0, ground := .phase }, { on := 1, ground := .phase }, { on := 2, ground := .phase }, { on := 3, ground := .phase }, { on := 4, ground := .phase }, { on := 5, ground := .phase }, { on := 6, ground := .phase }, { on := 7, ground := .phase }, { on := 8, ground := .phase }, { on := 9, ground := .phase }, { on := 10, ground := .phase }, { on := 11, ground := .phase }], guard := none }) (v := ?vc12) rfl (by kernel_rfl) (by kernel_rfl) (by kernel_rfl) (by kernel_rfl) (fun _ _ _ h => h) (Or.inl ⟨by rfl, ?hyc12⟩) ?_
        case hyc12 => (intro wz _; go_simp; try with_reducible rfl)
        (try simp only [putz])
        refine WD_done (by kernel_rfl) ?_ _
        go_wp2
        go_roundw
        case rel => exact ⟨j + 2, St2, P ++ [(V, U)], by omega, by rw [List.length_append, List.length_singleton]; omega, by go_num, Lib.hid PU.out.1, HI2, Lib.hid PU.out.2.1, HDY2, Lib.hid (HR5.out.trans PU.out.2.2)⟩
        case measure => simp [intOf]; omega
      · have HDN2 := Lib.hid (HDN.out he)
        have q0 : (er == 0) = false := beq_eq_false_iff_ne.2 he
        clear he HDY HDN
        go_wp2
        go_roundw
        case rel => exact ⟨j + 2, St2, P, by omega, by omega, by go_num, S5, HI2, Lib.hid ⟨xs, OW5.out, KD5.out⟩, HDN2, HR5⟩
        case measure => simp [intOf]; omega
    · have hjli : ¬ (j : Int) + 1 < (l.length : Int) := by omega
      have OKD := Lib.hid HO.out
      have hP14 : P.length ≤ 14 := by omega
      obtain ⟨N, hN⟩ : ∃ N, N = 2 * P.length := ⟨_, rfl⟩
      rw [← hN] at HT HOW HD ⊢
      have HN := Lib.hid hN
      have hN28 : N ≤ 28 := by omega
      have AF1 := Lib.hid (fun W (hW : Below wr.heap.size wr W) => applyF BGA.out HGA.out HI.out.inv (HT.out.later hW) (HIA.out.later (bt HWR.out hW)))
      have AF2 := Lib.hid (fun W (hW : Below wr.heap.size wr W) => applyF BGB.out HGB.out HI.out.inv (HT.out.later hW) (HIB.out.later (bt HWR.out hW)))
      have BU1 := Lib.hid (big_app HI.out 7 a BGA.out (good_shp HGA.out))
      have BU2 := Lib.hid (big_app HI.out 7 b BGB.out (good_shp HGB.out))
      obtain ⟨U1, hU1⟩ : ∃ U, U = apvF St a := ⟨_, rfl⟩
      obtain ⟨U2, hU2⟩ : ∃ U, U = apvF St b := ⟨_, rfl⟩
      have HU1 := Lib.hid hU1
      have HU2 := Lib.hid hU2
      rw [← hU1] at AF1 BU1
      rw [← hU2] at AF2 BU2
      have KAR := Lib.hid (fun W (hW : Below wr.heap.size wr W) => KA.out W (bt (FB.out _ HR.out) hW))
      have KBR := Lib.hid (fun W (hW : Below wr.heap.size wr W) => KB.out W (bt (FB.out _ HR.out) hW))
      clear HL hU1 hU2 hN HO
      go_wp2_with fail
      rename_i K hK
      refine Code.wp_mono (Q := Exit.then (fun a' w' => ∃ X Y A1 c1 A2 c2 t86 t87 t88 t89 t90 t91, a' = ⟨#[.slice A l.length c, .agg #[.int .i64 a.k, .string a.nm, .int .i64 a.vr, .slice Aa a.args.length ca], .agg #[.int .i64 b.k, .string b.nm, .int .i64 b.vr, .slice Ab b.args.length cb], undef, .pointer (some ⟨w.heap.size, 0, none⟩), .pointer (some ⟨w.heap.size + 1, 0, none⟩), u6, .pointer (some ⟨s1, 0, none⟩), .slice Ad N cd, .int .i64 ↑j, .pointer (some ⟨X, 0, none⟩), .pointer (some ⟨Y, 0, none⟩), undef, undef, .bool true, .bool false, .slice A l.length c, .int .i64 ↑l.length, .bool false, .bool false, .agg #[.int .i64 a.k, .string a.nm, .int .i64 a.vr, .slice Aa a.args.length ca], .bool true, .bool false, .bool false, .bool false, .agg #[.int .i64 b.k, .string b.nm, .int .i64 b.vr, .slice Ab b.args.length cb], .bool true, .bool false, .bool false, .bool false, .agg #[.int .i64 a.k, .string a.nm, .int .i64 a.vr, .slice Aa a.args.length ca], .bool true, .bool false, .bool false, .bool false, .agg #[.int .i64 b.k, .string b.nm, .int .i64 b.vr, .slice Ab b.args.length cb], .bool true, .bool false, .bool false, .pointer (some ⟨s1, 0, none⟩), .int .i64 ↑j, .int .i64 (↑j + 1), .slice A l.length c, .int .i64 ↑l.length, .bool false, u45, u46, u47, u48, u49, u50, u51, u52, u53, u54, u55, u56, u57, u58, u59, u60, u61, u62, u63, u64, u65, u66, u67, u68, u69, u70, u71, u72, u73, u74, u75, u76, u77, u78, u79, u80, u81, u82, u83, u84, u85, t86, t87, t88, t89, t90, t91, undef, undef, undef, undef, undef, undef, undef, undef, undef, undef, undef, undef, undef, undef, undef, undef, undef, undef, undef, undef, undef, undef, undef, undef, undef, undef, undef, undef, undef, undef, undef, undef, undef, undef, undef, undef, undef, undef, undef, undef, undef, undef, undef, undef, undef, undef, undef, undef, undef, undef, undef, undef, undef, undef, undef, undef, undef, undef, undef, undef, undef, undef, undef, undef, undef], []⟩ ∧ R14 wr w' U1 U2 X Y A1 c1 A2 c2) (fun _ _ _ => False)) ?rest ?_
      case rest =>
        intro e a' wJ hq
        cases e
        case normal =>
          obtain ⟨X, Y, A1, c1, A2, c2, t86, t87, t88, t89, t90, t91, rfl, HJ⟩ := hq
          show K _ _
          refine hK _ _ ?_
          clear hK K
          have HJH := Lib.hid HJ
          have OWQ := Lib.hid (show ∀ q, PrD (.slice Ad N cd) q → q < wr.heap.size from fun q hq => (HOW.out.lt q hq).2)
          obtain ⟨P3, hP3⟩ : ∃ P3 : Nat → Prop, P3 = fun q => PrD (.slice Ad N cd) q ∨ (wr.heap.size ≤ q ∧ q < wJ.heap.size) := ⟨_, rfl⟩
          have SJ := Lib.hid (show SubS wJ P3 s1 s1 0 St by rw [hP3]; exact HT.out.swap (Frm.of_below HJ.bel (Nat.le_refl _) _) (fun q hq => hq.elim (fun h => ⟨Nat.lt_of_lt_of_le (OWQ.out q h) HJ.bel.size, .inl h⟩) (fun h => ⟨h.2, .inr h.1⟩)))
          have P3A := Lib.hid (show ∀ q, PrD (.slice Ad N cd) q → P3 q by rw [hP3]; exact fun q h => .inl h)
          have P3B := Lib.hid (show ∀ q, wr.heap.size ≤ q → q < wJ.heap.size → P3 q by rw [hP3]; exact fun q h1 h2 => .inr ⟨h1, h2⟩)
          have HRJ := Lib.hid (show Frm w6 wJ (fun q => s1 ≤ q) from HR.out.trans (Frm.of_below HJ.bel (Nat.le_refl _) _))
          have BJ := Lib.hid (FB.out _ HRJ.out)
          have ZJ := Lib.hid (show s1 ≤ wJ.heap.size by have := HRJ.out.size; have := L6.out; omega)
          have UNJ := Lib.hid (unifyS (w := wJ) HI.out.inv SJ.out ZJ.out BGA.out BGB.out (HIA.out.later (FW.out _ HRJ.out)) (HIB.out.later (FW.out _ HRJ.out)))
          have HI2 := Lib.hid (uniG_inv2 HI.out (a := a) (b := b) ⟨_, BGA.out⟩ ⟨_, BGB.out⟩)
          have HSAME := Lib.hid (fun he : (uniG St a b).1 ≠ 0 => app_congr ((uniG_inv HI.out.inv a b).2 he))
          have HONE := Lib.hid (fun he : (uniG St a b).1 = 0 => uniG_one HI.out (a := a) (b := b) ⟨_, BGA.out⟩ ⟨_, BGB.out⟩ he)
          obtain ⟨⟨er, St2⟩, hq⟩ : ∃ q, q = uniG St a b := ⟨_, rfl⟩
          rw [← hq] at UNJ HI2 HSAME HONE
          obtain ⟨x0, x1, x2, x3⟩ := KA.out _ BJ.out
          obtain ⟨y0, y1, y2, y3⟩ := KB.out _ BJ.out
          clear hq hP3 HJ
          go_wp2_with fail
          refine UNJ.out.mono ?_; rintro e wF ⟨rfl, sF, fF⟩
          have SF := Lib.hid sF
          have FF := Lib.hid fF
          clear sF fF UNJ x0 x1 x2 x3 y0 y1 y2 y3
          have HRF := Lib.hid (show Frm w6 wF (fun q => s1 ≤ q) from HRJ.out.trans (FF.out.mono (fun q _ hq => hq.1)))
          have BWF := Lib.hid (FW.out _ HRF.out)
          have BBF := Lib.hid (FB.out _ HRF.out)
          have KAF := Lib.hid (fun W (hW : Below wF.heap.size wF W) => KA.out W (bt BBF.out hW))
          have KBF := Lib.hid (fun W (hW : Below wF.heap.size wF W) => KB.out W (bt BBF.out hW))
          have XF := Lib.hid ((FF.out.block X (Array.getElem?_eq_some_iff.1 HJH.out.x).1 (fun e => e.2 (P3B.out X HJH.out.xl (Array.getElem?_eq_some_iff.1 HJH.out.x).1))).trans HJH.out.x)
          have YF := Lib.hid ((FF.out.block Y (Array.getElem?_eq_some_iff.1 HJH.out.y).1 (fun e => e.2 (P3B.out Y HJH.out.yl (Array.getElem?_eq_some_iff.1 HJH.out.y).1))).trans HJH.out.y)
          have KXF := Lib.hid (fun W (hW : Below wF.heap.size wF W) => cells4 ((hW.block X (Array.getElem?_eq_some_iff.1 XF.out).1).trans XF.out))
          have KYF := Lib.hid (fun W (hW : Below wF.heap.size wF W) => cells4 ((hW.block Y (Array.getElem?_eq_some_iff.1 YF.out).1).trans YF.out))
          have RX := Lib.hid (HJH.out.rx.move (w' := wF) (P' := any0) (fun q hq hp => ⟨FF.out.block q hq (fun e => e.2 (P3B.out q hp hq)), trivial⟩) FF.out.size)
          have RY := Lib.hid (HJH.out.ry.move (w' := wF) (P' := any0) (fun q hq hp => ⟨FF.out.block q hq (fun e => e.2 (P3B.out q hp hq)), trivial⟩) FF.out.size)
          have DF := Lib.hid ((HD.out.later HJH.out.bel).frm FF.out (fun q hq e => by have := e.1; have := HLT.out; omega) (fun q hq e => e.2 (P3A.out q hq)))
          have G1 := Lib.hid (fun W (hW : Below wF.heap.size wF W) => applyF BGA.out HGA.out HI2.out.inv (SF.out.later hW) (HIA.out.later (bt BWF.out hW)))
          have G2 := Lib.hid (fun W (hW : Below wF.heap.size wF W) => applyF BGB.out HGB.out HI2.out.inv (SF.out.later hW) (HIB.out.later (bt BWF.out hW)))
          clear SJ AF1 AF2 KAR KBR
          by_cases he : er = 0
          · subst he
            have HO2 := Lib.hid (show DOk St2 P from fun p hp => by
              obtain ⟨g1, g2, b1, b2, e⟩ := OKD.out p hp
              exact ⟨g1, g2, b1, b2, (HONE.out rfl).1 _ _ (good_shp g1) (good_shp g2) e⟩)
            have EAB := (HONE.out rfl).2
            obtain ⟨X2, hX2⟩ : ∃ z, z = apvF St2 a := ⟨_, rfl⟩
            have BX2 := Lib.hid (show bigT 507 X2 = false by rw [hX2]; exact big_app HI2.out 7 a BGA.out (good_shp HGA.out))
            have IDM := Lib.hid (show apvF St2 X2 = X2 by
              obtain ⟨rk, hr⟩ := HI2.out.inv.ok
              rw [hX2]; exact app_app hr hr (fun _ _ => rfl) a (good_shp HGA.out))
            rw [← EAB, ← hX2] at G2
            rw [← hX2] at G1
            have SM := Lib.hid (fun W v u (h : TIn W any0 X2 v) (h2 : TIn W any0 X2 u) => same_true (d := 507) (by omega) BX2.out h h2)
            have GX := Lib.hid (fun W v (h : TIn W any0 X2 v) => good_big BX2.out h)
            have GS := Lib.hid (fun (W : World) (hW : Below wF.heap.size wF W) (V : TT) (A c) (hb : bigT 507 V = false) (hg : goodT V = true) (hr : TRow W any0 A V.args) => applyF (v := tv V A c) hb hg HI2.out.inv (SF.out.later hW) ⟨A, c, rfl, hr⟩)
            have HROW := Lib.hid (show TRow wF any0 Ad (flatP P) by obtain ⟨A', c', e, h⟩ := DF.out.row; injection e with e _ _; rw [e]; exact h)
            clear HONE HSAME EAB hX2 OKD HJH XF YF KXF KYF RX RY FF
            go_wp2
            go_loopw [13] (fun i wr => ∃ (k j : Nat), k ≤ P.length ∧ j = 2 * k ∧ i = .int .i64 j ∧ Hid (Below wF.heap.size wF wr)) (fun i _ => N + 2 - (intOf i).toNat)
            case atStart => exact ⟨0, 0, by omega, by omega, by first | rfl | trivial, Lib.hid (Below.refl _ _)⟩
            case round =>
              obtain ⟨k, j2, hk, hjk, rfl, HL2⟩ := hrel
              have HJK := Lib.hid hjk
              by_cases hkl : k < P.length
              · have hjn : j2 + 1 < (flatP P).length := by rw [flatP_len]; omega
                have hjn0 : j2 < (flatP P).length := by omega
                have hn := HN.out
                have hjli : (j2 : Int) + 1 < (N : Int) := by omega
                have hj0i : (j2 : Int) < (N : Int) := by omega
                have hj1 : (0 : Int) ≤ (j2 : Int) + 1 := by omega
                clear hjk
                have WJ2 := Lib.hid (show IntKind.i64.wrap ((j2 : Int) + 1) = (j2 : Int) + 1 from IntWalk.i64_in _ (by omega))
                obtain ⟨b8, o8, rfl, hb8, hr8⟩ := HROW.out.at (by omega)
                obtain ⟨A7, c7, p0, p1, p2, p3, a7, d7, e7, hin1⟩ := hr8 wr HL2.out j2 hjn0
                obtain ⟨A8, c8, r0, r1, r2, r3, a8, d8, e8, hin2⟩ := hr8 wr HL2.out (j2 + 1) hjn
                obtain ⟨rfl, rfl⟩ := tv_inj e7
                obtain ⟨rfl, rfl⟩ := tv_inj e8
                obtain ⟨hE1, hE2⟩ := flatP_at2 P k j2 HJK.out hkl hjn0 hjn
                rw [hE1] at p0 p1 p2 p3 hin1
                rw [hE2] at r0 r1 r2 r3 hin2
                obtain ⟨g1, g2, k1, k2, e9⟩ := HO2.out P[k] (List.getElem_mem hkl)
                have HG1 := Lib.hid (And.intro (big_mono (d' := 507) (by omega) P[k].1 k1) g1)
                have HG2 := Lib.hid (And.intro (big_mono (d' := 507) (by omega) P[k].2 k2) g2)
                have HBZ := Lib.hid (big_app HI2.out 7 P[k].1 k1 (good_shp g1))
                obtain ⟨V1, hV1⟩ : ∃ V, V = P[k].1 := ⟨_, rfl⟩
                obtain ⟨V2, hV2⟩ : ∃ V, V = P[k].2 := ⟨_, rfl⟩
                rw [← hV1] at p0 p1 p2 p3 hin1 e9 HG1 HBZ
                rw [← hV2] at r0 r1 r2 r3 hin2 e9 HG2
                have GV1 := Lib.hid (fun W (hW : Below wr.heap.size wr W) => GS.out W (bt HL2.out hW) V1 A7 c7 HG1.out.1 HG1.out.2 (hin1.later hW))
                have GV2 := Lib.hid (fun W (hW : Below wr.heap.size wr W) => GS.out W (bt HL2.out hW) V2 A8 c8 HG2.out.1 HG2.out.2 (hin2.later hW))
                obtain ⟨Z, hZ⟩ : ∃ z, z = apvF St2 V1 := ⟨_, rfl⟩
                rw [← e9, ← hZ] at GV2
                rw [← hZ] at GV1 HBZ
                have SMZ := Lib.hid (fun W v u (h : TIn W any0 Z v) (h2 : TIn W any0 Z u) => same_true (d := 507) (by omega) HBZ.out h h2)
                unfold tv at GV1 GV2
                have P0 := Lib.hid p0; have P1 := Lib.hid p1; have P2 := Lib.hid p2; have P3 := Lib.hid p3
                have Q0 := Lib.hid r0; have Q1 := Lib.hid r1; have Q2 := Lib.hid r2; have Q3 := Lib.hid r3
                have HB8 := Lib.hid (show b8 < wr.heap.size from Nat.lt_of_lt_of_le hb8 HL2.out.size)
                clear p0 p1 p2 p3 r0 r1 r2 r3 hin1 hin2 hr8 hb8 hE1 hE2 hV1 hV2 e7 e8 g1 g2 k1 k2 e9 hZ hn GS
                go_wp2_with fail
                refine wp_region_D [] (fun w' => Below wr.heap.size wr w') (by kernel_rfl) (bdr wr) (fun hHeld => ?_)
                refine WDt 0 { dst := some 117, op := .move (.tmp 7), type := 23, pos := _, after := #[], guard := none } (v := ?vg0) rfl (by kernel_rfl) (fun _ _ _ h => h) (Or.inl ⟨by rfl, ?hyg0⟩) hHeld ?_
                case hyg0 => (intro wz hSw; (try dsimp only at hSw); go_simp; try with_reducible rfl)
                (try simp only [putz])
                refine WDt 1 { dst := some 118, op := .move (.tmp 8), type := 25, pos := _, after := #[], guard := none } (v := ?vg1) rfl (by kernel_rfl) (fun _ _ _ h => h) (Or.inl ⟨by rfl, ?hyg1⟩) hHeld ?_
                case hyg1 => (intro wz hSw; (try dsimp only at hSw); go_simp; try with_reducible rfl)
                (try simp only [putz])
                refine WDt 2 { dst := some 119, op := .move (.tmp 13), type := 3, pos := _, after := #[], guard := none } (v := ?vg2) rfl (by kernel_rfl) (fun _ _ _ h => h) (Or.inl ⟨by rfl, ?hyg2⟩) hHeld ?_
                case hyg2 => (intro wz hSw; (try dsimp only at hSw); go_simp; try with_reducible rfl)
                (try simp only [putz])
                refine WDt 3 { dst := some 120, op := .indexAddr 25 (.tmp 118) (.tmp 119), type := 0, pos := _, after := #[{ on := 1, ground := .data }, { on := 2, ground := .data }], guard := none } (v := ?vg3) rfl (by kernel_rfl) (fun _ _ _ h => h) (Or.inl ⟨by rfl, ?hyg3⟩) hHeld ?_
                case hyg3 => (intro wz hSw; (try dsimp only at hSw); go_simp; try with_reducible rfl)
                (try simp only [putz])
                refine WDt 4 { dst := some 121, op := .load 27 (.tmp 120), type := 27, pos := _, after := #[{ on := 3, ground := .data }], guard := none } (v := ?vg4) rfl (by kernel_rfl) (fun _ _ _ h => h) (Or.inl ⟨by rfl, ?hyg4⟩) hHeld ?_
                case hyg4 => (intro wz hSw; (try dsimp only at hSw); have z0 := (hSw.cell (p := ⟨b8, _, none⟩) HB8.out).trans P0.out; have z1 := (hSw.cell (p := ⟨b8, _, none⟩) HB8.out).trans P1.out; have z2 := (hSw.cell (p := ⟨b8, _, none⟩) HB8.out).trans P2.out; have z3 := (hSw.cell (p := ⟨b8, _, none⟩) HB8.out).trans P3.out; go_simp; try with_reducible rfl)
                (try simp only [putz])
                refine WDt 6 { dst := some 123, op := .move (.tmp 7), type := 23, pos := _, after := #[], guard := none } (v := ?vg6) rfl (by kernel_rfl) (fun _ _ _ h => h) (Or.inl ⟨by rfl, ?hyg6⟩) hHeld ?_
                case hyg6 => (intro wz hSw; (try dsimp only at hSw); have wj := WJ2.out; go_simp; try with_reducible rfl)
                (try simp only [putz])
                refine WDt 7 { dst := some 124, op := .move (.tmp 8), type := 25, pos := _, after := #[], guard := none } (v := ?vg7) rfl (by kernel_rfl) (fun _ _ _ h => h) (Or.inl ⟨by rfl, ?hyg7⟩) hHeld ?_
                case hyg7 => (intro wz hSw; (try dsimp only at hSw); have wj := WJ2.out; go_simp; try with_reducible rfl)
                (try simp only [putz])
                refine WDt 8 { dst := some 125, op := .move (.tmp 13), type := 3, pos := _, after := #[], guard := none } (v := ?vg8) rfl (by kernel_rfl) (fun _ _ _ h => h) (Or.inl ⟨by rfl, ?hyg8⟩) hHeld ?_
                case hyg8 => (intro wz hSw; (try dsimp only at hSw); have wj := WJ2.out; go_simp; try with_reducible rfl)
                (try simp only [putz])
                refine WDt 9 { dst := some 126, op := .binOp .add 3 (.tmp 125) (.const (.int .i64 1)) 3, type := 3, pos := _, after := #[{ on := 8, ground := .data }], guard := none } (v := ?vg9) rfl (by kernel_rfl) (fun _ _ _ h => h) (Or.inl ⟨by rfl, ?hyg9⟩) hHeld ?_
                case hyg9 => (intro wz hSw; (try dsimp only at hSw); have wj := WJ2.out; go_simp; try with_reducible rfl)
                (try simp only [putz])
                refine WDt 10 { dst := some 127, op := .indexAddr 25 (.tmp 124) (.tmp 126), type := 0, pos := _, after := #[{ on := 7, ground := .data }, { on := 9, ground := .data }], guard := none } (v := ?vg10) rfl (by kernel_rfl) (fun _ _ _ h => h) (Or.inl ⟨by rfl, ?hyg10⟩) hHeld ?_
                case hyg10 => (intro wz hSw; (try dsimp only at hSw); have wj := WJ2.out; go_simp; try with_reducible rfl)
                (try simp only [putz])
                refine WDt 11 { dst := some 128, op := .load 27 (.tmp 127), type := 27, pos := _, after := #[{ on := 10, ground := .data }], guard := none } (v := ?vg11) rfl (by kernel_rfl) (fun _ _ _ h => h) (Or.inl ⟨by rfl, ?hyg11⟩) hHeld ?_
                case hyg11 => (intro wz hSw; (try dsimp only at hSw); have z0 := (hSw.cell (p := ⟨b8, _, none⟩) HB8.out).trans Q0.out; have z1 := (hSw.cell (p := ⟨b8, _, none⟩) HB8.out).trans Q1.out; have z2 := (hSw.cell (p := ⟨b8, _, none⟩) HB8.out).trans Q2.out; have z3 := (hSw.cell (p := ⟨b8, _, none⟩) HB8.out).trans Q3.out; go_simp; try with_reducible rfl)
                (try simp only [putz])
                refine WD_ready (rs := [5]) (by kernel_rfl) (by simp) ?_
                refine AllD.cons (o := _) rfl (fun K hK => ?_) AllD.nil
                rw [if_pos (by rfl)]
                go_simp
                refine (GV1.out _ hHeld).mono ?_; rintro e wa ⟨A5, c5, rfl, r9, b9⟩
                unfold tv
                try go_wp2_with fail
                refine hK.out _ _ (bt hHeld b9) (fun hHeld => ?_)
                clear hK K
                (try simp only [putz])
                have R5 := Lib.hid r9
                clear r9 b9
                refine WD_ready (rs := [12]) (by kernel_rfl) (by simp) ?_
                refine AllD.cons (o := _) rfl (fun K hK => ?_) AllD.nil
                rw [if_pos (by rfl)]
                go_simp
                refine (GV2.out _ hHeld).mono ?_; rintro e wc ⟨A6, c6, rfl, r9, b9⟩
                unfold tv
                try go_wp2_with fail
                refine hK.out _ _ (bt hHeld b9) (fun hHeld => ?_)
                clear hK K
                (try simp only [putz])
                have R6 := Lib.hid r9
                have R5x := Lib.hid (TRow.later (R5.out.weak (P' := any0) (fun _ _ _ => trivial)) b9)
                clear r9 b9
                refine WD_ready (rs := [13]) (by kernel_rfl) (by simp) ?_
                refine AllD.cons (o := _) rfl (fun K hK => ?_) AllD.nil
                rw [if_pos (by rfl)]
                go_simp
                refine (SMZ.out _ _ _ ⟨A5, c5, rfl, R5x.out⟩ ⟨A6, c6, rfl, R6.out.weak (fun _ _ _ => trivial)⟩).mono ?_; rintro e wd ⟨rfl, b9⟩
                try go_wp2_with fail
                refine hK.out _ _ (bt hHeld b9) (fun hHeld => ?_)
                clear hK K
                (try simp only [putz])
                clear b9
                refine WDt 14 { dst := some 131, op := .unOp .not 4 (.tmp 130), type := 4, pos := _, after := #[{ on := 13, ground := .data }], guard := none } (v := ?vg14) rfl (by kernel_rfl) (fun _ _ _ h => h) (Or.inl ⟨by rfl, ?hyg14⟩) hHeld ?_
                case hyg14 => (intro wz hSw; (try dsimp only at hSw); go_simp; try with_reducible rfl)
                (try simp only [putz])
                have BD := Lib.hid (bt HL2.out hHeld)
                clear hHeld
                refine WD_done (by kernel_rfl) ?_ _
                go_wp2
                go_roundw
                case rel => exact ⟨k + 1, j2 + 2, by omega, by have := HJK.out; omega, by go_num, BD⟩
                case measure => simp [intOf]; omega
              · have hn := HN.out
                have hjli : ¬ (j2 : Int) + 1 < (N : Int) := by omega
                have hj28 : j2 ≤ 28 := by omega
                clear hjk
                have BL := Lib.hid (bt BWF.out HL2.out)
                have KAL := Lib.hid (fun W (hW : Below wr.heap.size wr W) => KAF.out W (bt HL2.out hW))
                have KBL := Lib.hid (fun W (hW : Below wr.heap.size wr W) => KBF.out W (bt HL2.out hW))
                have G1L := Lib.hid (fun W (hW : Below wr.heap.size wr W) => G1.out W (bt HL2.out hW))
                have G2L := Lib.hid (fun W (hW : Below wr.heap.size wr W) => G2.out W (bt HL2.out hW))
                have GSX := Lib.hid (fun (W : World) (hW : Below wr.heap.size wr W) (A c) (hg : goodT X2 = true) (hr : TRow W any0 A X2.args) => GS.out W (bt HL2.out hW) X2 A c BX2.out hg hr)
                rw [IDM.out] at GSX
                clear hn G1 G2 GS KAF KBF HROW HO2
                cases hgx : goodT X2 with
                | true =>
                  rw [hgx] at GX
                  have HGX := Lib.hid hgx
                  clear hgx
                  as_aux_lemma =>
                  go_wp2_with fail
                  refine wp_region_D [] (fun w' => Below wr.heap.size wr w') (by kernel_rfl) (bdr wr) (fun hHeld => ?_)
                  refine WDt 0 { dst := some 132, op := .move (.tmp 7), type := 23, pos := _, after := #[], guard := none } (v := ?vh0) rfl (by kernel_rfl) (fun _ _ _ h => h) (Or.inl ⟨by rfl, ?hyh0⟩) hHeld ?_
                  case hyh0 => (intro wz hSw; (try dsimp only at hSw); go_simp; try with_reducible rfl)
                  (try simp only [putz])
                  refine WDt 1 { dst := some 133, op := .load 27 (.tmp 4), type := 27, pos := _, after := #[], guard := none } (v := ?vh1) rfl (by kernel_rfl) (fun _ _ _ h => h) (Or.inl ⟨by rfl, ?hyh1⟩) hHeld ?_
                  case hyh1 => (intro wz hSw; (try dsimp only at hSw); obtain ⟨z0, z1, z2, z3⟩ := KAL.out _ hSw; go_simp; try with_reducible rfl)
                  (try simp only [putz])
                  refine WDt 3 { dst := some 135, op := .move (.tmp 7), type := 23, pos := _, after := #[], guard := none } (v := ?vh3) rfl (by kernel_rfl) (fun _ _ _ h => h) (Or.inl ⟨by rfl, ?hyh3⟩) hHeld ?_
                  case hyh3 => (intro wz hSw; (try dsimp only at hSw); go_simp; try with_reducible rfl)
                  (try simp only [putz])
                  refine WDt 4 { dst := some 136, op := .load 27 (.tmp 5), type := 27, pos := _, after := #[], guard := none } (v := ?vh4) rfl (by kernel_rfl) (fun _ _ _ h => h) (Or.inl ⟨by rfl, ?hyh4⟩) hHeld ?_
                  case hyh4 => (intro wz hSw; (try dsimp only at hSw); obtain ⟨z0, z1, z2, z3⟩ := KBL.out _ hSw; go_simp; try with_reducible rfl)
                  (try simp only [putz])
                  refine WD_ready (rs := [2]) (by kernel_rfl) (by simp) ?_
                  refine AllD.cons (o := _) rfl (fun K hK => ?_) AllD.nil
                  rw [if_pos (by rfl)]
                  go_simp
                  refine (G1L.out _ hHeld).mono ?_; rintro e wa ⟨A5, c5, rfl, r9, b9⟩
                  unfold tv
                  try go_wp2_with fail
                  refine hK.out _ _ (bt hHeld b9) (fun hHeld => ?_)
                  clear hK K
                  (try simp only [putz])
                  have R5 := Lib.hid r9
                  clear r9 b9
                  refine WD_ready (rs := [5]) (by kernel_rfl) (by simp) ?_
                  refine AllD.cons (o := _) rfl (fun K hK => ?_) AllD.nil
                  rw [if_pos (by rfl)]
                  go_simp
                  refine (G2L.out _ hHeld).mono ?_; rintro e wb ⟨A6, c6, rfl, r9, b9⟩
                  unfold tv
                  try go_wp2_with fail
                  refine hK.out _ _ (bt hHeld b9) (fun hHeld => ?_)
                  clear hK K
                  (try simp only [putz])
                  have R6 := Lib.hid r9
                  have R5x := Lib.hid (TRow.later (R5.out.weak (P' := any0) (fun _ _ _ => trivial)) b9)
                  clear r9 b9
                  refine WD_ready (rs := [6]) (by kernel_rfl) (by simp) ?_
                  refine AllD.cons (o := _) rfl (fun K hK => ?_) AllD.nil
                  rw [if_pos (by rfl)]
                  go_simp
                  refine (SM.out _ _ _ ⟨A5, c5, rfl, R5x.out⟩ ⟨A6, c6, rfl, R6.out.weak (fun _ _ _ => trivial)⟩).mono ?_; rintro e wc ⟨rfl, b9⟩
                  try go_wp2_with fail
                  refine hK.out _ _ (bt hHeld b9) (fun hHeld => ?_)
                  clear hK K
                  (try simp only [putz])
                  clear b9
                  refine WDt 7 { dst := some 139, op := .move (.tmp 138), type := 4, pos := _, after := #[{ on := 6, ground := .data }, { on := 6, ground := .chain }], guard := none } (v := ?vh7) rfl (by kernel_rfl) (fun _ _ _ h => h) (Or.inl ⟨by rfl, ?hyh7⟩) hHeld ?_
                  case hyh7 => (intro wz hSw; (try dsimp only at hSw); go_simp; try with_reducible rfl)
                  (try simp only [putz])
                  refine WDt 8 { dst := some 140, op := .move (.tmp 7), type := 23, pos := _, after := #[{ on := 7, ground := .guard }], guard := some (7, true) } (v := ?vh8) rfl (by kernel_rfl) (fun _ _ _ h => h) (Or.inl ⟨by rfl, ?hyh8⟩) hHeld ?_
                  case hyh8 => (intro wz hSw; (try dsimp only at hSw); go_simp; try with_reducible rfl)
                  (try simp only [putz])
                  refine WDt 9 { dst := some 141, op := .load 27 (.tmp 4), type := 27, pos := _, after := #[{ on := 7, ground := .guard }], guard := some (7, true) } (v := ?vh9) rfl (by kernel_rfl) (fun _ _ _ h => h) (Or.inl ⟨by rfl, ?hyh9⟩) hHeld ?_
                  case hyh9 => (intro wz hSw; (try dsimp only at hSw); obtain ⟨z0, z1, z2, z3⟩ := KAL.out _ hSw; go_simp; try with_reducible rfl)
                  (try simp only [putz])
                  refine WD_ready (rs := [10]) (by kernel_rfl) (by simp) ?_
                  refine AllD.cons (o := _) rfl (fun K hK => ?_) AllD.nil
                  rw [if_pos (by rfl)]
                  go_simp
                  refine (G1L.out _ hHeld).mono ?_; rintro e wd ⟨A7, c7, rfl, r9, b9⟩
                  unfold tv
                  try go_wp2_with fail
                  refine hK.out _ _ (bt hHeld b9) (fun hHeld => ?_)
                  clear hK K
                  (try simp only [putz])
                  have R7 := Lib.hid r9
                  clear r9 b9
                  refine WD_ready (rs := [11]) (by kernel_rfl) (by simp) ?_
                  refine AllD.cons (o := _) rfl (fun K hK => ?_) AllD.nil
                  rw [if_pos (by rfl)]
                  go_simp
                  refine (GX.out _ _ ⟨A7, c7, rfl, R7.out.weak (fun _ _ _ => trivial)⟩).mono ?_; rintro e we ⟨rfl, b9⟩
                  try go_wp2_with fail
                  refine hK.out _ _ (bt hHeld b9) (fun hHeld => ?_)
                  clear hK K
                  (try simp only [putz])
                  clear b9
                  refine WDt 12 { dst := some 144, op := .unOp .not 4 (.tmp 143), type := 4, pos := _, after := #[{ on := 11, ground := .data }, { on := 7, ground := .guard }], guard := some (7, true) } (v := ?vh12) rfl (by kernel_rfl) (fun _ _ _ h => h) (Or.inl ⟨by rfl, ?hyh12⟩) hHeld ?_
                  case hyh12 => (intro wz hSw; (try dsimp only at hSw); go_simp; try with_reducible rfl)
                  (try simp only [putz])
                  refine WDt 13 { dst := some 145, op := .move (.tmp 144), type := 4, pos := _, after := #[{ on := 12, ground := .data }, { on := 11, ground := .chain }, { on := 7, ground := .guard }], guard := some (7, true) } (v := ?vh13) rfl (by kernel_rfl) (fun _ _ _ h => h) (Or.inl ⟨by rfl, ?hyh13⟩) hHeld ?_
                  case hyh13 => (intro wz hSw; (try dsimp only at hSw); go_simp; try with_reducible rfl)
                  (try simp only [putz])
                  refine WDt 14 { dst := some 146, op := .move (.tmp 7), type := 23, pos := _, after := #[{ on := 13, ground := .guard }], guard := some (13, false) } (v := ?vh14) rfl (by kernel_rfl) (fun _ _ _ h => h) (Or.inl ⟨by rfl, ?hyh14⟩) hHeld ?_
                  case hyh14 => (intro wz hSw; (try dsimp only at hSw); go_simp; try with_reducible rfl)
                  (try simp only [putz])
                  refine WDt 15 { dst := some 147, op := .move (.tmp 7), type := 23, pos := _, after := #[{ on := 13, ground := .guard }], guard := some (13, false) } (v := ?vh15) rfl (by kernel_rfl) (fun _ _ _ h => h) (Or.inl ⟨by rfl, ?hyh15⟩) hHeld ?_
                  case hyh15 => (intro wz hSw; (try dsimp only at hSw); go_simp; try with_reducible rfl)
                  (try simp only [putz])
                  refine WDt 16 { dst := some 148, op := .load 27 (.tmp 4), type := 27, pos := _, after := #[{ on := 13, ground := .guard }], guard := some (13, false) } (v := ?vh16) rfl (by kernel_rfl) (fun _ _ _ h => h) (Or.inl ⟨by rfl, ?hyh16⟩) hHeld ?_
                  case hyh16 => (intro wz hSw; (try dsimp only at hSw); obtain ⟨z0, z1, z2, z3⟩ := KAL.out _ hSw; go_simp; try with_reducible rfl)
                  (try simp only [putz])
                  refine WDt 19 { dst := some 151, op := .move (.tmp 7), type := 23, pos := _, after := #[{ on := 13, ground := .guard }], guard := some (13, false) } (v := ?vh19) rfl (by kernel_rfl) (fun _ _ _ h => h) (Or.inl ⟨by rfl, ?hyh19⟩) hHeld ?_
                  case hyh19 => (intro wz hSw; (try dsimp only at hSw); go_simp; try with_reducible rfl)
                  (try simp only [putz])
                  refine WDt 20 { dst := some 152, op := .load 27 (.tmp 4), type := 27, pos := _, after := #[{ on := 13, ground := .guard }], guard := some (13, false) } (v := ?vh20) rfl (by kernel_rfl) (fun _ _ _ h => h) (Or.inl ⟨by rfl, ?hyh20⟩) hHeld ?_
                  case hyh20 => (intro wz hSw; (try dsimp only at hSw); obtain ⟨z0, z1, z2, z3⟩ := KAL.out _ hSw; go_simp; try with_reducible rfl)
                  (try simp only [putz])
                  refine WD_ready (rs := [17]) (by kernel_rfl) (by simp) ?_
                  refine AllD.cons (o := _) rfl (fun K hK => ?_) AllD.nil
                  rw [if_pos (by rfl)]
                  go_simp
                  refine (G1L.out _ hHeld).mono ?_; rintro e wf ⟨A8, c8, rfl, r9, b9⟩
                  unfold tv
                  try go_wp2_with fail
                  refine hK.out _ _ (bt hHeld b9) (fun hHeld => ?_)
                  clear hK K
                  (try simp only [putz])
                  have R8 := Lib.hid r9
                  clear r9 b9
                  refine WD_ready (rs := [18]) (by kernel_rfl) (by simp) ?_
                  refine AllD.cons (o := _) rfl (fun K hK => ?_) AllD.nil
                  rw [if_pos (by rfl)]
                  go_simp
                  refine (GSX.out _ hHeld A8 c8 HGX.out (R8.out.weak (fun _ _ _ => trivial))).mono ?_; rintro e wg ⟨A9, c9, rfl, r9, b9⟩
                  unfold tv
                  try go_wp2_with fail
                  refine hK.out _ _ (bt hHeld b9) (fun hHeld => ?_)
                  clear hK K
                  (try simp only [putz])
                  have R9 := Lib.hid r9
                  clear r9 b9
                  refine WD_ready (rs := [21]) (by kernel_rfl) (by simp) ?_
                  refine AllD.cons (o := _) rfl (fun K hK => ?_) AllD.nil
                  rw [if_pos (by rfl)]
                  go_simp
                  refine (G1L.out _ hHeld).mono ?_; rintro e wh ⟨Ax, cx, rfl, r9, b9⟩
                  unfold tv
                  try go_wp2_with fail
                  refine hK.out _ _ (bt hHeld b9) (fun hHeld => ?_)
                  clear hK K
                  (try simp only [putz])
                  have Rx := Lib.hid r9
                  have R9x := Lib.hid (TRow.later (R9.out.weak (P' := any0) (fun _ _ _ => trivial)) b9)
                  clear r9 b9
                  refine WD_ready (rs := [22]) (by kernel_rfl) (by simp) ?_
                  refine AllD.cons (o := _) rfl (fun K hK => ?_) AllD.nil
                  rw [if_pos (by rfl)]
                  go_simp
                  refine (SM.out _ _ _ ⟨A9, c9, rfl, R9x.out⟩ ⟨Ax, cx, rfl, Rx.out.weak (fun _ _ _ => trivial)⟩).mono ?_; rintro e wi ⟨rfl, b9⟩
                  try go_wp2_with fail
                  refine hK.out _ _ (bt hHeld b9) (fun hHeld => ?_)
                  clear hK K
                  (try simp only [putz])
                  clear b9
                  refine WDt 23 { dst := some 155, op := .pick (.tmp 145) (.const (.bool true)) (.tmp 154), type := 4, pos := _, after := #[{ on := 13, ground := .data }, { on := 22, ground := .data }, { on := 7, ground := .guard }], guard := some (7, true) } (v := ?vh23) rfl (by kernel_rfl) (fun _ _ _ h => h) (Or.inl ⟨by rfl, ?hyh23⟩) hHeld ?_
                  case hyh23 => (intro wz hSw; (try dsimp only at hSw); go_simp; try with_reducible rfl)
                  (try simp only [putz])
                  refine WDt 24 { dst := some 156, op := .pick (.tmp 139) (.tmp 155) (.const (.bool false)), type := 4, pos := _, after := #[{ on := 7, ground := .data }, { on := 23, ground := .data }], guard := none } (v := ?vh24) rfl (by kernel_rfl) (fun _ _ _ h => h) (Or.inl ⟨by rfl, ?hyh24⟩) hHeld ?_
                  case hyh24 => (intro wz hSw; (try dsimp only at hSw); go_simp; try with_reducible rfl)
                  (try simp only [putz])
                  refine WDt 25 { dst := some 6, op := .assign (.tmp 156), type := 4, pos := _, after := #[{ on := 24, ground := .data }, { on := 22, ground := .chain }, { on := 0, ground := .phase }, { on := 1, ground := .phase }, { on := 2, ground := .phase }, { on := 3, ground := .phase }, { on := 4, ground := .phase }, { on := 5, ground := .phase }, { on := 6, ground := .phase }, { on := 7, ground := .phase }, { on := 8, ground := .phase }, { on := 9, ground := .phase }, { on := 10, ground := .phase }, { on := 11, ground := .phase }, { on := 12, ground := .phase }, { on := 13, ground := .phase }, { on := 14, ground := .phase }, { on := 15, ground := .phase }, { on := 16, ground := .phase }, { on := 17, ground := .phase }, { on := 18, ground := .phase }, { on := 19, ground := .phase }, { on := 20, ground := .phase }, { on := 21, ground := .phase }, { on := 22, ground := .phase }, { on := 23, ground := .phase }, { on := 24, ground := .phase }], guard := none } (v := ?vh25) rfl (by kernel_rfl) (fun _ _ _ h => h) (Or.inl ⟨by rfl, ?hyh25⟩) hHeld ?_
                  case hyh25 => (intro wz hSw; (try dsimp only at hSw); go_simp; try with_reducible rfl)
                  (try simp only [putz])
                  have BD := Lib.hid hHeld
                  clear hHeld
                  refine WD_done (by kernel_rfl) ?_ _
                  go_wp2
                  go_ret
                  exact ⟨rfl, bt BL.out BD.out⟩
                | false =>
                  rw [hgx] at GX
                  clear hgx GSX
                  as_aux_lemma =>
                  go_wp2_with fail
                  refine wp_region_D [] (fun w' => Below wr.heap.size wr w') (by kernel_rfl) (bdr wr) (fun hHeld => ?_)
                  refine WDt 0 { dst := some 132, op := .move (.tmp 7), type := 23, pos := _, after := #[], guard := none } (v := ?vi0) rfl (by kernel_rfl) (fun _ _ _ h => h) (Or.inl ⟨by rfl, ?hyi0⟩) hHeld ?_
                  case hyi0 => (intro wz hSw; (try dsimp only at hSw); go_simp; try with_reducible rfl)
                  (try simp only [putz])
                  refine WDt 1 { dst := some 133, op := .load 27 (.tmp 4), type := 27, pos := _, after := #[], guard := none } (v := ?vi1) rfl (by kernel_rfl) (fun _ _ _ h => h) (Or.inl ⟨by rfl, ?hyi1⟩) hHeld ?_
                  case hyi1 => (intro wz hSw; (try dsimp only at hSw); obtain ⟨z0, z1, z2, z3⟩ := KAL.out _ hSw; go_simp; try with_reducible rfl)
                  (try simp only [putz])
                  refine WDt 3 { dst := some 135, op := .move (.tmp 7), type := 23, pos := _, after := #[], guard := none } (v := ?vi3) rfl (by kernel_rfl) (fun _ _ _ h => h) (Or.inl ⟨by rfl, ?hyi3⟩) hHeld ?_
                  case hyi3 => (intro wz hSw; (try dsimp only at hSw); go_simp; try with_reducible rfl)
                  (try simp only [putz])
                  refine WDt 4 { dst := some 136, op := .load 27 (.tmp 5), type := 27, pos := _, after := #[], guard := none } (v := ?vi4) rfl (by kernel_rfl) (fun _ _ _ h => h) (Or.inl ⟨by rfl, ?hyi4⟩) hHeld ?_
                  case hyi4 => (intro wz hSw; (try dsimp only at hSw); obtain ⟨z0, z1, z2, z3⟩ := KBL.out _ hSw; go_simp; try with_reducible rfl)
                  (try simp only [putz])
                  refine WD_ready (rs := [2]) (by kernel_rfl) (by simp) ?_
                  refine AllD.cons (o := _) rfl (fun K hK => ?_) AllD.nil
                  rw [if_pos (by rfl)]
                  go_simp
                  refine (G1L.out _ hHeld).mono ?_; rintro e wa ⟨A5, c5, rfl, r9, b9⟩
                  unfold tv
                  try go_wp2_with fail
                  refine hK.out _ _ (bt hHeld b9) (fun hHeld => ?_)
                  clear hK K
                  (try simp only [putz])
                  have R5 := Lib.hid r9
                  clear r9 b9
                  refine WD_ready (rs := [5]) (by kernel_rfl) (by simp) ?_
                  refine AllD.cons (o := _) rfl (fun K hK => ?_) AllD.nil
                  rw [if_pos (by rfl)]
                  go_simp
                  refine (G2L.out _ hHeld).mono ?_; rintro e wb ⟨A6, c6, rfl, r9, b9⟩
                  unfold tv
                  try go_wp2_with fail
                  refine hK.out _ _ (bt hHeld b9) (fun hHeld => ?_)
                  clear hK K
                  (try simp only [putz])
                  have R6 := Lib.hid r9
                  have R5x := Lib.hid (TRow.later (R5.out.weak (P' := any0) (fun _ _ _ => trivial)) b9)
                  clear r9 b9
                  refine WD_ready (rs := [6]) (by kernel_rfl) (by simp) ?_
                  refine AllD.cons (o := _) rfl (fun K hK => ?_) AllD.nil
                  rw [if_pos (by rfl)]
                  go_simp
                  refine (SM.out _ _ _ ⟨A5, c5, rfl, R5x.out⟩ ⟨A6, c6, rfl, R6.out.weak (fun _ _ _ => trivial)⟩).mono ?_; rintro e wc ⟨rfl, b9⟩
                  try go_wp2_with fail
                  refine hK.out _ _ (bt hHeld b9) (fun hHeld => ?_)
                  clear hK K
                  (try simp only [putz])
                  clear b9
                  refine WDt 7 { dst := some 139, op := .move (.tmp 138), type := 4, pos := _, after := #[{ on := 6, ground := .data }, { on := 6, ground := .chain }], guard := none } (v := ?vi7) rfl (by kernel_rfl) (fun _ _ _ h => h) (Or.inl ⟨by rfl, ?hyi7⟩) hHeld ?_
                  case hyi7 => (intro wz hSw; (try dsimp only at hSw); go_simp; try with_reducible rfl)
                  (try simp only [putz])
                  refine WDt 8 { dst := some 140, op := .move (.tmp 7), type := 23, pos := _, after := #[{ on := 7, ground := .guard }], guard := some (7, true) } (v := ?vi8) rfl (by kernel_rfl) (fun _ _ _ h => h) (Or.inl ⟨by rfl, ?hyi8⟩) hHeld ?_
                  case hyi8 => (intro wz hSw; (try dsimp only at hSw); go_simp; try with_reducible rfl)
                  (try simp only [putz])
                  refine WDt 9 { dst := some 141, op := .load 27 (.tmp 4), type := 27, pos := _, after := #[{ on := 7, ground := .guard }], guard := some (7, true) } (v := ?vi9) rfl (by kernel_rfl) (fun _ _ _ h => h) (Or.inl ⟨by rfl, ?hyi9⟩) hHeld ?_
                  case hyi9 => (intro wz hSw; (try dsimp only at hSw); obtain ⟨z0, z1, z2, z3⟩ := KAL.out _ hSw; go_simp; try with_reducible rfl)
                  (try simp only [putz])
                  refine WD_ready (rs := [10]) (by kernel_rfl) (by simp) ?_
                  refine AllD.cons (o := _) rfl (fun K hK => ?_) AllD.nil
                  rw [if_pos (by rfl)]
                  go_simp
                  refine (G1L.out _ hHeld).mono ?_; rintro e wd ⟨A7, c7, rfl, r9, b9⟩
                  unfold tv
                  try go_wp2_with fail
                  refine hK.out _ _ (bt hHeld b9) (fun hHeld => ?_)
                  clear hK K
                  (try simp only [putz])
                  have R7 := Lib.hid r9
                  clear r9 b9
                  refine WD_ready (rs := [11]) (by kernel_rfl) (by simp) ?_
                  refine AllD.cons (o := _) rfl (fun K hK => ?_) AllD.nil
                  rw [if_pos (by rfl)]
                  go_simp
                  refine (GX.out _ _ ⟨A7, c7, rfl, R7.out.weak (fun _ _ _ => trivial)⟩).mono ?_; rintro e we ⟨rfl, b9⟩
                  try go_wp2_with fail
                  refine hK.out _ _ (bt hHeld b9) (fun hHeld => ?_)
                  clear hK K
                  (try simp only [putz])
                  clear b9
                  refine WDt 12 { dst := some 144, op := .unOp .not 4 (.tmp 143), type := 4, pos := _, after := #[{ on := 11, ground := .data }, { on := 7, ground := .guard }], guard := some (7, true) } (v := ?vi12) rfl (by kernel_rfl) (fun _ _ _ h => h) (Or.inl ⟨by rfl, ?hyi12⟩) hHeld ?_
                  case hyi12 => (intro wz hSw; (try dsimp only at hSw); go_simp; try with_reducible rfl)
                  (try simp only [putz])
                  refine WDt 13 { dst := some 145, op := .move (.tmp 144), type := 4, pos := _, after := #[{ on := 12, ground := .data }, { on := 11, ground := .chain }, { on := 7, ground := .guard }], guard := some (7, true) } (v := ?vi13) rfl (by kernel_rfl) (fun _ _ _ h => h) (Or.inl ⟨by rfl, ?hyi13⟩) hHeld ?_
                  case hyi13 => (intro wz hSw; (try dsimp only at hSw); go_simp; try with_reducible rfl)
                  (try simp only [putz])
                  refine WDt 14 { dst := some 146, op := .move (.tmp 7), type := 23, pos := _, after := #[{ on := 13, ground := .guard }], guard := some (13, false) } (v := undef) rfl (by kernel_rfl) (fun _ _ _ h => h) (Or.inr ⟨by rfl, rfl⟩) hHeld ?_
                  (try simp only [putz])
                  refine WDt 15 { dst := some 147, op := .move (.tmp 7), type := 23, pos := _, after := #[{ on := 13, ground := .guard }], guard := some (13, false) } (v := undef) rfl (by kernel_rfl) (fun _ _ _ h => h) (Or.inr ⟨by rfl, rfl⟩) hHeld ?_
                  (try simp only [putz])
                  refine WDt 16 { dst := some 148, op := .load 27 (.tmp 4), type := 27, pos := _, after := #[{ on := 13, ground := .guard }], guard := some (13, false) } (v := undef) rfl (by kernel_rfl) (fun _ _ _ h => h) (Or.inr ⟨by rfl, rfl⟩) hHeld ?_
                  (try simp only [putz])
                  refine WDt 19 { dst := some 151, op := .move (.tmp 7), type := 23, pos := _, after := #[{ on := 13, ground := .guard }], guard := some (13, false) } (v := undef) rfl (by kernel_rfl) (fun _ _ _ h => h) (Or.inr ⟨by rfl, rfl⟩) hHeld ?_
                  (try simp only [putz])
                  refine WDt 20 { dst := some 152, op := .load 27 (.tmp 4), type := 27, pos := _, after := #[{ on := 13, ground := .guard }], guard := some (13, false) } (v := undef) rfl (by kernel_rfl) (fun _ _ _ h => h) (Or.inr ⟨by rfl, rfl⟩) hHeld ?_
                  (try simp only [putz])
                  refine WD_ready (rs := [17]) (by kernel_rfl) (by simp) ?_
                  refine AllD.cons (o := { dst := some 149, op := .call { callee := .value (.func 15), args := #[.tmp 147, .tmp 148], argTypes := #[23, 27] }, type := 27, pos := _, after := #[{ on := 15, ground := .data }, { on := 16, ground := .data }, { on := 13, ground := .chain }, { on := 13, ground := .guard }], guard := some (13, false) }) rfl (fun K hK => ?_) AllD.nil
                  rw [if_neg (fun h => nomatch h)]
                  refine hK.out _ _ hHeld (fun hHeld => ?_)
                  clear hK K
                  (try simp only [putz])
                  refine WD_ready (rs := [18]) (by kernel_rfl) (by simp) ?_
                  refine AllD.cons (o := { dst := some 150, op := .call { callee := .value (.func 15), args := #[.tmp 146, .tmp 149], argTypes := #[23, 27] }, type := 27, pos := _, after := #[{ on := 14, ground := .data }, { on := 17, ground := .data }, { on := 17, ground := .chain }, { on := 13, ground := .guard }], guard := some (13, false) }) rfl (fun K hK => ?_) AllD.nil
                  rw [if_neg (fun h => nomatch h)]
                  refine hK.out _ _ hHeld (fun hHeld => ?_)
                  clear hK K
                  (try simp only [putz])
                  refine WD_ready (rs := [21]) (by kernel_rfl) (by simp) ?_
                  refine AllD.cons (o := { dst := some 153, op := .call { callee := .value (.func 15), args := #[.tmp 151, .tmp 152], argTypes := #[23, 27] }, type := 27, pos := _, after := #[{ on := 19, ground := .data }, { on := 20, ground := .data }, { on := 18, ground := .chain }, { on := 13, ground := .guard }], guard := some (13, false) }) rfl (fun K hK => ?_) AllD.nil
                  rw [if_neg (fun h => nomatch h)]
                  refine hK.out _ _ hHeld (fun hHeld => ?_)
                  clear hK K
                  (try simp only [putz])
                  refine WD_ready (rs := [22]) (by kernel_rfl) (by simp) ?_
                  refine AllD.cons (o := { dst := some 154, op := .call { callee := .value (.func 16), args := #[.tmp 150, .tmp 153], argTypes := #[27, 27] }, type := 4, pos := _, after := #[{ on := 18, ground := .data }, { on := 21, ground := .data }, { on := 21, ground := .chain }, { on := 13, ground := .guard }], guard := some (13, false) }) rfl (fun K hK => ?_) AllD.nil
                  rw [if_neg (fun h => nomatch h)]
                  refine hK.out _ _ hHeld (fun hHeld => ?_)
                  clear hK K
                  (try simp only [putz])
                  refine WDt 23 { dst := some 155, op := .pick (.tmp 145) (.const (.bool true)) (.tmp 154), type := 4, pos := _, after := #[{ on := 13, ground := .data }, { on := 22, ground := .data }, { on := 7, ground := .guard }], guard := some (7, true) } (v := ?vi23) rfl (by kernel_rfl) (fun _ _ _ h => h) (Or.inl ⟨by rfl, ?hyi23⟩) hHeld ?_
                  case hyi23 => (intro wz hSw; (try dsimp only at hSw); go_simp; try with_reducible rfl)
                  (try simp only [putz])
                  refine WDt 24 { dst := some 156, op := .pick (.tmp 139) (.tmp 155) (.const (.bool false)), type := 4, pos := _, after := #[{ on := 7, ground := .data }, { on := 23, ground := .data }], guard := none } (v := ?vi24) rfl (by kernel_rfl) (fun _ _ _ h => h) (Or.inl ⟨by rfl, ?hyi24⟩) hHeld ?_
                  case hyi24 => (intro wz hSw; (try dsimp only at hSw); go_simp; try with_reducible rfl)
                  (try simp only [putz])
                  refine WDt 25 { dst := some 6, op := .assign (.tmp 156), type := 4, pos := _, after := #[{ on := 24, ground := .data }, { on := 22, ground := .chain }, { on := 0, ground := .phase }, { on := 1, ground := .phase }, { on := 2, ground := .phase }, { on := 3, ground := .phase }, { on := 4, ground := .phase }, { on := 5, ground := .phase }, { on := 6, ground := .phase }, { on := 7, ground := .phase }, { on := 8, ground := .phase }, { on := 9, ground := .phase }, { on := 10, ground := .phase }, { on := 11, ground := .phase }, { on := 12, ground := .phase }, { on := 13, ground := .phase }, { on := 14, ground := .phase }, { on := 15, ground := .phase }, { on := 16, ground := .phase }, { on := 17, ground := .phase }, { on := 18, ground := .phase }, { on := 19, ground := .phase }, { on := 20, ground := .phase }, { on := 21, ground := .phase }, { on := 22, ground := .phase }, { on := 23, ground := .phase }, { on := 24, ground := .phase }], guard := none } (v := ?vi25) rfl (by kernel_rfl) (fun _ _ _ h => h) (Or.inl ⟨by rfl, ?hyi25⟩) hHeld ?_
                  case hyi25 => (intro wz hSw; (try dsimp only at hSw); go_simp; try with_reducible rfl)
                  (try simp only [putz])
                  have BD := Lib.hid hHeld
                  clear hHeld
                  refine WD_done (by kernel_rfl) ?_ _
                  go_wp2
                  go_ret
                  exact ⟨rfl, bt BL.out BD.out⟩
          · have q0 : (er == 0) = false := beq_eq_false_iff_ne.2 he
            have q1 : (er != 0) = true := by simp [bne, q0]
            have HS := HSAME.out he
            rw [show apvF St2 a = U1 by rw [HU1.out]; exact congrFun HS a] at G1
            rw [show apvF St2 b = U2 by rw [HU2.out]; exact congrFun HS b] at G2
            have SM1 := Lib.hid (fun W v u (h : TIn W any0 U1 v) (h2 : TIn W any0 U1 u) => same_true (d := 507) (by omega) BU1.out h h2)
            have SM2 := Lib.hid (fun W v u (h : TIn W any0 U2 v) (h2 : TIn W any0 U2 u) => same_true (d := 507) (by omega) BU2.out h h2)
            clear HS he HONE HSAME
            as_aux_lemma =>
            go_wp2_with fail
            refine wp_region_D [] (fun w' => Below wF.heap.size wF w') (by kernel_rfl) (bdr wF) (fun hHeld => ?_)
            refine WDt 0 { dst := some 98, op := .move (.tmp 7), type := 23, pos := _, after := #[], guard := none } (v := ?vf0) rfl (by kernel_rfl) (fun _ _ _ h => h) (Or.inl ⟨by rfl, ?hyf0⟩) hHeld ?_
            case hyf0 => (intro wz hSw; (try dsimp only at hSw); go_simp; try with_reducible rfl)
            (try simp only [putz])
            refine WDt 1 { dst := some 99, op := .load 27 (.tmp 4), type := 27, pos := _, after := #[], guard := none } (v := ?vf1) rfl (by kernel_rfl) (fun _ _ _ h => h) (Or.inl ⟨by rfl, ?hyf1⟩) hHeld ?_
            case hyf1 => (intro wz hSw; (try dsimp only at hSw); obtain ⟨z0, z1, z2, z3⟩ := KAF.out _ hSw; go_simp; try with_reducible rfl)
            (try simp only [putz])
            refine WDt 3 { dst := some 101, op := .load 27 (.tmp 10), type := 27, pos := _, after := #[], guard := none } (v := ?vf3) rfl (by kernel_rfl) (fun _ _ _ h => h) (Or.inl ⟨by rfl, ?hyf3⟩) hHeld ?_
            case hyf3 => (intro wz hSw; (try dsimp only at hSw); obtain ⟨z0, z1, z2, z3⟩ := KXF.out _ hSw; go_simp; try with_reducible rfl)
            (try simp only [putz])
            refine WD_ready (rs := [2]) (by kernel_rfl) (by simp) ?_
            refine AllD.cons (o := _) rfl (fun K hK => ?_) AllD.nil
            rw [if_pos (by rfl)]
            go_simp
            refine (G1.out _ hHeld).mono ?_; rintro e wa ⟨A5, c5, rfl, r9, b9⟩
            unfold tv
            try go_wp2_with fail
            refine hK.out _ _ (bt hHeld b9) (fun hHeld => ?_)
            clear hK K
            (try simp only [putz])
            have R5 := Lib.hid r9
            clear r9 b9
            refine WD_ready (rs := [4]) (by kernel_rfl) (by simp) ?_
            refine AllD.cons (o := _) rfl (fun K hK => ?_) AllD.nil
            rw [if_pos (by rfl)]
            go_simp
            refine (SM1.out _ _ _ ⟨A5, c5, rfl, R5.out.weak (fun _ _ _ => trivial)⟩ ⟨A1, c1, rfl, RX.out.later hHeld⟩).mono ?_; rintro e wb ⟨rfl, b9⟩
            try go_wp2_with fail
            refine hK.out _ _ (bt hHeld b9) (fun hHeld => ?_)
            clear hK K
            (try simp only [putz])
            clear b9
            refine WDt 5 { dst := some 103, op := .move (.tmp 102), type := 4, pos := _, after := #[{ on := 4, ground := .data }, { on := 4, ground := .chain }], guard := none } (v := ?vf5) rfl (by kernel_rfl) (fun _ _ _ h => h) (Or.inl ⟨by rfl, ?hyf5⟩) hHeld ?_
            case hyf5 => (intro wz hSw; (try dsimp only at hSw); go_simp; try with_reducible rfl)
            (try simp only [putz])
            refine WDt 6 { dst := some 104, op := .move (.tmp 7), type := 23, pos := _, after := #[{ on := 5, ground := .guard }], guard := some (5, true) } (v := ?vf6) rfl (by kernel_rfl) (fun _ _ _ h => h) (Or.inl ⟨by rfl, ?hyf6⟩) hHeld ?_
            case hyf6 => (intro wz hSw; (try dsimp only at hSw); go_simp; try with_reducible rfl)
            (try simp only [putz])
            refine WDt 7 { dst := some 105, op := .load 27 (.tmp 5), type := 27, pos := _, after := #[{ on := 5, ground := .guard }], guard := some (5, true) } (v := ?vf7) rfl (by kernel_rfl) (fun _ _ _ h => h) (Or.inl ⟨by rfl, ?hyf7⟩) hHeld ?_
            case hyf7 => (intro wz hSw; (try dsimp only at hSw); obtain ⟨z0, z1, z2, z3⟩ := KBF.out _ hSw; go_simp; try with_reducible rfl)
            (try simp only [putz])
            refine WDt 9 { dst := some 107, op := .load 27 (.tmp 11), type := 27, pos := _, after := #[{ on := 5, ground := .guard }], guard := some (5, true) } (v := ?vf9) rfl (by kernel_rfl) (fun _ _ _ h => h) (Or.inl ⟨by rfl, ?hyf9⟩) hHeld ?_
            case hyf9 => (intro wz hSw; (try dsimp only at hSw); obtain ⟨z0, z1, z2, z3⟩ := KYF.out _ hSw; go_simp; try with_reducible rfl)
            (try simp only [putz])
            refine WD_ready (rs := [8]) (by kernel_rfl) (by simp) ?_
            refine AllD.cons (o := _) rfl (fun K hK => ?_) AllD.nil
            rw [if_pos (by rfl)]
            go_simp
            refine (G2.out _ hHeld).mono ?_; rintro e wc ⟨A6, c6, rfl, r9, b9⟩
            unfold tv
            try go_wp2_with fail
            refine hK.out _ _ (bt hHeld b9) (fun hHeld => ?_)
            clear hK K
            (try simp only [putz])
            have R6 := Lib.hid r9
            clear r9 b9
            refine WD_ready (rs := [10]) (by kernel_rfl) (by simp) ?_
            refine AllD.cons (o := _) rfl (fun K hK => ?_) AllD.nil
            rw [if_pos (by rfl)]
            go_simp
            refine (SM2.out _ _ _ ⟨A6, c6, rfl, R6.out.weak (fun _ _ _ => trivial)⟩ ⟨A2, c2, rfl, RY.out.later hHeld⟩).mono ?_; rintro e wd ⟨rfl, b9⟩
            try go_wp2_with fail
            refine hK.out _ _ (bt hHeld b9) (fun hHeld => ?_)
            clear hK K
            (try simp only [putz])
            clear b9
            refine WDt 11 { dst := some 109, op := .pick (.tmp 103) (.tmp 108) (.const (.bool false)), type := 4, pos := _, after := #[{ on := 5, ground := .data }, { on := 10, ground := .data }], guard := none } (v := ?vf11) rfl (by kernel_rfl) (fun _ _ _ h => h) (Or.inl ⟨by rfl, ?hyf11⟩) hHeld ?_
            case hyf11 => (intro wz hSw; (try dsimp only at hSw); go_simp; try with_reducible rfl)
            (try simp only [putz])
            refine WDt 12 { dst := some 6, op := .assign (.tmp 109), type := 4, pos := _, after := #[{ on := 11, ground := .data }, { on := 10, ground := .chain }, { on := 0, ground := .phase }, { on := 1, ground := .phase }, { on := 2, ground := .phase }, { on := 3, ground := .phase }, { on := 4, ground := .phase }, { on := 5, ground := .phase }, { on := 6, ground := .phase }, { on := 7, ground := .phase }, { on := 8, ground := .phase }, { on := 9, ground := .phase }, { on := 10, ground := .phase }, { on := 11, ground := .phase }], guard := none } (v := ?vf12) rfl (by kernel_rfl) (fun _ _ _ h => h) (Or.inl ⟨by rfl, ?hyf12⟩) hHeld ?_
            case hyf12 => (intro wz hSw; (try dsimp only at hSw); go_simp; try with_reducible rfl)
            (try simp only [putz])
            have BD := Lib.hid hHeld
            clear hHeld
            refine WD_done (by kernel_rfl) ?_ _
            go_wp2
            go_ret
            exact ⟨rfl, bt BWF.out BD.out⟩
        all_goals exact hq.elim
      refine wp_region_D [9] (fun w' => Below wr.heap.size wr w') (by kernel_rfl) (bdr wr) (fun hHeld => ?_)
      refine WDt 0 { dst := some 86, op := .move (.tmp 7), type := 23, pos := _, after := #[], guard := none } (v := ?ve0) rfl (by kernel_rfl) (fun _ _ _ h => h) (Or.inl ⟨by rfl, ?hye0⟩) hHeld ?_
      case hye0 => (intro wz hSw; (try dsimp only at hSw); go_simp; try with_reducible rfl)
      (try simp only [putz])
      refine WDt 1 { dst := some 87, op := .load 27 (.tmp 4), type := 27, pos := _, after := #[], guard := none } (v := ?ve1) rfl (by kernel_rfl) (fun _ _ _ h => h) (Or.inl ⟨by rfl, ?hye1⟩) hHeld ?_
      case hye1 => (intro wz hSw; (try dsimp only at hSw); obtain ⟨z0, z1, z2, z3⟩ := KAR.out _ hSw; go_simp; try with_reducible rfl)
      (try simp only [putz])
      refine WDt 3 { dst := some 89, op := .move (.tmp 7), type := 23, pos := _, after := #[], guard := none } (v := ?ve3) rfl (by kernel_rfl) (fun _ _ _ h => h) (Or.inl ⟨by rfl, ?hye3⟩) hHeld ?_
      case hye3 => (intro wz hSw; (try dsimp only at hSw); go_simp; try with_reducible rfl)
      (try simp only [putz])
      refine WDt 4 { dst := some 90, op := .load 27 (.tmp 5), type := 27, pos := _, after := #[], guard := none } (v := ?ve4) rfl (by kernel_rfl) (fun _ _ _ h => h) (Or.inl ⟨by rfl, ?hye4⟩) hHeld ?_
      case hye4 => (intro wz hSw; (try dsimp only at hSw); obtain ⟨z0, z1, z2, z3⟩ := KBR.out _ hSw; go_simp; try with_reducible rfl)
      (try simp only [putz])
      obtain ⟨w_0, hw_0⟩ : ∃ z, z = wr.drew := ⟨_, rfl⟩
      rw [← hw_0] at hHeld ⊢
      have B_0 := Lib.hid hHeld
      have ZL_0 : Hid (∀ x ∈ ([] : List Nat), x < w_0.heap.size) := Lib.hid (fun x hx => by cases hx)
      clear hw_0 hHeld
      refine WD_ready (rs := [2, 6, 7]) (by kernel_rfl) (by simp) ?_
      refine AllD.cons (o := _) rfl (fun K hK => ?_) (AllD.cons (o := _) rfl (fun K hK => ?_) (AllD.cons (o := _) rfl (fun K hK => ?_) AllD.nil))
      · rw [if_pos (by rfl)]
        go_simp
        refine (AF1.out _ B_0.out).mono ?_; rintro e w_1 ⟨A1, c1, rfl, r_1, d_1⟩
        unfold tv
        try go_wp2_with fail
        refine hK.out _ _ (bt B_0.out d_1) (fun hHeld => ?_)
        clear hK K
        (try simp only [putz])
        clear hHeld
        have D_1 := Lib.hid d_1
        have B_1 := Lib.hid (bt B_0.out D_1.out)
        have ZL_1 : Hid (∀ x ∈ ([] : List Nat), x < w_1.heap.size) := Lib.hid (fun x hx => Nat.lt_of_lt_of_le (ZL_0.out x hx) D_1.out.size)
        have T1_1 := Lib.hid (r_1.weak (P' := fun b => wr.heap.size ≤ b ∧ b ∉ ([] : List Nat)) (fun b _ hp => ⟨Nat.le_trans B_0.out.size hp, notin_ge ZL_0.out hp⟩))
        clear r_1 d_1
        refine WD_ready (rs := [5, 6, 7]) (by kernel_rfl) (by simp) ?_
        refine AllD.cons (o := _) rfl (fun K hK => ?_) (AllD.cons (o := _) rfl (fun K hK => ?_) (AllD.cons (o := _) rfl (fun K hK => ?_) AllD.nil))
        · rw [if_pos (by rfl)]
          go_simp
          refine (AF2.out _ B_1.out).mono ?_; rintro e w_2 ⟨A2, c2, rfl, r_2, d_2⟩
          unfold tv
          try go_wp2_with fail
          refine hK.out _ _ (bt B_1.out d_2) (fun hHeld => ?_)
          clear hK K
          (try simp only [putz])
          clear hHeld
          have D_2 := Lib.hid d_2
          have T1_2 := Lib.hid (T1_1.out.move (w' := w_2) (P' := fun b => wr.heap.size ≤ b ∧ b ∉ ([] : List Nat)) (fun b hb hp => ⟨D_2.out.block b hb, hp.1, hp.2⟩) D_2.out.size)
          have B_2 := Lib.hid (bt B_1.out D_2.out)
          have ZL_2 : Hid (∀ x ∈ ([] : List Nat), x < w_2.heap.size) := Lib.hid (fun x hx => Nat.lt_of_lt_of_le (ZL_1.out x hx) D_2.out.size)
          have T2_2 := Lib.hid (r_2.weak (P' := fun b => wr.heap.size ≤ b ∧ b ∉ ([] : List Nat)) (fun b _ hp => ⟨Nat.le_trans B_1.out.size hp, notin_ge ZL_1.out hp⟩))
          clear r_2 d_2
          refine WD_ready (rs := [6, 7]) (by kernel_rfl) (by simp) ?_
          refine AllD.cons (o := _) rfl (fun K hK => ?_) (AllD.cons (o := _) rfl (fun K hK => ?_) AllD.nil)
          · rw [if_pos (by rfl)]
            go_simp
            refine hK.out _ _ (bt B_2.out (below_alloc w_2 _)) (fun hHeld => ?_)
            clear hK K
            (try simp only [putz])
            obtain ⟨w_3, hw_3⟩ : ∃ z, z = w_2.alloc (.cells #[.int .i64 0, .string ⟨#[]⟩, .int .i64 0, .slice none 0 0] TT24) := ⟨_, rfl⟩
            try rw [← hw_3]
            clear hHeld
            have D_3 : Hid (Below w_2.heap.size w_2 w_3) := Lib.hid (by rw [hw_3]; exact below_alloc w_2 _)
            have N_3 : Hid (w_3.heap[w_2.heap.size]? = some (.cells #[.int .i64 0, .string ⟨#[]⟩, .int .i64 0, .slice none 0 0] TT24 (0, 0))) := Lib.hid (by rw [hw_3]; exact heap_alloc_new w_2 _)
            obtain ⟨X, hZ_3⟩ : ∃ Z, Z = w_2.heap.size := ⟨_, rfl⟩
            rw [← hZ_3] at N_3 ⊢
            have T1_3 := Lib.hid (T1_2.out.move (w' := w_3) (P' := fun b => wr.heap.size ≤ b ∧ b ∉ ([X] : List Nat)) (fun b hb hp => ⟨D_3.out.block b hb, hp.1, by rw [List.mem_cons, not_or]; exact ⟨by have h0 := hb; rw [← hZ_3] at h0; exact Nat.ne_of_lt h0, hp.2⟩⟩) D_3.out.size)
            have T2_3 := Lib.hid (T2_2.out.move (w' := w_3) (P' := fun b => wr.heap.size ≤ b ∧ b ∉ ([X] : List Nat)) (fun b hb hp => ⟨D_3.out.block b hb, hp.1, by rw [List.mem_cons, not_or]; exact ⟨by have h0 := hb; rw [← hZ_3] at h0; exact Nat.ne_of_lt h0, hp.2⟩⟩) D_3.out.size)
            have B_3 := Lib.hid (bt B_2.out D_3.out)
            have ZL_3 : Hid (∀ x ∈ ([X] : List Nat), x < w_3.heap.size) := Lib.hid (fun x hx => by rcases List.mem_cons.1 hx with h | h; (rw [h]; exact (Array.getElem?_eq_some_iff.1 N_3.out).1); exact Nat.lt_of_lt_of_le (ZL_2.out x h) D_3.out.size)
            have ZX_3 : Hid (wr.heap.size ≤ X) := Lib.hid (by rw [hZ_3]; exact B_2.out.size)
            clear hw_3 hZ_3
            refine WD_ready (rs := [7]) (by kernel_rfl) (by simp) ?_
            refine AllD.cons (o := _) rfl (fun K hK => ?_) AllD.nil
            rw [if_pos (by rfl)]
            go_simp
            refine hK.out _ _ (bt B_3.out (below_alloc w_3 _)) (fun hHeld => ?_)
            clear hK K
            (try simp only [putz])
            obtain ⟨w_4, hw_4⟩ : ∃ z, z = w_3.alloc (.cells #[.int .i64 0, .string ⟨#[]⟩, .int .i64 0, .slice none 0 0] TT24) := ⟨_, rfl⟩
            try rw [← hw_4]
            clear hHeld
            have D_4 : Hid (Below w_3.heap.size w_3 w_4) := Lib.hid (by rw [hw_4]; exact below_alloc w_3 _)
            have N_4 : Hid (w_4.heap[w_3.heap.size]? = some (.cells #[.int .i64 0, .string ⟨#[]⟩, .int .i64 0, .slice none 0 0] TT24 (0, 0))) := Lib.hid (by rw [hw_4]; exact heap_alloc_new w_3 _)
            obtain ⟨Y, hZ_4⟩ : ∃ Z, Z = w_3.heap.size := ⟨_, rfl⟩
            rw [← hZ_4] at N_4 ⊢
            have T1_4 := Lib.hid (T1_3.out.move (w' := w_4) (P' := fun b => wr.heap.size ≤ b ∧ b ∉ ([Y, X] : List Nat)) (fun b hb hp => ⟨D_4.out.block b hb, hp.1, by rw [List.mem_cons, not_or]; exact ⟨by have h0 := hb; rw [← hZ_4] at h0; exact Nat.ne_of_lt h0, hp.2⟩⟩) D_4.out.size)
            have T2_4 := Lib.hid (T2_3.out.move (w' := w_4) (P' := fun b => wr.heap.size ≤ b ∧ b ∉ ([Y, X] : List Nat)) (fun b hb hp => ⟨D_4.out.block b hb, hp.1, by rw [List.mem_cons, not_or]; exact ⟨by have h0 := hb; rw [← hZ_4] at h0; exact Nat.ne_of_lt h0, hp.2⟩⟩) D_4.out.size)
            have X0_4 := Lib.hid ((D_4.out.block X (Array.getElem?_eq_some_iff.1 N_3.out).1).trans N_3.out)
            have B_4 := Lib.hid (bt B_3.out D_4.out)
            have ZL_4 : Hid (∀ x ∈ ([Y, X] : List Nat), x < w_4.heap.size) := Lib.hid (fun x hx => by rcases List.mem_cons.1 hx with h | h; (rw [h]; exact (Array.getElem?_eq_some_iff.1 N_4.out).1); exact Nat.lt_of_lt_of_le (ZL_3.out x h) D_4.out.size)
            have ZY_4 : Hid (wr.heap.size ≤ Y) := Lib.hid (by rw [hZ_4]; exact B_3.out.size)
            have XY_4 : Hid (X ≠ Y) := Lib.hid (by have h1 := (Array.getElem?_eq_some_iff.1 N_3.out).1; rw [← hZ_4] at h1; omega)
            clear hw_4 hZ_4
            refine WD_ready (rs := [8]) (by kernel_rfl) (by simp) ?_
            refine AllD.cons (o := _) rfl (fun K hK => ?_) AllD.nil
            obtain ⟨⟨y0, y1, y2, y3⟩, k0, k1, k2, k3⟩ := zero_cells X0_4.out
            rw [if_pos (by rfl)]
            go_simp
            refine hK.out _ _ (B_4.out.trans (Frm.below (frm4 w_4 X (.int .i64 U1.k) (.string U1.nm) (.int .i64 U1.vr) (.slice A1 U1.args.length c1)) (fun q hq => by have e : q = X := hq; have := ZX_3.out; omega) B_4.out.size)) (fun hHeld => ?_)
            clear hK K
            (try simp only [putz])
            clear hHeld
            obtain ⟨w_5, hw_5⟩ : ∃ z, z = ((((w_4.setCell ⟨X, 0, none⟩ (.int .i64 U1.k)).setCell ⟨X, 1, none⟩ (.string U1.nm)).setCell ⟨X, 2, none⟩ (.int .i64 U1.vr)).setCell ⟨X, 3, none⟩ (.slice A1 U1.args.length c1)) := ⟨_, rfl⟩
            try rw [← hw_5]
            have D_5 : Hid (Frm w_4 w_5 (· = X)) := Lib.hid (by rw [hw_5]; exact (frm4 w_4 X (.int .i64 U1.k) (.string U1.nm) (.int .i64 U1.vr) (.slice A1 U1.args.length c1)))
            have XF_5 : Hid (w_5.heap[X]? = some (.cells #[.int .i64 U1.k, .string U1.nm, .int .i64 U1.vr, .slice A1 U1.args.length c1] TT24 (0, 0))) := Lib.hid (by rw [hw_5]; exact cells_all _ _ _ _ X0_4.out)
            have T1_5 := Lib.hid (T1_4.out.move (w' := w_5) (P' := fun b => wr.heap.size ≤ b ∧ b ∉ ([Y, X] : List Nat)) (fun b hb hp => ⟨D_5.out.block b hb (fun e => hp.2 (by rw [show b = X from e]; simp)), hp.1, hp.2⟩) D_5.out.size)
            have T2_5 := Lib.hid (T2_4.out.move (w' := w_5) (P' := fun b => wr.heap.size ≤ b ∧ b ∉ ([Y, X] : List Nat)) (fun b hb hp => ⟨D_5.out.block b hb (fun e => hp.2 (by rw [show b = X from e]; simp)), hp.1, hp.2⟩) D_5.out.size)
            have Y0_5 := Lib.hid ((D_5.out.block Y (Array.getElem?_eq_some_iff.1 N_4.out).1 (fun e => XY_4.out e.symm)).trans N_4.out)
            have B_5 := Lib.hid (B_4.out.trans (D_5.out.below (fun q hq => by have e : q = X := hq; have := ZX_3.out; omega) B_4.out.size))
            have ZL_5 : Hid (∀ x ∈ ([Y, X] : List Nat), x < w_5.heap.size) := Lib.hid (fun x hx => Nat.lt_of_lt_of_le (ZL_4.out x hx) D_5.out.size)
            clear hw_5 y0 y1 y2 y3 k0 k1 k2 k3
            refine WD_ready (rs := [9]) (by kernel_rfl) (by simp) ?_
            refine AllD.last (o := _) rfl (by kernel_rfl) (fun K hK => ?_) AllD.nil
            obtain ⟨⟨y0, y1, y2, y3⟩, k0, k1, k2, k3⟩ := zero_cells Y0_5.out
            rw [if_pos (by rfl)]
            go_simp
            refine hK.out _ _ ?_
            clear hK K
            (try simp only [putz])
            obtain ⟨w_6, hw_6⟩ : ∃ z, z = ((((w_5.setCell ⟨Y, 0, none⟩ (.int .i64 U2.k)).setCell ⟨Y, 1, none⟩ (.string U2.nm)).setCell ⟨Y, 2, none⟩ (.int .i64 U2.vr)).setCell ⟨Y, 3, none⟩ (.slice A2 U2.args.length c2)) := ⟨_, rfl⟩
            try rw [← hw_6]
            have D_6 : Hid (Frm w_5 w_6 (· = Y)) := Lib.hid (by rw [hw_6]; exact (frm4 w_5 Y (.int .i64 U2.k) (.string U2.nm) (.int .i64 U2.vr) (.slice A2 U2.args.length c2)))
            have YF_6 : Hid (w_6.heap[Y]? = some (.cells #[.int .i64 U2.k, .string U2.nm, .int .i64 U2.vr, .slice A2 U2.args.length c2] TT24 (0, 0))) := Lib.hid (by rw [hw_6]; exact cells_all _ _ _ _ Y0_5.out)
            have T1_6 := Lib.hid (T1_5.out.move (w' := w_6) (P' := fun b => wr.heap.size ≤ b ∧ b ∉ ([Y, X] : List Nat)) (fun b hb hp => ⟨D_6.out.block b hb (fun e => hp.2 (by rw [show b = Y from e]; simp)), hp.1, hp.2⟩) D_6.out.size)
            have T2_6 := Lib.hid (T2_5.out.move (w' := w_6) (P' := fun b => wr.heap.size ≤ b ∧ b ∉ ([Y, X] : List Nat)) (fun b hb hp => ⟨D_6.out.block b hb (fun e => hp.2 (by rw [show b = Y from e]; simp)), hp.1, hp.2⟩) D_6.out.size)
            have XF_6 := Lib.hid ((D_6.out.block X (Array.getElem?_eq_some_iff.1 XF_5.out).1 (fun e => XY_4.out e)).trans XF_5.out)
            have B_6 := Lib.hid (B_5.out.trans (D_6.out.below (fun q hq => by have e : q = Y := hq; have := ZY_4.out; omega) B_5.out.size))
            have ZL_6 : Hid (∀ x ∈ ([Y, X] : List Nat), x < w_6.heap.size) := Lib.hid (fun x hx => Nat.lt_of_lt_of_le (ZL_5.out x hx) D_6.out.size)
            clear hw_6 y0 y1 y2 y3 k0 k1 k2 k3
            refine WD_done (by kernel_rfl) ?_ _
            exact ⟨X, Y, A1, c1, A2, c2, _, _, _, _, _, _, by rfl, ⟨XF_6.out, YF_6.out, T1_6.out.weak (fun _ _ h => h.1), T2_6.out.weak (fun _ _ h => h.1), B_6.out, ZX_3.out, ZY_4.out⟩⟩
          · rw [if_pos (by rfl)]
            go_simp
            refine hK.out _ _ (bt B_2.out (below_alloc w_2 _)) (fun hHeld => ?_)
            clear hK K
            (try simp only [putz])
            obtain ⟨w_7, hw_7⟩ : ∃ z, z = w_2.alloc (.cells #[.int .i64 0, .string ⟨#[]⟩, .int .i64 0, .slice none 0 0] TT24) := ⟨_, rfl⟩
            try rw [← hw_7]
            clear hHeld
            have D_7 : Hid (Below w_2.heap.size w_2 w_7) := Lib.hid (by rw [hw_7]; exact below_alloc w_2 _)
            have N_7 : Hid (w_7.heap[w_2.heap.size]? = some (.cells #[.int .i64 0, .string ⟨#[]⟩, .int .i64 0, .slice none 0 0] TT24 (0, 0))) := Lib.hid (by rw [hw_7]; exact heap_alloc_new w_2 _)
            obtain ⟨Y, hZ_7⟩ : ∃ Z, Z = w_2.heap.size := ⟨_, rfl⟩
            rw [← hZ_7] at N_7 ⊢
            have T1_7 := Lib.hid (T1_2.out.move (w' := w_7) (P' := fun b => wr.heap.size ≤ b ∧ b ∉ ([Y] : List Nat)) (fun b hb hp => ⟨D_7.out.block b hb, hp.1, by rw [List.mem_cons, not_or]; exact ⟨by have h0 := hb; rw [← hZ_7] at h0; exact Nat.ne_of_lt h0, hp.2⟩⟩) D_7.out.size)
            have T2_7 := Lib.hid (T2_2.out.move (w' := w_7) (P' := fun b => wr.heap.size ≤ b ∧ b ∉ ([Y] : List Nat)) (fun b hb hp => ⟨D_7.out.block b hb, hp.1, by rw [List.mem_cons, not_or]; exact ⟨by have h0 := hb; rw [← hZ_7] at h0; exact Nat.ne_of_lt h0, hp.2⟩⟩) D_7.out.size)
            have B_7 := Lib.hid (bt B_2.out D_7.out)
            have ZL_7 : Hid (∀ x ∈ ([Y] : List Nat), x < w_7.heap.size) := Lib.hid (fun x hx => by rcases List.mem_cons.1 hx with h | h; (rw [h]; exact (Array.getElem?_eq_some_iff.1 N_7.out).1); exact Nat.lt_of_lt_of_le (ZL_2.out x h) D_7.out.size)
            have ZY_7 : Hid (wr.heap.size ≤ Y) := Lib.hid (by rw [hZ_7]; exact B_2.out.size)
            clear hw_7 hZ_7
            refine WD_ready (rs := [6]) (by kernel_rfl) (by simp) ?_
            refine AllD.cons (o := _) rfl (fun K hK => ?_) AllD.nil
            rw [if_pos (by rfl)]
            go_simp
            refine hK.out _ _ (bt B_7.out (below_alloc w_7 _)) (fun hHeld => ?_)
            clear hK K
            (try simp only [putz])
            obtain ⟨w_8, hw_8⟩ : ∃ z, z = w_7.alloc (.cells #[.int .i64 0, .string ⟨#[]⟩, .int .i64 0, .slice none 0 0] TT24) := ⟨_, rfl⟩
            try rw [← hw_8]
            clear hHeld
            have D_8 : Hid (Below w_7.heap.size w_7 w_8) := Lib.hid (by rw [hw_8]; exact below_alloc w_7 _)
            have N_8 : Hid (w_8.heap[w_7.heap.size]? = some (.cells #[.int .i64 0, .string ⟨#[]⟩, .int .i64 0, .slice none 0 0] TT24 (0, 0))) := Lib.hid (by rw [hw_8]; exact heap_alloc_new w_7 _)
            obtain ⟨X, hZ_8⟩ : ∃ Z, Z = w_7.heap.size := ⟨_, rfl⟩
            rw [← hZ_8] at N_8 ⊢
            have T1_8 := Lib.hid (T1_7.out.move (w' := w_8) (P' := fun b => wr.heap.size ≤ b ∧ b ∉ ([X, Y] : List Nat)) (fun b hb hp => ⟨D_8.out.block b hb, hp.1, by rw [List.mem_cons, not_or]; exact ⟨by have h0 := hb; rw [← hZ_8] at h0; exact Nat.ne_of_lt h0, hp.2⟩⟩) D_8.out.size)
            have T2_8 := Lib.hid (T2_7.out.move (w' := w_8) (P' := fun b => wr.heap.size ≤ b ∧ b ∉ ([X, Y] : List Nat)) (fun b hb hp => ⟨D_8.out.block b hb, hp.1, by rw [List.mem_cons, not_or]; exact ⟨by have h0 := hb; rw [← hZ_8] at h0; exact Nat.ne_of_lt h0, hp.2⟩⟩) D_8.out.size)
            have Y0_8 := Lib.hid ((D_8.out.block Y (Array.getElem?_eq_some_iff.1 N_7.out).1).trans N_7.out)
            have B_8 := Lib.hid (bt B_7.out D_8.out)
            have ZL_8 : Hid (∀ x ∈ ([X, Y] : List Nat), x < w_8.heap.size) := Lib.hid (fun x hx => by rcases List.mem_cons.1 hx with h | h; (rw [h]; exact (Array.getElem?_eq_some_iff.1 N_8.out).1); exact Nat.lt_of_lt_of_le (ZL_7.out x h) D_8.out.size)
            have ZX_8 : Hid (wr.heap.size ≤ X) := Lib.hid (by rw [hZ_8]; exact B_7.out.size)
            have XY_8 : Hid (X ≠ Y) := Lib.hid (by have h1 := (Array.getElem?_eq_some_iff.1 N_7.out).1; rw [← hZ_8] at h1; omega)
            clear hw_8 hZ_8
            refine WD_ready (rs := [8]) (by kernel_rfl) (by simp) ?_
            refine AllD.cons (o := _) rfl (fun K hK => ?_) AllD.nil
            obtain ⟨⟨y0, y1, y2, y3⟩, k0, k1, k2, k3⟩ := zero_cells N_8.out
            rw [if_pos (by rfl)]
            go_simp
            refine hK.out _ _ (B_8.out.trans (Frm.below (frm4 w_8 X (.int .i64 U1.k) (.string U1.nm) (.int .i64 U1.vr) (.slice A1 U1.args.length c1)) (fun q hq => by have e : q = X := hq; have := ZX_8.out; omega) B_8.out.size)) (fun hHeld => ?_)
            clear hK K
            (try simp only [putz])
            clear hHeld
            obtain ⟨w_9, hw_9⟩ : ∃ z, z = ((((w_8.setCell ⟨X, 0, none⟩ (.int .i64 U1.k)).setCell ⟨X, 1, none⟩ (.string U1.nm)).setCell ⟨X, 2, none⟩ (.int .i64 U1.vr)).setCell ⟨X, 3, none⟩ (.slice A1 U1.args.length c1)) := ⟨_, rfl⟩
            try rw [← hw_9]
            have D_9 : Hid (Frm w_8 w_9 (· = X)) := Lib.hid (by rw [hw_9]; exact (frm4 w_8 X (.int .i64 U1.k) (.string U1.nm) (.int .i64 U1.vr) (.slice A1 U1.args.length c1)))
            have XF_9 : Hid (w_9.heap[X]? = some (.cells #[.int .i64 U1.k, .string U1.nm, .int .i64 U1.vr, .slice A1 U1.args.length c1] TT24 (0, 0))) := Lib.hid (by rw [hw_9]; exact cells_all _ _ _ _ N_8.out)
            have T1_9 := Lib.hid (T1_8.out.move (w' := w_9) (P' := fun b => wr.heap.size ≤ b ∧ b ∉ ([X, Y] : List Nat)) (fun b hb hp => ⟨D_9.out.block b hb (fun e => hp.2 (by rw [show b = X from e]; simp)), hp.1, hp.2⟩) D_9.out.size)
            have T2_9 := Lib.hid (T2_8.out.move (w' := w_9) (P' := fun b => wr.heap.size ≤ b ∧ b ∉ ([X, Y] : List Nat)) (fun b hb hp => ⟨D_9.out.block b hb (fun e => hp.2 (by rw [show b = X from e]; simp)), hp.1, hp.2⟩) D_9.out.size)
            have Y0_9 := Lib.hid ((D_9.out.block Y (Array.getElem?_eq_some_iff.1 Y0_8.out).1 (fun e => XY_8.out e.symm)).trans Y0_8.out)
            have B_9 := Lib.hid (B_8.out.trans (D_9.out.below (fun q hq => by have e : q = X := hq; have := ZX_8.out; omega) B_8.out.size))
            have ZL_9 : Hid (∀ x ∈ ([X, Y] : List Nat), x < w_9.heap.size) := Lib.hid (fun x hx => Nat.lt_of_lt_of_le (ZL_8.out x hx) D_9.out.size)
            clear hw_9 y0 y1 y2 y3 k0 k1 k2 k3
            refine WD_ready (rs := [9]) (by kernel_rfl) (by simp) ?_
            refine AllD.last (o := _) rfl (by kernel_rfl) (fun K hK => ?_) AllD.nil
            obtain ⟨⟨y0, y1, y2, y3⟩, k0, k1, k2, k3⟩ := zero_cells Y0_9.out
            rw [if_pos (by rfl)]
            go_simp
            refine hK.out _ _ ?_
            clear hK K
            (try simp only [putz])
            obtain ⟨w_10, hw_10⟩ : ∃ z, z = ((((w_9.setCell ⟨Y, 0, none⟩ (.int .i64 U2.k)).setCell ⟨Y, 1, none⟩ (.string U2.nm)).setCell ⟨Y, 2, none⟩ (.int .i64 U2.vr)).setCell ⟨Y, 3, none⟩ (.slice A2 U2.args.length c2)) := ⟨_, rfl⟩
            try rw [← hw_10]
            have D_10 : Hid (Frm w_9 w_10 (· = Y)) := Lib.hid (by rw [hw_10]; exact (frm4 w_9 Y (.int .i64 U2.k) (.string U2.nm) (.int .i64 U2.vr) (.slice A2 U2.args.length c2)))
            have YF_10 : Hid (w_10.heap[Y]? = some (.cells #[.int .i64 U2.k, .string U2.nm, .int .i64 U2.vr, .slice A2 U2.args.length c2] TT24 (0, 0))) := Lib.hid (by rw [hw_10]; exact cells_all _ _ _ _ Y0_9.out)
            have T1_10 := Lib.hid (T1_9.out.move (w' := w_10) (P' := fun b => wr.heap.size ≤ b ∧ b ∉ ([X, Y] : List Nat)) (fun b hb hp => ⟨D_10.out.block b hb (fun e => hp.2 (by rw [show b = Y from e]; simp)), hp.1, hp.2⟩) D_10.out.size)
            have T2_10 := Lib.hid (T2_9.out.move (w' := w_10) (P' := fun b => wr.heap.size ≤ b ∧ b ∉ ([X, Y] : List Nat)) (fun b hb hp => ⟨D_10.out.block b hb (fun e => hp.2 (by rw [show b = Y from e]; simp)), hp.1, hp.2⟩) D_10.out.size)
            have XF_10 := Lib.hid ((D_10.out.block X (Array.getElem?_eq_some_iff.1 XF_9.out).1 (fun e => XY_8.out e)).trans XF_9.out)
            have B_10 := Lib.hid (B_9.out.trans (D_10.out.below (fun q hq => by have e : q = Y := hq; have := ZY_7.out; omega) B_9.out.size))
            have ZL_10 : Hid (∀ x ∈ ([X, Y] : List Nat), x < w_10.heap.size) := Lib.hid (fun x hx => Nat.lt_of_lt_of_le (ZL_9.out x hx) D_10.out.size)
            clear hw_10 y0 y1 y2 y3 k0 k1 k2 k3
            refine WD_done (by kernel_rfl) ?_ _
            exact ⟨X, Y, A1, c1, A2, c2, _, _, _, _, _, _, by rfl, ⟨XF_10.out, YF_10.out, T1_10.out.weak (fun _ _ h => h.1), T2_10.out.weak (fun _ _ h => h.1), B_10.out, ZX_8.out, ZY_7.out⟩⟩
        · rw [if_pos (by rfl)]
          go_simp
          refine hK.out _ _ (bt B_1.out (below_alloc w_1 _)) (fun hHeld => ?_)
          clear hK K
          (try simp only [putz])
          obtain ⟨w_11, hw_11⟩ : ∃ z, z = w_1.alloc (.cells #[.int .i64 0, .string ⟨#[]⟩, .int .i64 0, .slice none 0 0] TT24) := ⟨_, rfl⟩
          try rw [← hw_11]
          clear hHeld
          have D_11 : Hid (Below w_1.heap.size w_1 w_11) := Lib.hid (by rw [hw_11]; exact below_alloc w_1 _)
          have N_11 : Hid (w_11.heap[w_1.heap.size]? = some (.cells #[.int .i64 0, .string ⟨#[]⟩, .int .i64 0, .slice none 0 0] TT24 (0, 0))) := Lib.hid (by rw [hw_11]; exact heap_alloc_new w_1 _)
          obtain ⟨X, hZ_11⟩ : ∃ Z, Z = w_1.heap.size := ⟨_, rfl⟩
          rw [← hZ_11] at N_11 ⊢
          have T1_11 := Lib.hid (T1_1.out.move (w' := w_11) (P' := fun b => wr.heap.size ≤ b ∧ b ∉ ([X] : List Nat)) (fun b hb hp => ⟨D_11.out.block b hb, hp.1, by rw [List.mem_cons, not_or]; exact ⟨by have h0 := hb; rw [← hZ_11] at h0; exact Nat.ne_of_lt h0, hp.2⟩⟩) D_11.out.size)
          have B_11 := Lib.hid (bt B_1.out D_11.out)
          have ZL_11 : Hid (∀ x ∈ ([X] : List Nat), x < w_11.heap.size) := Lib.hid (fun x hx => by rcases List.mem_cons.1 hx with h | h; (rw [h]; exact (Array.getElem?_eq_some_iff.1 N_11.out).1); exact Nat.lt_of_lt_of_le (ZL_1.out x h) D_11.out.size)
          have ZX_11 : Hid (wr.heap.size ≤ X) := Lib.hid (by rw [hZ_11]; exact B_1.out.size)
          clear hw_11 hZ_11
          refine WD_ready (rs := [5, 7]) (by kernel_rfl) (by simp) ?_
          refine AllD.cons (o := _) rfl (fun K hK => ?_) (AllD.cons (o := _) rfl (fun K hK => ?_) AllD.nil)
          · rw [if_pos (by rfl)]
            go_simp
            refine (AF2.out _ B_11.out).mono ?_; rintro e w_12 ⟨A2, c2, rfl, r_12, d_12⟩
            unfold tv
            try go_wp2_with fail
            refine hK.out _ _ (bt B_11.out d_12) (fun hHeld => ?_)
            clear hK K
            (try simp only [putz])
            clear hHeld
            have D_12 := Lib.hid d_12
            have T1_12 := Lib.hid (T1_11.out.move (w' := w_12) (P' := fun b => wr.heap.size ≤ b ∧ b ∉ ([X] : List Nat)) (fun b hb hp => ⟨D_12.out.block b hb, hp.1, hp.2⟩) D_12.out.size)
            have X0_12 := Lib.hid ((D_12.out.block X (Array.getElem?_eq_some_iff.1 N_11.out).1).trans N_11.out)
            have B_12 := Lib.hid (bt B_11.out D_12.out)
            have ZL_12 : Hid (∀ x ∈ ([X] : List Nat), x < w_12.heap.size) := Lib.hid (fun x hx => Nat.lt_of_lt_of_le (ZL_11.out x hx) D_12.out.size)
            have T2_12 := Lib.hid (r_12.weak (P' := fun b => wr.heap.size ≤ b ∧ b ∉ ([X] : List Nat)) (fun b _ hp => ⟨Nat.le_trans B_11.out.size hp, notin_ge ZL_11.out hp⟩))
            clear r_12 d_12
            refine WD_ready (rs := [7]) (by kernel_rfl) (by simp) ?_
            refine AllD.cons (o := _) rfl (fun K hK => ?_) AllD.nil
            rw [if_pos (by rfl)]
            go_simp
            refine hK.out _ _ (bt B_12.out (below_alloc w_12 _)) (fun hHeld => ?_)
            clear hK K
            (try simp only [putz])
            obtain ⟨w_13, hw_13⟩ : ∃ z, z = w_12.alloc (.cells #[.int .i64 0, .string ⟨#[]⟩, .int .i64 0, .slice none 0 0] TT24) := ⟨_, rfl⟩
            try rw [← hw_13]
            clear hHeld
            have D_13 : Hid (Below w_12.heap.size w_12 w_13) := Lib.hid (by rw [hw_13]; exact below_alloc w_12 _)
            have N_13 : Hid (w_13.heap[w_12.heap.size]? = some (.cells #[.int .i64 0, .string ⟨#[]⟩, .int .i64 0, .slice none 0 0] TT24 (0, 0))) := Lib.hid (by rw [hw_13]; exact heap_alloc_new w_12 _)
            obtain ⟨Y, hZ_13⟩ : ∃ Z, Z = w_12.heap.size := ⟨_, rfl⟩
            rw [← hZ_13] at N_13 ⊢
            have T1_13 := Lib.hid (T1_12.out.move (w' := w_13) (P' := fun b => wr.heap.size ≤ b ∧ b ∉ ([Y, X] : List Nat)) (fun b hb hp => ⟨D_13.out.block b hb, hp.1, by rw [List.mem_cons, not_or]; exact ⟨by have h0 := hb; rw [← hZ_13] at h0; exact Nat.ne_of_lt h0, hp.2⟩⟩) D_13.out.size)
            have T2_13 := Lib.hid (T2_12.out.move (w' := w_13) (P' := fun b => wr.heap.size ≤ b ∧ b ∉ ([Y, X] : List Nat)) (fun b hb hp => ⟨D_13.out.block b hb, hp.1, by rw [List.mem_cons, not_or]; exact ⟨by have h0 := hb; rw [← hZ_13] at h0; exact Nat.ne_of_lt h0, hp.2⟩⟩) D_13.out.size)
            have X0_13 := Lib.hid ((D_13.out.block X (Array.getElem?_eq_some_iff.1 X0_12.out).1).trans X0_12.out)
            have B_13 := Lib.hid (bt B_12.out D_13.out)
            have ZL_13 : Hid (∀ x ∈ ([Y, X] : List Nat), x < w_13.heap.size) := Lib.hid (fun x hx => by rcases List.mem_cons.1 hx with h | h; (rw [h]; exact (Array.getElem?_eq_some_iff.1 N_13.out).1); exact Nat.lt_of_lt_of_le (ZL_12.out x h) D_13.out.size)
            have ZY_13 : Hid (wr.heap.size ≤ Y) := Lib.hid (by rw [hZ_13]; exact B_12.out.size)
            have XY_13 : Hid (X ≠ Y) := Lib.hid (by have h1 := (Array.getElem?_eq_some_iff.1 X0_12.out).1; rw [← hZ_13] at h1; omega)
            clear hw_13 hZ_13
            refine WD_ready (rs := [8]) (by kernel_rfl) (by simp) ?_
            refine AllD.cons (o := _) rfl (fun K hK => ?_) AllD.nil
            obtain ⟨⟨y0, y1, y2, y3⟩, k0, k1, k2, k3⟩ := zero_cells X0_13.out
            rw [if_pos (by rfl)]
            go_simp
            refine hK.out _ _ (B_13.out.trans (Frm.below (frm4 w_13 X (.int .i64 U1.k) (.string U1.nm) (.int .i64 U1.vr) (.slice A1 U1.args.length c1)) (fun q hq => by have e : q = X := hq; have := ZX_11.out; omega) B_13.out.size)) (fun hHeld => ?_)
            clear hK K
            (try simp only [putz])
            clear hHeld
            obtain ⟨w_14, hw_14⟩ : ∃ z, z = ((((w_13.setCell ⟨X, 0, none⟩ (.int .i64 U1.k)).setCell ⟨X, 1, none⟩ (.string U1.nm)).setCell ⟨X, 2, none⟩ (.int .i64 U1.vr)).setCell ⟨X, 3, none⟩ (.slice A1 U1.args.length c1)) := ⟨_, rfl⟩
            try rw [← hw_14]
            have D_14 : Hid (Frm w_13 w_14 (· = X)) := Lib.hid (by rw [hw_14]; exact (frm4 w_13 X (.int .i64 U1.k) (.string U1.nm) (.int .i64 U1.vr) (.slice A1 U1.args.length c1)))
            have XF_14 : Hid (w_14.heap[X]? = some (.cells #[.int .i64 U1.k, .string U1.nm, .int .i64 U1.vr, .slice A1 U1.args.length c1] TT24 (0, 0))) := Lib.hid (by rw [hw_14]; exact cells_all _ _ _ _ X0_13.out)
            have T1_14 := Lib.hid (T1_13.out.move (w' := w_14) (P' := fun b => wr.heap.size ≤ b ∧ b ∉ ([Y, X] : List Nat)) (fun b hb hp => ⟨D_14.out.block b hb (fun e => hp.2 (by rw [show b = X from e]; simp)), hp.1, hp.2⟩) D_14.out.size)
            have T2_14 := Lib.hid (T2_13.out.move (w' := w_14) (P' := fun b => wr.heap.size ≤ b ∧ b ∉ ([Y, X] : List Nat)) (fun b hb hp => ⟨D_14.out.block b hb (fun e => hp.2 (by rw [show b = X from e]; simp)), hp.1, hp.2⟩) D_14.out.size)
            have Y0_14 := Lib.hid ((D_14.out.block Y (Array.getElem?_eq_some_iff.1 N_13.out).1 (fun e => XY_13.out e.symm)).trans N_13.out)
            have B_14 := Lib.hid (B_13.out.trans (D_14.out.below (fun q hq => by have e : q = X := hq; have := ZX_11.out; omega) B_13.out.size))
            have ZL_14 : Hid (∀ x ∈ ([Y, X] : List Nat), x < w_14.heap.size) := Lib.hid (fun x hx => Nat.lt_of_lt_of_le (ZL_13.out x hx) D_14.out.size)
            clear hw_14 y0 y1 y2 y3 k0 k1 k2 k3
            refine WD_ready (rs := [9]) (by kernel_rfl) (by simp) ?_
            refine AllD.last (o := _) rfl (by kernel_rfl) (fun K hK => ?_) AllD.nil
            obtain ⟨⟨y0, y1, y2, y3⟩, k0, k1, k2, k3⟩ := zero_cells Y0_14.out
            rw [if_pos (by rfl)]
            go_simp
            refine hK.out _ _ ?_
            clear hK K
            (try simp only [putz])
            obtain ⟨w_15, hw_15⟩ : ∃ z, z = ((((w_14.setCell ⟨Y, 0, none⟩ (.int .i64 U2.k)).setCell ⟨Y, 1, none⟩ (.string U2.nm)).setCell ⟨Y, 2, none⟩ (.int .i64 U2.vr)).setCell ⟨Y, 3, none⟩ (.slice A2 U2.args.length c2)) := ⟨_, rfl⟩
            try rw [← hw_15]
            have D_15 : Hid (Frm w_14 w_15 (· = Y)) := Lib.hid (by rw [hw_15]; exact (frm4 w_14 Y (.int .i64 U2.k) (.string U2.nm) (.int .i64 U2.vr) (.slice A2 U2.args.length c2)))
            have YF_15 : Hid (w_15.heap[Y]? = some (.cells #[.int .i64 U2.k, .string U2.nm, .int .i64 U2.vr, .slice A2 U2.args.length c2] TT24 (0, 0))) := Lib.hid (by rw [hw_15]; exact cells_all _ _ _ _ Y0_14.out)
            have T1_15 := Lib.hid (T1_14.out.move (w' := w_15) (P' := fun b => wr.heap.size ≤ b ∧ b ∉ ([Y, X] : List Nat)) (fun b hb hp => ⟨D_15.out.block b hb (fun e => hp.2 (by rw [show b = Y from e]; simp)), hp.1, hp.2⟩) D_15.out.size)
            have T2_15 := Lib.hid (T2_14.out.move (w' := w_15) (P' := fun b => wr.heap.size ≤ b ∧ b ∉ ([Y, X] : List Nat)) (fun b hb hp => ⟨D_15.out.block b hb (fun e => hp.2 (by rw [show b = Y from e]; simp)), hp.1, hp.2⟩) D_15.out.size)
            have XF_15 := Lib.hid ((D_15.out.block X (Array.getElem?_eq_some_iff.1 XF_14.out).1 (fun e => XY_13.out e)).trans XF_14.out)
            have B_15 := Lib.hid (B_14.out.trans (D_15.out.below (fun q hq => by have e : q = Y := hq; have := ZY_13.out; omega) B_14.out.size))
            have ZL_15 : Hid (∀ x ∈ ([Y, X] : List Nat), x < w_15.heap.size) := Lib.hid (fun x hx => Nat.lt_of_lt_of_le (ZL_14.out x hx) D_15.out.size)
            clear hw_15 y0 y1 y2 y3 k0 k1 k2 k3
            refine WD_done (by kernel_rfl) ?_ _
            exact ⟨X, Y, A1, c1, A2, c2, _, _, _, _, _, _, by rfl, ⟨XF_15.out, YF_15.out, T1_15.out.weak (fun _ _ h => h.1), T2_15.out.weak (fun _ _ h => h.1), B_15.out, ZX_11.out, ZY_13.out⟩⟩
          · rw [if_pos (by rfl)]
            go_simp
            refine hK.out _ _ (bt B_11.out (below_alloc w_11 _)) (fun hHeld => ?_)
            clear hK K
            (try simp only [putz])
            obtain ⟨w_16, hw_16⟩ : ∃ z, z = w_11.alloc (.cells #[.int .i64 0, .string ⟨#[]⟩, .int .i64 0, .slice none 0 0] TT24) := ⟨_, rfl⟩
            try rw [← hw_16]
            clear hHeld
            have D_16 : Hid (Below w_11.heap.size w_11 w_16) := Lib.hid (by rw [hw_16]; exact below_alloc w_11 _)
            have N_16 : Hid (w_16.heap[w_11.heap.size]? = some (.cells #[.int .i64 0, .string ⟨#[]⟩, .int .i64 0, .slice none 0 0] TT24 (0, 0))) := Lib.hid (by rw [hw_16]; exact heap_alloc_new w_11 _)
            obtain ⟨Y, hZ_16⟩ : ∃ Z, Z = w_11.heap.size := ⟨_, rfl⟩
            rw [← hZ_16] at N_16 ⊢
            have T1_16 := Lib.hid (T1_11.out.move (w' := w_16) (P' := fun b => wr.heap.size ≤ b ∧ b ∉ ([Y, X] : List Nat)) (fun b hb hp => ⟨D_16.out.block b hb, hp.1, by rw [List.mem_cons, not_or]; exact ⟨by have h0 := hb; rw [← hZ_16] at h0; exact Nat.ne_of_lt h0, hp.2⟩⟩) D_16.out.size)
            have X0_16 := Lib.hid ((D_16.out.block X (Array.getElem?_eq_some_iff.1 N_11.out).1).trans N_11.out)
            have B_16 := Lib.hid (bt B_11.out D_16.out)
            have ZL_16 : Hid (∀ x ∈ ([Y, X] : List Nat), x < w_16.heap.size) := Lib.hid (fun x hx => by rcases List.mem_cons.1 hx with h | h; (rw [h]; exact (Array.getElem?_eq_some_iff.1 N_16.out).1); exact Nat.lt_of_lt_of_le (ZL_11.out x h) D_16.out.size)
            have ZY_16 : Hid (wr.heap.size ≤ Y) := Lib.hid (by rw [hZ_16]; exact B_11.out.size)
            have XY_16 : Hid (X ≠ Y) := Lib.hid (by have h1 := (Array.getElem?_eq_some_iff.1 N_11.out).1; rw [← hZ_16] at h1; omega)
            clear hw_16 hZ_16
            refine WD_ready (rs := [5]) (by kernel_rfl) (by simp) ?_
            refine AllD.cons (o := _) rfl (fun K hK => ?_) AllD.nil
            rw [if_pos (by rfl)]
            go_simp
            refine (AF2.out _ B_16.out).mono ?_; rintro e w_17 ⟨A2, c2, rfl, r_17, d_17⟩
            unfold tv
            try go_wp2_with fail
            refine hK.out _ _ (bt B_16.out d_17) (fun hHeld => ?_)
            clear hK K
            (try simp only [putz])
            clear hHeld
            have D_17 := Lib.hid d_17
            have T1_17 := Lib.hid (T1_16.out.move (w' := w_17) (P' := fun b => wr.heap.size ≤ b ∧ b ∉ ([Y, X] : List Nat)) (fun b hb hp => ⟨D_17.out.block b hb, hp.1, hp.2⟩) D_17.out.size)
            have X0_17 := Lib.hid ((D_17.out.block X (Array.getElem?_eq_some_iff.1 X0_16.out).1).trans X0_16.out)
            have Y0_17 := Lib.hid ((D_17.out.block Y (Array.getElem?_eq_some_iff.1 N_16.out).1).trans N_16.out)
            have B_17 := Lib.hid (bt B_16.out D_17.out)
            have ZL_17 : Hid (∀ x ∈ ([Y, X] : List Nat), x < w_17.heap.size) := Lib.hid (fun x hx => Nat.lt_of_lt_of_le (ZL_16.out x hx) D_17.out.size)
            have T2_17 := Lib.hid (r_17.weak (P' := fun b => wr.heap.size ≤ b ∧ b ∉ ([Y, X] : List Nat)) (fun b _ hp => ⟨Nat.le_trans B_16.out.size hp, notin_ge ZL_16.out hp⟩))
            clear r_17 d_17
            refine WD_ready (rs := [8]) (by kernel_rfl) (by simp) ?_
            refine AllD.cons (o := _) rfl (fun K hK => ?_) AllD.nil
            obtain ⟨⟨y0, y1, y2, y3⟩, k0, k1, k2, k3⟩ := zero_cells X0_17.out
            rw [if_pos (by rfl)]
            go_simp
            refine hK.out _ _ (B_17.out.trans (Frm.below (frm4 w_17 X (.int .i64 U1.k) (.string U1.nm) (.int .i64 U1.vr) (.slice A1 U1.args.length c1)) (fun q hq => by have e : q = X := hq; have := ZX_11.out; omega) B_17.out.size)) (fun hHeld => ?_)
            clear hK K
            (try simp only [putz])
            clear hHeld
            obtain ⟨w_18, hw_18⟩ : ∃ z, z = ((((w_17.setCell ⟨X, 0, none⟩ (.int .i64 U1.k)).setCell ⟨X, 1, none⟩ (.string U1.nm)).setCell ⟨X, 2, none⟩ (.int .i64 U1.vr)).setCell ⟨X, 3, none⟩ (.slice A1 U1.args.length c1)) := ⟨_, rfl⟩
            try rw [← hw_18]
            have D_18 : Hid (Frm w_17 w_18 (· = X)) := Lib.hid (by rw [hw_18]; exact (frm4 w_17 X (.int .i64 U1.k) (.string U1.nm) (.int .i64 U1.vr) (.slice A1 U1.args.length c1)))
            have XF_18 : Hid (w_18.heap[X]? = some (.cells #[.int .i64 U1.k, .string U1.nm, .int .i64 U1.vr, .slice A1 U1.args.length c1] TT24 (0, 0))) := Lib.hid (by rw [hw_18]; exact cells_all _ _ _ _ X0_17.out)
            have T1_18 := Lib.hid (T1_17.out.move (w' := w_18) (P' := fun b => wr.heap.size ≤ b ∧ b ∉ ([Y, X] : List Nat)) (fun b hb hp => ⟨D_18.out.block b hb (fun e => hp.2 (by rw [show b = X from e]; simp)), hp.1, hp.2⟩) D_18.out.size)
            have T2_18 := Lib.hid (T2_17.out.move (w' := w_18) (P' := fun b => wr.heap.size ≤ b ∧ b ∉ ([Y, X] : List Nat)) (fun b hb hp => ⟨D_18.out.block b hb (fun e => hp.2 (by rw [show b = X from e]; simp)), hp.1, hp.2⟩) D_18.out.size)
            have Y0_18 := Lib.hid ((D_18.out.block Y (Array.getElem?_eq_some_iff.1 Y0_17.out).1 (fun e => XY_16.out e.symm)).trans Y0_17.out)
            have B_18 := Lib.hid (B_17.out.trans (D_18.out.below (fun q hq => by have e : q = X := hq; have := ZX_11.out; omega) B_17.out.size))
            have ZL_18 : Hid (∀ x ∈ ([Y, X] : List Nat), x < w_18.heap.size) := Lib.hid (fun x hx => Nat.lt_of_lt_of_le (ZL_17.out x hx) D_18.out.size)
            clear hw_18 y0 y1 y2 y3 k0 k1 k2 k3
            refine WD_ready (rs := [9]) (by kernel_rfl) (by simp) ?_
            refine AllD.last (o := _) rfl (by kernel_rfl) (fun K hK => ?_) AllD.nil
            obtain ⟨⟨y0, y1, y2, y3⟩, k0, k1, k2, k3⟩ := zero_cells Y0_18.out
            rw [if_pos (by rfl)]
            go_simp
            refine hK.out _ _ ?_
            clear hK K
            (try simp only [putz])
            obtain ⟨w_19, hw_19⟩ : ∃ z, z = ((((w_18.setCell ⟨Y, 0, none⟩ (.int .i64 U2.k)).setCell ⟨Y, 1, none⟩ (.string U2.nm)).setCell ⟨Y, 2, none⟩ (.int .i64 U2.vr)).setCell ⟨Y, 3, none⟩ (.slice A2 U2.args.length c2)) := ⟨_, rfl⟩
            try rw [← hw_19]
            have D_19 : Hid (Frm w_18 w_19 (· = Y)) := Lib.hid (by rw [hw_19]; exact (frm4 w_18 Y (.int .i64 U2.k) (.string U2.nm) (.int .i64 U2.vr) (.slice A2 U2.args.length c2)))
            have YF_19 : Hid (w_19.heap[Y]? = some (.cells #[.int .i64 U2.k, .string U2.nm, .int .i64 U2.vr, .slice A2 U2.args.length c2] TT24 (0, 0))) := Lib.hid (by rw [hw_19]; exact cells_all _ _ _ _ Y0_18.out)
            have T1_19 := Lib.hid (T1_18.out.move (w' := w_19) (P' := fun b => wr.heap.size ≤ b ∧ b ∉ ([Y, X] : List Nat)) (fun b hb hp => ⟨D_19.out.block b hb (fun e => hp.2 (by rw [show b = Y from e]; simp)), hp.1, hp.2⟩) D_19.out.size)
            have T2_19 := Lib.hid (T2_18.out.move (w' := w_19) (P' := fun b => wr.heap.size ≤ b ∧ b ∉ ([Y, X] : List Nat)) (fun b hb hp => ⟨D_19.out.block b hb (fun e => hp.2 (by rw [show b = Y from e]; simp)), hp.1, hp.2⟩) D_19.out.size)
            have XF_19 := Lib.hid ((D_19.out.block X (Array.getElem?_eq_some_iff.1 XF_18.out).1 (fun e => XY_16.out e)).trans XF_18.out)
            have B_19 := Lib.hid (B_18.out.trans (D_19.out.below (fun q hq => by have e : q = Y := hq; have := ZY_16.out; omega) B_18.out.size))
            have ZL_19 : Hid (∀ x ∈ ([Y, X] : List Nat), x < w_19.heap.size) := Lib.hid (fun x hx => Nat.lt_of_lt_of_le (ZL_18.out x hx) D_19.out.size)
            clear hw_19 y0 y1 y2 y3 k0 k1 k2 k3
            refine WD_done (by kernel_rfl) ?_ _
            exact ⟨X, Y, A1, c1, A2, c2, _, _, _, _, _, _, by rfl, ⟨XF_19.out, YF_19.out, T1_19.out.weak (fun _ _ h => h.1), T2_19.out.weak (fun _ _ h => h.1), B_19.out, ZX_11.out, ZY_16.out⟩⟩
        · rw [if_pos (by rfl)]
          go_simp
          refine hK.out _ _ (bt B_1.out (below_alloc w_1 _)) (fun hHeld => ?_)
          clear hK K
          (try simp only [putz])
          obtain ⟨w_20, hw_20⟩ : ∃ z, z = w_1.alloc (.cells #[.int .i64 0, .string ⟨#[]⟩, .int .i64 0, .slice none 0 0] TT24) := ⟨_, rfl⟩
          try rw [← hw_20]
          clear hHeld
          have D_20 : Hid (Below w_1.heap.size w_1 w_20) := Lib.hid (by rw [hw_20]; exact below_alloc w_1 _)
          have N_20 : Hid (w_20.heap[w_1.heap.size]? = some (.cells #[.int .i64 0, .string ⟨#[]⟩, .int .i64 0, .slice none 0 0] TT24 (0, 0))) := Lib.hid (by rw [hw_20]; exact heap_alloc_new w_1 _)
          obtain ⟨Y, hZ_20⟩ : ∃ Z, Z = w_1.heap.size := ⟨_, rfl⟩
          rw [← hZ_20] at N_20 ⊢
          have T1_20 := Lib.hid (T1_1.out.move (w' := w_20) (P' := fun b => wr.heap.size ≤ b ∧ b ∉ ([Y] : List Nat)) (fun b hb hp => ⟨D_20.out.block b hb, hp.1, by rw [List.mem_cons, not_or]; exact ⟨by have h0 := hb; rw [← hZ_20] at h0; exact Nat.ne_of_lt h0, hp.2⟩⟩) D_20.out.size)
          have B_20 := Lib.hid (bt B_1.out D_20.out)
          have ZL_20 : Hid (∀ x ∈ ([Y] : List Nat), x < w_20.heap.size) := Lib.hid (fun x hx => by rcases List.mem_cons.1 hx with h | h; (rw [h]; exact (Array.getElem?_eq_some_iff.1 N_20.out).1); exact Nat.lt_of_lt_of_le (ZL_1.out x h) D_20.out.size)
          have ZY_20 : Hid (wr.heap.size ≤ Y) := Lib.hid (by rw [hZ_20]; exact B_1.out.size)
          clear hw_20 hZ_20
          refine WD_ready (rs := [5, 6]) (by kernel_rfl) (by simp) ?_
          refine AllD.cons (o := _) rfl (fun K hK => ?_) (AllD.cons (o := _) rfl (fun K hK => ?_) AllD.nil)
          · rw [if_pos (by rfl)]
            go_simp
            refine (AF2.out _ B_20.out).mono ?_; rintro e w_21 ⟨A2, c2, rfl, r_21, d_21⟩
            unfold tv
            try go_wp2_with fail
            refine hK.out _ _ (bt B_20.out d_21) (fun hHeld => ?_)
            clear hK K
            (try simp only [putz])
            clear hHeld
            have D_21 := Lib.hid d_21
            have T1_21 := Lib.hid (T1_20.out.move (w' := w_21) (P' := fun b => wr.heap.size ≤ b ∧ b ∉ ([Y] : List Nat)) (fun b hb hp => ⟨D_21.out.block b hb, hp.1, hp.2⟩) D_21.out.size)
            have Y0_21 := Lib.hid ((D_21.out.block Y (Array.getElem?_eq_some_iff.1 N_20.out).1).trans N_20.out)
            have B_21 := Lib.hid (bt B_20.out D_21.out)
            have ZL_21 : Hid (∀ x ∈ ([Y] : List Nat), x < w_21.heap.size) := Lib.hid (fun x hx => Nat.lt_of_lt_of_le (ZL_20.out x hx) D_21.out.size)
            have T2_21 := Lib.hid (r_21.weak (P' := fun b => wr.heap.size ≤ b ∧ b ∉ ([Y] : List Nat)) (fun b _ hp => ⟨Nat.le_trans B_20.out.size hp, notin_ge ZL_20.out hp⟩))
            clear r_21 d_21
            refine WD_ready (rs := [6]) (by kernel_rfl) (by simp) ?_
            refine AllD.cons (o := _) rfl (fun K hK => ?_) AllD.nil
            rw [if_pos (by rfl)]
            go_simp
            refine hK.out _ _ (bt B_21.out (below_alloc w_21 _)) (fun hHeld => ?_)
            clear hK K
            (try simp only [putz])
            obtain ⟨w_22, hw_22⟩ : ∃ z, z = w_21.alloc (.cells #[.int .i64 0, .string ⟨#[]⟩, .int .i64 0, .slice none 0 0] TT24) := ⟨_, rfl⟩
            try rw [← hw_22]
            clear hHeld
            have D_22 : Hid (Below w_21.heap.size w_21 w_22) := Lib.hid (by rw [hw_22]; exact below_alloc w_21 _)
            have N_22 : Hid (w_22.heap[w_21.heap.size]? = some (.cells #[.int .i64 0, .string ⟨#[]⟩, .int .i64 0, .slice none 0 0] TT24 (0, 0))) := Lib.hid (by rw [hw_22]; exact heap_alloc_new w_21 _)
            obtain ⟨X, hZ_22⟩ : ∃ Z, Z = w_21.heap.size := ⟨_, rfl⟩
            rw [← hZ_22] at N_22 ⊢
            have T1_22 := Lib.hid (T1_21.out.move (w' := w_22) (P' := fun b => wr.heap.size ≤ b ∧ b ∉ ([X, Y] : List Nat)) (fun b hb hp => ⟨D_22.out.block b hb, hp.1, by rw [List.mem_cons, not_or]; exact ⟨by have h0 := hb; rw [← hZ_22] at h0; exact Nat.ne_of_lt h0, hp.2⟩⟩) D_22.out.size)
            have T2_22 := Lib.hid (T2_21.out.move (w' := w_22) (P' := fun b => wr.heap.size ≤ b ∧ b ∉ ([X, Y] : List Nat)) (fun b hb hp => ⟨D_22.out.block b hb, hp.1, by rw [List.mem_cons, not_or]; exact ⟨by have h0 := hb; rw [← hZ_22] at h0; exact Nat.ne_of_lt h0, hp.2⟩⟩) D_22.out.size)
            have Y0_22 := Lib.hid ((D_22.out.block Y (Array.getElem?_eq_some_iff.1 Y0_21.out).1).trans Y0_21.out)
            have B_22 := Lib.hid (bt B_21.out D_22.out)
            have ZL_22 : Hid (∀ x ∈ ([X, Y] : List Nat), x < w_22.heap.size) := Lib.hid (fun x hx => by rcases List.mem_cons.1 hx with h | h; (rw [h]; exact (Array.getElem?_eq_some_iff.1 N_22.out).1); exact Nat.lt_of_lt_of_le (ZL_21.out x h) D_22.out.size)
            have ZX_22 : Hid (wr.heap.size ≤ X) := Lib.hid (by rw [hZ_22]; exact B_21.out.size)
            have XY_22 : Hid (X ≠ Y) := Lib.hid (by have h1 := (Array.getElem?_eq_some_iff.1 Y0_21.out).1; rw [← hZ_22] at h1; omega)
            clear hw_22 hZ_22
            refine WD_ready (rs := [8]) (by kernel_rfl) (by simp) ?_
            refine AllD.cons (o := _) rfl (fun K hK => ?_) AllD.nil
            obtain ⟨⟨y0, y1, y2, y3⟩, k0, k1, k2, k3⟩ := zero_cells N_22.out
            rw [if_pos (by rfl)]
            go_simp
            refine hK.out _ _ (B_22.out.trans (Frm.below (frm4 w_22 X (.int .i64 U1.k) (.string U1.nm) (.int .i64 U1.vr) (.slice A1 U1.args.length c1)) (fun q hq => by have e : q = X := hq; have := ZX_22.out; omega) B_22.out.size)) (fun hHeld => ?_)
            clear hK K
            (try simp only [putz])
            clear hHeld
            obtain ⟨w_23, hw_23⟩ : ∃ z, z = ((((w_22.setCell ⟨X, 0, none⟩ (.int .i64 U1.k)).setCell ⟨X, 1, none⟩ (.string U1.nm)).setCell ⟨X, 2, none⟩ (.int .i64 U1.vr)).setCell ⟨X, 3, none⟩ (.slice A1 U1.args.length c1)) := ⟨_, rfl⟩
            try rw [← hw_23]
            have D_23 : Hid (Frm w_22 w_23 (· = X)) := Lib.hid (by rw [hw_23]; exact (frm4 w_22 X (.int .i64 U1.k) (.string U1.nm) (.int .i64 U1.vr) (.slice A1 U1.args.length c1)))
            have XF_23 : Hid (w_23.heap[X]? = some (.cells #[.int .i64 U1.k, .string U1.nm, .int .i64 U1.vr, .slice A1 U1.args.length c1] TT24 (0, 0))) := Lib.hid (by rw [hw_23]; exact cells_all _ _ _ _ N_22.out)
            have T1_23 := Lib.hid (T1_22.out.move (w' := w_23) (P' := fun b => wr.heap.size ≤ b ∧ b ∉ ([X, Y] : List Nat)) (fun b hb hp => ⟨D_23.out.block b hb (fun e => hp.2 (by rw [show b = X from e]; simp)), hp.1, hp.2⟩) D_23.out.size)
            have T2_23 := Lib.hid (T2_22.out.move (w' := w_23) (P' := fun b => wr.heap.size ≤ b ∧ b ∉ ([X, Y] : List Nat)) (fun b hb hp => ⟨D_23.out.block b hb (fun e => hp.2 (by rw [show b = X from e]; simp)), hp.1, hp.2⟩) D_23.out.size)
            have Y0_23 := Lib.hid ((D_23.out.block Y (Array.getElem?_eq_some_iff.1 Y0_22.out).1 (fun e => XY_22.out e.symm)).trans Y0_22.out)
            have B_23 := Lib.hid (B_22.out.trans (D_23.out.below (fun q hq => by have e : q = X := hq; have := ZX_22.out; omega) B_22.out.size))
            have ZL_23 : Hid (∀ x ∈ ([X, Y] : List Nat), x < w_23.heap.size) := Lib.hid (fun x hx => Nat.lt_of_lt_of_le (ZL_22.out x hx) D_23.out.size)
            clear hw_23 y0 y1 y2 y3 k0 k1 k2 k3
            refine WD_ready (rs := [9]) (by kernel_rfl) (by simp) ?_
            refine AllD.last (o := _) rfl (by kernel_rfl) (fun K hK => ?_) AllD.nil
            obtain ⟨⟨y0, y1, y2, y3⟩, k0, k1, k2, k3⟩ := zero_cells Y0_23.out
            rw [if_pos (by rfl)]
            go_simp
            refine hK.out _ _ ?_
            clear hK K
            (try simp only [putz])
            obtain ⟨w_24, hw_24⟩ : ∃ z, z = ((((w_23.setCell ⟨Y, 0, none⟩ (.int .i64 U2.k)).setCell ⟨Y, 1, none⟩ (.string U2.nm)).setCell ⟨Y, 2, none⟩ (.int .i64 U2.vr)).setCell ⟨Y, 3, none⟩ (.slice A2 U2.args.length c2)) := ⟨_, rfl⟩
            try rw [← hw_24]
            have D_24 : Hid (Frm w_23 w_24 (· = Y)) := Lib.hid (by rw [hw_24]; exact (frm4 w_23 Y (.int .i64 U2.k) (.string U2.nm) (.int .i64 U2.vr) (.slice A2 U2.args.length c2)))
            have YF_24 : Hid (w_24.heap[Y]? = some (.cells #[.int .i64 U2.k, .string U2.nm, .int .i64 U2.vr, .slice A2 U2.args.length c2] TT24 (0, 0))) := Lib.hid (by rw [hw_24]; exact cells_all _ _ _ _ Y0_23.out)
            have T1_24 := Lib.hid (T1_23.out.move (w' := w_24) (P' := fun b => wr.heap.size ≤ b ∧ b ∉ ([X, Y] : List Nat)) (fun b hb hp => ⟨D_24.out.block b hb (fun e => hp.2 (by rw [show b = Y from e]; simp)), hp.1, hp.2⟩) D_24.out.size)
            have T2_24 := Lib.hid (T2_23.out.move (w' := w_24) (P' := fun b => wr.heap.size ≤ b ∧ b ∉ ([X, Y] : List Nat)) (fun b hb hp => ⟨D_24.out.block b hb (fun e => hp.2 (by rw [show b = Y from e]; simp)), hp.1, hp.2⟩) D_24.out.size)
            have XF_24 := Lib.hid ((D_24.out.block X (Array.getElem?_eq_some_iff.1 XF_23.out).1 (fun e => XY_22.out e)).trans XF_23.out)
            have B_24 := Lib.hid (B_23.out.trans (D_24.out.below (fun q hq => by have e : q = Y := hq; have := ZY_20.out; omega) B_23.out.size))
            have ZL_24 : Hid (∀ x ∈ ([X, Y] : List Nat), x < w_24.heap.size) := Lib.hid (fun x hx => Nat.lt_of_lt_of_le (ZL_23.out x hx) D_24.out.size)
            clear hw_24 y0 y1 y2 y3 k0 k1 k2 k3
            refine WD_done (by kernel_rfl) ?_ _
            exact ⟨X, Y, A1, c1, A2, c2, _, _, _, _, _, _, by rfl, ⟨XF_24.out, YF_24.out, T1_24.out.weak (fun _ _ h => h.1), T2_24.out.weak (fun _ _ h => h.1), B_24.out, ZX_22.out, ZY_20.out⟩⟩
          · rw [if_pos (by rfl)]
            go_simp
            refine hK.out _ _ (bt B_20.out (below_alloc w_20 _)) (fun hHeld => ?_)
            clear hK K
            (try simp only [putz])
            obtain ⟨w_25, hw_25⟩ : ∃ z, z = w_20.alloc (.cells #[.int .i64 0, .string ⟨#[]⟩, .int .i64 0, .slice none 0 0] TT24) := ⟨_, rfl⟩
            try rw [← hw_25]
            clear hHeld
            have D_25 : Hid (Below w_20.heap.size w_20 w_25) := Lib.hid (by rw [hw_25]; exact below_alloc w_20 _)
            have N_25 : Hid (w_25.heap[w_20.heap.size]? = some (.cells #[.int .i64 0, .string ⟨#[]⟩, .int .i64 0, .slice none 0 0] TT24 (0, 0))) := Lib.hid (by rw [hw_25]; exact heap_alloc_new w_20 _)
            obtain ⟨X, hZ_25⟩ : ∃ Z, Z = w_20.heap.size := ⟨_, rfl⟩
            rw [← hZ_25] at N_25 ⊢
            have T1_25 := Lib.hid (T1_20.out.move (w' := w_25) (P' := fun b => wr.heap.size ≤ b ∧ b ∉ ([X, Y] : List Nat)) (fun b hb hp => ⟨D_25.out.block b hb, hp.1, by rw [List.mem_cons, not_or]; exact ⟨by have h0 := hb; rw [← hZ_25] at h0; exact Nat.ne_of_lt h0, hp.2⟩⟩) D_25.out.size)
            have Y0_25 := Lib.hid ((D_25.out.block Y (Array.getElem?_eq_some_iff.1 N_20.out).1).trans N_20.out)
            have B_25 := Lib.hid (bt B_20.out D_25.out)
            have ZL_25 : Hid (∀ x ∈ ([X, Y] : List Nat), x < w_25.heap.size) := Lib.hid (fun x hx => by rcases List.mem_cons.1 hx with h | h; (rw [h]; exact (Array.getElem?_eq_some_iff.1 N_25.out).1); exact Nat.lt_of_lt_of_le (ZL_20.out x h) D_25.out.size)
            have ZX_25 : Hid (wr.heap.size ≤ X) := Lib.hid (by rw [hZ_25]; exact B_20.out.size)
            have XY_25 : Hid (X ≠ Y) := Lib.hid (by have h1 := (Array.getElem?_eq_some_iff.1 N_20.out).1; rw [← hZ_25] at h1; omega)
            clear hw_25 hZ_25
            refine WD_ready (rs := [5]) (by kernel_rfl) (by simp) ?_
            refine AllD.cons (o := _) rfl (fun K hK => ?_) AllD.nil
            rw [if_pos (by rfl)]
            go_simp
            refine (AF2.out _ B_25.out).mono ?_; rintro e w_26 ⟨A2, c2, rfl, r_26, d_26⟩
            unfold tv
            try go_wp2_with fail
            refine hK.out _ _ (bt B_25.out d_26) (fun hHeld => ?_)
            clear hK K
            (try simp only [putz])
            clear hHeld
            have D_26 := Lib.hid d_26
            have T1_26 := Lib.hid (T1_25.out.move (w' := w_26) (P' := fun b => wr.heap.size ≤ b ∧ b ∉ ([X, Y] : List Nat)) (fun b hb hp => ⟨D_26.out.block b hb, hp.1, hp.2⟩) D_26.out.size)
            have X0_26 := Lib.hid ((D_26.out.block X (Array.getElem?_eq_some_iff.1 N_25.out).1).trans N_25.out)
            have Y0_26 := Lib.hid ((D_26.out.block Y (Array.getElem?_eq_some_iff.1 Y0_25.out).1).trans Y0_25.out)
            have B_26 := Lib.hid (bt B_25.out D_26.out)
            have ZL_26 : Hid (∀ x ∈ ([X, Y] : List Nat), x < w_26.heap.size) := Lib.hid (fun x hx => Nat.lt_of_lt_of_le (ZL_25.out x hx) D_26.out.size)
            have T2_26 := Lib.hid (r_26.weak (P' := fun b => wr.heap.size ≤ b ∧ b ∉ ([X, Y] : List Nat)) (fun b _ hp => ⟨Nat.le_trans B_25.out.size hp, notin_ge ZL_25.out hp⟩))
            clear r_26 d_26
            refine WD_ready (rs := [8]) (by kernel_rfl) (by simp) ?_
            refine AllD.cons (o := _) rfl (fun K hK => ?_) AllD.nil
            obtain ⟨⟨y0, y1, y2, y3⟩, k0, k1, k2, k3⟩ := zero_cells X0_26.out
            rw [if_pos (by rfl)]
            go_simp
            refine hK.out _ _ (B_26.out.trans (Frm.below (frm4 w_26 X (.int .i64 U1.k) (.string U1.nm) (.int .i64 U1.vr) (.slice A1 U1.args.length c1)) (fun q hq => by have e : q = X := hq; have := ZX_25.out; omega) B_26.out.size)) (fun hHeld => ?_)
            clear hK K
            (try simp only [putz])
            clear hHeld
            obtain ⟨w_27, hw_27⟩ : ∃ z, z = ((((w_26.setCell ⟨X, 0, none⟩ (.int .i64 U1.k)).setCell ⟨X, 1, none⟩ (.string U1.nm)).setCell ⟨X, 2, none⟩ (.int .i64 U1.vr)).setCell ⟨X, 3, none⟩ (.slice A1 U1.args.length c1)) := ⟨_, rfl⟩
            try rw [← hw_27]
            have D_27 : Hid (Frm w_26 w_27 (· = X)) := Lib.hid (by rw [hw_27]; exact (frm4 w_26 X (.int .i64 U1.k) (.string U1.nm) (.int .i64 U1.vr) (.slice A1 U1.args.length c1)))
            have XF_27 : Hid (w_27.heap[X]? = some (.cells #[.int .i64 U1.k, .string U1.nm, .int .i64 U1.vr, .slice A1 U1.args.length c1] TT24 (0, 0))) := Lib.hid (by rw [hw_27]; exact cells_all _ _ _ _ X0_26.out)
            have T1_27 := Lib.hid (T1_26.out.move (w' := w_27) (P' := fun b => wr.heap.size ≤ b ∧ b ∉ ([X, Y] : List Nat)) (fun b hb hp => ⟨D_27.out.block b hb (fun e => hp.2 (by rw [show b = X from e]; simp)), hp.1, hp.2⟩) D_27.out.size)
            have T2_27 := Lib.hid (T2_26.out.move (w' := w_27) (P' := fun b => wr.heap.size ≤ b ∧ b ∉ ([X, Y] : List Nat)) (fun b hb hp => ⟨D_27.out.block b hb (fun e => hp.2 (by rw [show b = X from e]; simp)), hp.1, hp.2⟩) D_27.out.size)
            have Y0_27 := Lib.hid ((D_27.out.block Y (Array.getElem?_eq_some_iff.1 Y0_26.out).1 (fun e => XY_25.out e.symm)).trans Y0_26.out)
            have B_27 := Lib.hid (B_26.out.trans (D_27.out.below (fun q hq => by have e : q = X := hq; have := ZX_25.out; omega) B_26.out.size))
            have ZL_27 : Hid (∀ x ∈ ([X, Y] : List Nat), x < w_27.heap.size) := Lib.hid (fun x hx => Nat.lt_of_lt_of_le (ZL_26.out x hx) D_27.out.size)
            clear hw_27 y0 y1 y2 y3 k0 k1 k2 k3
            refine WD_ready (rs := [9]) (by kernel_rfl) (by simp) ?_
            refine AllD.last (o := _) rfl (by kernel_rfl) (fun K hK => ?_) AllD.nil
            obtain ⟨⟨y0, y1, y2, y3⟩, k0, k1, k2, k3⟩ := zero_cells Y0_27.out
            rw [if_pos (by rfl)]
            go_simp
            refine hK.out _ _ ?_
            clear hK K
            (try simp only [putz])
            obtain ⟨w_28, hw_28⟩ : ∃ z, z = ((((w_27.setCell ⟨Y, 0, none⟩ (.int .i64 U2.k)).setCell ⟨Y, 1, none⟩ (.string U2.nm)).setCell ⟨Y, 2, none⟩ (.int .i64 U2.vr)).setCell ⟨Y, 3, none⟩ (.slice A2 U2.args.length c2)) := ⟨_, rfl⟩
            try rw [← hw_28]
            have D_28 : Hid (Frm w_27 w_28 (· = Y)) := Lib.hid (by rw [hw_28]; exact (frm4 w_27 Y (.int .i64 U2.k) (.string U2.nm) (.int .i64 U2.vr) (.slice A2 U2.args.length c2)))
            have YF_28 : Hid (w_28.heap[Y]? = some (.cells #[.int .i64 U2.k, .string U2.nm, .int .i64 U2.vr, .slice A2 U2.args.length c2] TT24 (0, 0))) := Lib.hid (by rw [hw_28]; exact cells_all _ _ _ _ Y0_27.out)
            have T1_28 := Lib.hid (T1_27.out.move (w' := w_28) (P' := fun b => wr.heap.size ≤ b ∧ b ∉ ([X, Y] : List Nat)) (fun b hb hp => ⟨D_28.out.block b hb (fun e => hp.2 (by rw [show b = Y from e]; simp)), hp.1, hp.2⟩) D_28.out.size)
            have T2_28 := Lib.hid (T2_27.out.move (w' := w_28) (P' := fun b => wr.heap.size ≤ b ∧ b ∉ ([X, Y] : List Nat)) (fun b hb hp => ⟨D_28.out.block b hb (fun e => hp.2 (by rw [show b = Y from e]; simp)), hp.1, hp.2⟩) D_28.out.size)
            have XF_28 := Lib.hid ((D_28.out.block X (Array.getElem?_eq_some_iff.1 XF_27.out).1 (fun e => XY_25.out e)).trans XF_27.out)
            have B_28 := Lib.hid (B_27.out.trans (D_28.out.below (fun q hq => by have e : q = Y := hq; have := ZY_20.out; omega) B_27.out.size))
            have ZL_28 : Hid (∀ x ∈ ([X, Y] : List Nat), x < w_28.heap.size) := Lib.hid (fun x hx => Nat.lt_of_lt_of_le (ZL_27.out x hx) D_28.out.size)
            clear hw_28 y0 y1 y2 y3 k0 k1 k2 k3
            refine WD_done (by kernel_rfl) ?_ _
            exact ⟨X, Y, A1, c1, A2, c2, _, _, _, _, _, _, by rfl, ⟨XF_28.out, YF_28.out, T1_28.out.weak (fun _ _ h => h.1), T2_28.out.weak (fun _ _ h => h.1), B_28.out, ZX_25.out, ZY_20.out⟩⟩
      · rw [if_pos (by rfl)]
        go_simp
        refine hK.out _ _ (bt B_0.out (below_alloc w_0 _)) (fun hHeld => ?_)
        clear hK K
        (try simp only [putz])
        obtain ⟨w_29, hw_29⟩ : ∃ z, z = w_0.alloc (.cells #[.int .i64 0, .string ⟨#[]⟩, .int .i64 0, .slice none 0 0] TT24) := ⟨_, rfl⟩
        try rw [← hw_29]
        clear hHeld
        have D_29 : Hid (Below w_0.heap.size w_0 w_29) := Lib.hid (by rw [hw_29]; exact below_alloc w_0 _)
        have N_29 : Hid (w_29.heap[w_0.heap.size]? = some (.cells #[.int .i64 0, .string ⟨#[]⟩, .int .i64 0, .slice none 0 0] TT24 (0, 0))) := Lib.hid (by rw [hw_29]; exact heap_alloc_new w_0 _)
        obtain ⟨X, hZ_29⟩ : ∃ Z, Z = w_0.heap.size := ⟨_, rfl⟩
        rw [← hZ_29] at N_29 ⊢
        have B_29 := Lib.hid (bt B_0.out D_29.out)
        have ZL_29 : Hid (∀ x ∈ ([X] : List Nat), x < w_29.heap.size) := Lib.hid (fun x hx => by rcases List.mem_cons.1 hx with h | h; (rw [h]; exact (Array.getElem?_eq_some_iff.1 N_29.out).1); exact Nat.lt_of_lt_of_le (ZL_0.out x h) D_29.out.size)
        have ZX_29 : Hid (wr.heap.size ≤ X) := Lib.hid (by rw [hZ_29]; exact B_0.out.size)
        clear hw_29 hZ_29
        refine WD_ready (rs := [2, 7]) (by kernel_rfl) (by simp) ?_
        refine AllD.cons (o := _) rfl (fun K hK => ?_) (AllD.cons (o := _) rfl (fun K hK => ?_) AllD.nil)
        · rw [if_pos (by rfl)]
          go_simp
          refine (AF1.out _ B_29.out).mono ?_; rintro e w_30 ⟨A1, c1, rfl, r_30, d_30⟩
          unfold tv
          try go_wp2_with fail
          refine hK.out _ _ (bt B_29.out d_30) (fun hHeld => ?_)
          clear hK K
          (try simp only [putz])
          clear hHeld
          have D_30 := Lib.hid d_30
          have X0_30 := Lib.hid ((D_30.out.block X (Array.getElem?_eq_some_iff.1 N_29.out).1).trans N_29.out)
          have B_30 := Lib.hid (bt B_29.out D_30.out)
          have ZL_30 : Hid (∀ x ∈ ([X] : List Nat), x < w_30.heap.size) := Lib.hid (fun x hx => Nat.lt_of_lt_of_le (ZL_29.out x hx) D_30.out.size)
          have T1_30 := Lib.hid (r_30.weak (P' := fun b => wr.heap.size ≤ b ∧ b ∉ ([X] : List Nat)) (fun b _ hp => ⟨Nat.le_trans B_29.out.size hp, notin_ge ZL_29.out hp⟩))
          clear r_30 d_30
          refine WD_ready (rs := [5, 7]) (by kernel_rfl) (by simp) ?_
          refine AllD.cons (o := _) rfl (fun K hK => ?_) (AllD.cons (o := _) rfl (fun K hK => ?_) AllD.nil)
          · rw [if_pos (by rfl)]
            go_simp
            refine (AF2.out _ B_30.out).mono ?_; rintro e w_31 ⟨A2, c2, rfl, r_31, d_31⟩
            unfold tv
            try go_wp2_with fail
            refine hK.out _ _ (bt B_30.out d_31) (fun hHeld => ?_)
            clear hK K
            (try simp only [putz])
            clear hHeld
            have D_31 := Lib.hid d_31
            have T1_31 := Lib.hid (T1_30.out.move (w' := w_31) (P' := fun b => wr.heap.size ≤ b ∧ b ∉ ([X] : List Nat)) (fun b hb hp => ⟨D_31.out.block b hb, hp.1, hp.2⟩) D_31.out.size)
            have X0_31 := Lib.hid ((D_31.out.block X (Array.getElem?_eq_some_iff.1 X0_30.out).1).trans X0_30.out)
            have B_31 := Lib.hid (bt B_30.out D_31.out)
            have ZL_31 : Hid (∀ x ∈ ([X] : List Nat), x < w_31.heap.size) := Lib.hid (fun x hx => Nat.lt_of_lt_of_le (ZL_30.out x hx) D_31.out.size)
            have T2_31 := Lib.hid (r_31.weak (P' := fun b => wr.heap.size ≤ b ∧ b ∉ ([X] : List Nat)) (fun b _ hp => ⟨Nat.le_trans B_30.out.size hp, notin_ge ZL_30.out hp⟩))
            clear r_31 d_31
            refine WD_ready (rs := [7]) (by kernel_rfl) (by simp) ?_
            refine AllD.cons (o := _) rfl (fun K hK => ?_) AllD.nil
            rw [if_pos (by rfl)]
            go_simp
            refine hK.out _ _ (bt B_31.out (below_alloc w_31 _)) (fun hHeld => ?_)
            clear hK K
            (try simp only [putz])
            obtain ⟨w_32, hw_32⟩ : ∃ z, z = w_31.alloc (.cells #[.int .i64 0, .string ⟨#[]⟩, .int .i64 0, .slice none 0 0] TT24) := ⟨_, rfl⟩
            try rw [← hw_32]
            clear hHeld
            have D_32 : Hid (Below w_31.heap.size w_31 w_32) := Lib.hid (by rw [hw_32]; exact below_alloc w_31 _)
            have N_32 : Hid (w_32.heap[w_31.heap.size]? = some (.cells #[.int .i64 0, .string ⟨#[]⟩, .int .i64 0, .slice none 0 0] TT24 (0, 0))) := Lib.hid (by rw [hw_32]; exact heap_alloc_new w_31 _)
            obtain ⟨Y, hZ_32⟩ : ∃ Z, Z = w_31.heap.size := ⟨_, rfl⟩
            rw [← hZ_32] at N_32 ⊢
            have T1_32 := Lib.hid (T1_31.out.move (w' := w_32) (P' := fun b => wr.heap.size ≤ b ∧ b ∉ ([Y, X] : List Nat)) (fun b hb hp => ⟨D_32.out.block b hb, hp.1, by rw [List.mem_cons, not_or]; exact ⟨by have h0 := hb; rw [← hZ_32] at h0; exact Nat.ne_of_lt h0, hp.2⟩⟩) D_32.out.size)
            have T2_32 := Lib.hid (T2_31.out.move (w' := w_32) (P' := fun b => wr.heap.size ≤ b ∧ b ∉ ([Y, X] : List Nat)) (fun b hb hp => ⟨D_32.out.block b hb, hp.1, by rw [List.mem_cons, not_or]; exact ⟨by have h0 := hb; rw [← hZ_32] at h0; exact Nat.ne_of_lt h0, hp.2⟩⟩) D_32.out.size)
            have X0_32 := Lib.hid ((D_32.out.block X (Array.getElem?_eq_some_iff.1 X0_31.out).1).trans X0_31.out)
            have B_32 := Lib.hid (bt B_31.out D_32.out)
            have ZL_32 : Hid (∀ x ∈ ([Y, X] : List Nat), x < w_32.heap.size) := Lib.hid (fun x hx => by rcases List.mem_cons.1 hx with h | h; (rw [h]; exact (Array.getElem?_eq_some_iff.1 N_32.out).1); exact Nat.lt_of_lt_of_le (ZL_31.out x h) D_32.out.size)
            have ZY_32 : Hid (wr.heap.size ≤ Y) := Lib.hid (by rw [hZ_32]; exact B_31.out.size)
            have XY_32 : Hid (X ≠ Y) := Lib.hid (by have h1 := (Array.getElem?_eq_some_iff.1 X0_31.out).1; rw [← hZ_32] at h1; omega)
            clear hw_32 hZ_32
            refine WD_ready (rs := [8]) (by kernel_rfl) (by simp) ?_
            refine AllD.cons (o := _) rfl (fun K hK => ?_) AllD.nil
            obtain ⟨⟨y0, y1, y2, y3⟩, k0, k1, k2, k3⟩ := zero_cells X0_32.out
            rw [if_pos (by rfl)]
            go_simp
            refine hK.out _ _ (B_32.out.trans (Frm.below (frm4 w_32 X (.int .i64 U1.k) (.string U1.nm) (.int .i64 U1.vr) (.slice A1 U1.args.length c1)) (fun q hq => by have e : q = X := hq; have := ZX_29.out; omega) B_32.out.size)) (fun hHeld => ?_)
            clear hK K
            (try simp only [putz])
            clear hHeld
            obtain ⟨w_33, hw_33⟩ : ∃ z, z = ((((w_32.setCell ⟨X, 0, none⟩ (.int .i64 U1.k)).setCell ⟨X, 1, none⟩ (.string U1.nm)).setCell ⟨X, 2, none⟩ (.int .i64 U1.vr)).setCell ⟨X, 3, none⟩ (.slice A1 U1.args.length c1)) := ⟨_, rfl⟩
            try rw [← hw_33]
            have D_33 : Hid (Frm w_32 w_33 (· = X)) := Lib.hid (by rw [hw_33]; exact (frm4 w_32 X (.int .i64 U1.k) (.string U1.nm) (.int .i64 U1.vr) (.slice A1 U1.args.length c1)))
            have XF_33 : Hid (w_33.heap[X]? = some (.cells #[.int .i64 U1.k, .string U1.nm, .int .i64 U1.vr, .slice A1 U1.args.length c1] TT24 (0, 0))) := Lib.hid (by rw [hw_33]; exact cells_all _ _ _ _ X0_32.out)
            have T1_33 := Lib.hid (T1_32.out.move (w' := w_33) (P' := fun b => wr.heap.size ≤ b ∧ b ∉ ([Y, X] : List Nat)) (fun b hb hp => ⟨D_33.out.block b hb (fun e => hp.2 (by rw [show b = X from e]; simp)), hp.1, hp.2⟩) D_33.out.size)
            have T2_33 := Lib.hid (T2_32.out.move (w' := w_33) (P' := fun b => wr.heap.size ≤ b ∧ b ∉ ([Y, X] : List Nat)) (fun b hb hp => ⟨D_33.out.block b hb (fun e => hp.2 (by rw [show b = X from e]; simp)), hp.1, hp.2⟩) D_33.out.size)
            have Y0_33 := Lib.hid ((D_33.out.block Y (Array.getElem?_eq_some_iff.1 N_32.out).1 (fun e => XY_32.out e.symm)).trans N_32.out)
            have B_33 := Lib.hid (B_32.out.trans (D_33.out.below (fun q hq => by have e : q = X := hq; have := ZX_29.out; omega) B_32.out.size))
            have ZL_33 : Hid (∀ x ∈ ([Y, X] : List Nat), x < w_33.heap.size) := Lib.hid (fun x hx => Nat.lt_of_lt_of_le (ZL_32.out x hx) D_33.out.size)
            clear hw_33 y0 y1 y2 y3 k0 k1 k2 k3
            refine WD_ready (rs := [9]) (by kernel_rfl) (by simp) ?_
            refine AllD.last (o := _) rfl (by kernel_rfl) (fun K hK => ?_) AllD.nil
            obtain ⟨⟨y0, y1, y2, y3⟩, k0, k1, k2, k3⟩ := zero_cells Y0_33.out
            rw [if_pos (by rfl)]
            go_simp
            refine hK.out _ _ ?_
            clear hK K
            (try simp only [putz])
            obtain ⟨w_34, hw_34⟩ : ∃ z, z = ((((w_33.setCell ⟨Y, 0, none⟩ (.int .i64 U2.k)).setCell ⟨Y, 1, none⟩ (.string U2.nm)).setCell ⟨Y, 2, none⟩ (.int .i64 U2.vr)).setCell ⟨Y, 3, none⟩ (.slice A2 U2.args.length c2)) := ⟨_, rfl⟩
            try rw [← hw_34]
            have D_34 : Hid (Frm w_33 w_34 (· = Y)) := Lib.hid (by rw [hw_34]; exact (frm4 w_33 Y (.int .i64 U2.k) (.string U2.nm) (.int .i64 U2.vr) (.slice A2 U2.args.length c2)))
            have YF_34 : Hid (w_34.heap[Y]? = some (.cells #[.int .i64 U2.k, .string U2.nm, .int .i64 U2.vr, .slice A2 U2.args.length c2] TT24 (0, 0))) := Lib.hid (by rw [hw_34]; exact cells_all _ _ _ _ Y0_33.out)
            have T1_34 := Lib.hid (T1_33.out.move (w' := w_34) (P' := fun b => wr.heap.size ≤ b ∧ b ∉ ([Y, X] : List Nat)) (fun b hb hp => ⟨D_34.out.block b hb (fun e => hp.2 (by rw [show b = Y from e]; simp)), hp.1, hp.2⟩) D_34.out.size)
            have T2_34 := Lib.hid (T2_33.out.move (w' := w_34) (P' := fun b => wr.heap.size ≤ b ∧ b ∉ ([Y, X] : List Nat)) (fun b hb hp => ⟨D_34.out.block b hb (fun e => hp.2 (by rw [show b = Y from e]; simp)), hp.1, hp.2⟩) D_34.out.size)
            have XF_34 := Lib.hid ((D_34.out.block X (Array.getElem?_eq_some_iff.1 XF_33.out).1 (fun e => XY_32.out e)).trans XF_33.out)
            have B_34 := Lib.hid (B_33.out.trans (D_34.out.below (fun q hq => by have e : q = Y := hq; have := ZY_32.out; omega) B_33.out.size))
            have ZL_34 : Hid (∀ x ∈ ([Y, X] : List Nat), x < w_34.heap.size) := Lib.hid (fun x hx => Nat.lt_of_lt_of_le (ZL_33.out x hx) D_34.out.size)
            clear hw_34 y0 y1 y2 y3 k0 k1 k2 k3
            refine WD_done (by kernel_rfl) ?_ _
            exact ⟨X, Y, A1, c1, A2, c2, _, _, _, _, _, _, by rfl, ⟨XF_34.out, YF_34.out, T1_34.out.weak (fun _ _ h => h.1), T2_34.out.weak (fun _ _ h => h.1), B_34.out, ZX_29.out, ZY_32.out⟩⟩
          · rw [if_pos (by rfl)]
            go_simp
            refine hK.out _ _ (bt B_30.out (below_alloc w_30 _)) (fun hHeld => ?_)
            clear hK K
            (try simp only [putz])
            obtain ⟨w_35, hw_35⟩ : ∃ z, z = w_30.alloc (.cells #[.int .i64 0, .string ⟨#[]⟩, .int .i64 0, .slice none 0 0] TT24) := ⟨_, rfl⟩
            try rw [← hw_35]
            clear hHeld
            have D_35 : Hid (Below w_30.heap.size w_30 w_35) := Lib.hid (by rw [hw_35]; exact below_alloc w_30 _)
            have N_35 : Hid (w_35.heap[w_30.heap.size]? = some (.cells #[.int .i64 0, .string ⟨#[]⟩, .int .i64 0, .slice none 0 0] TT24 (0, 0))) := Lib.hid (by rw [hw_35]; exact heap_alloc_new w_30 _)
            obtain ⟨Y, hZ_35⟩ : ∃ Z, Z = w_30.heap.size := ⟨_, rfl⟩
            rw [← hZ_35] at N_35 ⊢
            have T1_35 := Lib.hid (T1_30.out.move (w' := w_35) (P' := fun b => wr.heap.size ≤ b ∧ b ∉ ([Y, X] : List Nat)) (fun b hb hp => ⟨D_35.out.block b hb, hp.1, by rw [List.mem_cons, not_or]; exact ⟨by have h0 := hb; rw [← hZ_35] at h0; exact Nat.ne_of_lt h0, hp.2⟩⟩) D_35.out.size)
            have X0_35 := Lib.hid ((D_35.out.block X (Array.getElem?_eq_some_iff.1 X0_30.out).1).trans X0_30.out)
            have B_35 := Lib.hid (bt B_30.out D_35.out)
            have ZL_35 : Hid (∀ x ∈ ([Y, X] : List Nat), x < w_35.heap.size) := Lib.hid (fun x hx => by rcases List.mem_cons.1 hx with h | h; (rw [h]; exact (Array.getElem?_eq_some_iff.1 N_35.out).1); exact Nat.lt_of_lt_of_le (ZL_30.out x h) D_35.out.size)
            have ZY_35 : Hid (wr.heap.size ≤ Y) := Lib.hid (by rw [hZ_35]; exact B_30.out.size)
            have XY_35 : Hid (X ≠ Y) := Lib.hid (by have h1 := (Array.getElem?_eq_some_iff.1 X0_30.out).1; rw [← hZ_35] at h1; omega)
            clear hw_35 hZ_35
            refine WD_ready (rs := [5]) (by kernel_rfl) (by simp) ?_
            refine AllD.cons (o := _) rfl (fun K hK => ?_) AllD.nil
            rw [if_pos (by rfl)]
            go_simp
            refine (AF2.out _ B_35.out).mono ?_; rintro e w_36 ⟨A2, c2, rfl, r_36, d_36⟩
            unfold tv
            try go_wp2_with fail
            refine hK.out _ _ (bt B_35.out d_36) (fun hHeld => ?_)
            clear hK K
            (try simp only [putz])
            clear hHeld
            have D_36 := Lib.hid d_36
            have T1_36 := Lib.hid (T1_35.out.move (w' := w_36) (P' := fun b => wr.heap.size ≤ b ∧ b ∉ ([Y, X] : List Nat)) (fun b hb hp => ⟨D_36.out.block b hb, hp.1, hp.2⟩) D_36.out.size)
            have X0_36 := Lib.hid ((D_36.out.block X (Array.getElem?_eq_some_iff.1 X0_35.out).1).trans X0_35.out)
            have Y0_36 := Lib.hid ((D_36.out.block Y (Array.getElem?_eq_some_iff.1 N_35.out).1).trans N_35.out)
            have B_36 := Lib.hid (bt B_35.out D_36.out)
            have ZL_36 : Hid (∀ x ∈ ([Y, X] : List Nat), x < w_36.heap.size) := Lib.hid (fun x hx => Nat.lt_of_lt_of_le (ZL_35.out x hx) D_36.out.size)
            have T2_36 := Lib.hid (r_36.weak (P' := fun b => wr.heap.size ≤ b ∧ b ∉ ([Y, X] : List Nat)) (fun b _ hp => ⟨Nat.le_trans B_35.out.size hp, notin_ge ZL_35.out hp⟩))
            clear r_36 d_36
            refine WD_ready (rs := [8]) (by kernel_rfl) (by simp) ?_
            refine AllD.cons (o := _) rfl (fun K hK => ?_) AllD.nil
            obtain ⟨⟨y0, y1, y2, y3⟩, k0, k1, k2, k3⟩ := zero_cells X0_36.out
            rw [if_pos (by rfl)]
            go_simp
            refine hK.out _ _ (B_36.out.trans (Frm.below (frm4 w_36 X (.int .i64 U1.k) (.string U1.nm) (.int .i64 U1.vr) (.slice A1 U1.args.length c1)) (fun q hq => by have e : q = X := hq; have := ZX_29.out; omega) B_36.out.size)) (fun hHeld => ?_)
            clear hK K
            (try simp only [putz])
            clear hHeld
            obtain ⟨w_37, hw_37⟩ : ∃ z, z = ((((w_36.setCell ⟨X, 0, none⟩ (.int .i64 U1.k)).setCell ⟨X, 1, none⟩ (.string U1.nm)).setCell ⟨X, 2, none⟩ (.int .i64 U1.vr)).setCell ⟨X, 3, none⟩ (.slice A1 U1.args.length c1)) := ⟨_, rfl⟩
            try rw [← hw_37]
            have D_37 : Hid (Frm w_36 w_37 (· = X)) := Lib.hid (by rw [hw_37]; exact (frm4 w_36 X (.int .i64 U1.k) (.string U1.nm) (.int .i64 U1.vr) (.slice A1 U1.args.length c1)))
            have XF_37 : Hid (w_37.heap[X]? = some (.cells #[.int .i64 U1.k, .string U1.nm, .int .i64 U1.vr, .slice A1 U1.args.length c1] TT24 (0, 0))) := Lib.hid (by rw [hw_37]; exact cells_all _ _ _ _ X0_36.out)
            have T1_37 := Lib.hid (T1_36.out.move (w' := w_37) (P' := fun b => wr.heap.size ≤ b ∧ b ∉ ([Y, X] : List Nat)) (fun b hb hp => ⟨D_37.out.block b hb (fun e => hp.2 (by rw [show b = X from e]; simp)), hp.1, hp.2⟩) D_37.out.size)
            have T2_37 := Lib.hid (T2_36.out.move (w' := w_37) (P' := fun b => wr.heap.size ≤ b ∧ b ∉ ([Y, X] : List Nat)) (fun b hb hp => ⟨D_37.out.block b hb (fun e => hp.2 (by rw [show b = X from e]; simp)), hp.1, hp.2⟩) D_37.out.size)
            have Y0_37 := Lib.hid ((D_37.out.block Y (Array.getElem?_eq_some_iff.1 Y0_36.out).1 (fun e => XY_35.out e.symm)).trans Y0_36.out)
            have B_37 := Lib.hid (B_36.out.trans (D_37.out.below (fun q hq => by have e : q = X := hq; have := ZX_29.out; omega) B_36.out.size))
            have ZL_37 : Hid (∀ x ∈ ([Y, X] : List Nat), x < w_37.heap.size) := Lib.hid (fun x hx => Nat.lt_of_lt_of_le (ZL_36.out x hx) D_37.out.size)
            clear hw_37 y0 y1 y2 y3 k0 k1 k2 k3
            refine WD_ready (rs := [9]) (by kernel_rfl) (by simp) ?_
            refine AllD.last (o := _) rfl (by kernel_rfl) (fun K hK => ?_) AllD.nil
            obtain ⟨⟨y0, y1, y2, y3⟩, k0, k1, k2, k3⟩ := zero_cells Y0_37.out
            rw [if_pos (by rfl)]
            go_simp
            refine hK.out _ _ ?_
            clear hK K
            (try simp only [putz])
            obtain ⟨w_38, hw_38⟩ : ∃ z, z = ((((w_37.setCell ⟨Y, 0, none⟩ (.int .i64 U2.k)).setCell ⟨Y, 1, none⟩ (.string U2.nm)).setCell ⟨Y, 2, none⟩ (.int .i64 U2.vr)).setCell ⟨Y, 3, none⟩ (.slice A2 U2.args.length c2)) := ⟨_, rfl⟩
            try rw [← hw_38]
            have D_38 : Hid (Frm w_37 w_38 (· = Y)) := Lib.hid (by rw [hw_38]; exact (frm4 w_37 Y (.int .i64 U2.k) (.string U2.nm) (.int .i64 U2.vr) (.slice A2 U2.args.length c2)))
            have YF_38 : Hid (w_38.heap[Y]? = some (.cells #[.int .i64 U2.k, .string U2.nm, .int .i64 U2.vr, .slice A2 U2.args.length c2] TT24 (0, 0))) := Lib.hid (by rw [hw_38]; exact cells_all _ _ _ _ Y0_37.out)
            have T1_38 := Lib.hid (T1_37.out.move (w' := w_38) (P' := fun b => wr.heap.size ≤ b ∧ b ∉ ([Y, X] : List Nat)) (fun b hb hp => ⟨D_38.out.block b hb (fun e => hp.2 (by rw [show b = Y from e]; simp)), hp.1, hp.2⟩) D_38.out.size)
            have T2_38 := Lib.hid (T2_37.out.move (w' := w_38) (P' := fun b => wr.heap.size ≤ b ∧ b ∉ ([Y, X] : List Nat)) (fun b hb hp => ⟨D_38.out.block b hb (fun e => hp.2 (by rw [show b = Y from e]; simp)), hp.1, hp.2⟩) D_38.out.size)
            have XF_38 := Lib.hid ((D_38.out.block X (Array.getElem?_eq_some_iff.1 XF_37.out).1 (fun e => XY_35.out e)).trans XF_37.out)
            have B_38 := Lib.hid (B_37.out.trans (D_38.out.below (fun q hq => by have e : q = Y := hq; have := ZY_35.out; omega) B_37.out.size))
            have ZL_38 : Hid (∀ x ∈ ([Y, X] : List Nat), x < w_38.heap.size) := Lib.hid (fun x hx => Nat.lt_of_lt_of_le (ZL_37.out x hx) D_38.out.size)
            clear hw_38 y0 y1 y2 y3 k0 k1 k2 k3
            refine WD_done (by kernel_rfl) ?_ _
            exact ⟨X, Y, A1, c1, A2, c2, _, _, _, _, _, _, by rfl, ⟨XF_38.out, YF_38.out, T1_38.out.weak (fun _ _ h => h.1), T2_38.out.weak (fun _ _ h => h.1), B_38.out, ZX_29.out, ZY_35.out⟩⟩
        · rw [if_pos (by rfl)]
          go_simp
          refine hK.out _ _ (bt B_29.out (below_alloc w_29 _)) (fun hHeld => ?_)
          clear hK K
          (try simp only [putz])
          obtain ⟨w_39, hw_39⟩ : ∃ z, z = w_29.alloc (.cells #[.int .i64 0, .string ⟨#[]⟩, .int .i64 0, .slice none 0 0] TT24) := ⟨_, rfl⟩
          try rw [← hw_39]
          clear hHeld
          have D_39 : Hid (Below w_29.heap.size w_29 w_39) := Lib.hid (by rw [hw_39]; exact below_alloc w_29 _)
          have N_39 : Hid (w_39.heap[w_29.heap.size]? = some (.cells #[.int .i64 0, .string ⟨#[]⟩, .int .i64 0, .slice none 0 0] TT24 (0, 0))) := Lib.hid (by rw [hw_39]; exact heap_alloc_new w_29 _)
          obtain ⟨Y, hZ_39⟩ : ∃ Z, Z = w_29.heap.size := ⟨_, rfl⟩
          rw [← hZ_39] at N_39 ⊢
          have X0_39 := Lib.hid ((D_39.out.block X (Array.getElem?_eq_some_iff.1 N_29.out).1).trans N_29.out)
          have B_39 := Lib.hid (bt B_29.out D_39.out)
          have ZL_39 : Hid (∀ x ∈ ([Y, X] : List Nat), x < w_39.heap.size) := Lib.hid (fun x hx => by rcases List.mem_cons.1 hx with h | h; (rw [h]; exact (Array.getElem?_eq_some_iff.1 N_39.out).1); exact Nat.lt_of_lt_of_le (ZL_29.out x h) D_39.out.size)
          have ZY_39 : Hid (wr.heap.size ≤ Y) := Lib.hid (by rw [hZ_39]; exact B_29.out.size)
          have XY_39 : Hid (X ≠ Y) := Lib.hid (by have h1 := (Array.getElem?_eq_some_iff.1 N_29.out).1; rw [← hZ_39] at h1; omega)
          clear hw_39 hZ_39
          refine WD_ready (rs := [2]) (by kernel_rfl) (by simp) ?_
          refine AllD.cons (o := _) rfl (fun K hK => ?_) AllD.nil
          rw [if_pos (by rfl)]
          go_simp
          refine (AF1.out _ B_39.out).mono ?_; rintro e w_40 ⟨A1, c1, rfl, r_40, d_40⟩
          unfold tv
          try go_wp2_with fail
          refine hK.out _ _ (bt B_39.out d_40) (fun hHeld => ?_)
          clear hK K
          (try simp only [putz])
          clear hHeld
          have D_40 := Lib.hid d_40
          have X0_40 := Lib.hid ((D_40.out.block X (Array.getElem?_eq_some_iff.1 X0_39.out).1).trans X0_39.out)
          have Y0_40 := Lib.hid ((D_40.out.block Y (Array.getElem?_eq_some_iff.1 N_39.out).1).trans N_39.out)
          have B_40 := Lib.hid (bt B_39.out D_40.out)
          have ZL_40 : Hid (∀ x ∈ ([Y, X] : List Nat), x < w_40.heap.size) := Lib.hid (fun x hx => Nat.lt_of_lt_of_le (ZL_39.out x hx) D_40.out.size)
          have T1_40 := Lib.hid (r_40.weak (P' := fun b => wr.heap.size ≤ b ∧ b ∉ ([Y, X] : List Nat)) (fun b _ hp => ⟨Nat.le_trans B_39.out.size hp, notin_ge ZL_39.out hp⟩))
          clear r_40 d_40
          refine WD_ready (rs := [5]) (by kernel_rfl) (by simp) ?_
          refine AllD.cons (o := _) rfl (fun K hK => ?_) AllD.nil
          rw [if_pos (by rfl)]
          go_simp
          refine (AF2.out _ B_40.out).mono ?_; rintro e w_41 ⟨A2, c2, rfl, r_41, d_41⟩
          unfold tv
          try go_wp2_with fail
          refine hK.out _ _ (bt B_40.out d_41) (fun hHeld => ?_)
          clear hK K
          (try simp only [putz])
          clear hHeld
          have D_41 := Lib.hid d_41
          have T1_41 := Lib.hid (T1_40.out.move (w' := w_41) (P' := fun b => wr.heap.size ≤ b ∧ b ∉ ([Y, X] : List Nat)) (fun b hb hp => ⟨D_41.out.block b hb, hp.1, hp.2⟩) D_41.out.size)
          have X0_41 := Lib.hid ((D_41.out.block X (Array.getElem?_eq_some_iff.1 X0_40.out).1).trans X0_40.out)
          have Y0_41 := Lib.hid ((D_41.out.block Y (Array.getElem?_eq_some_iff.1 Y0_40.out).1).trans Y0_40.out)
          have B_41 := Lib.hid (bt B_40.out D_41.out)
          have ZL_41 : Hid (∀ x ∈ ([Y, X] : List Nat), x < w_41.heap.size) := Lib.hid (fun x hx => Nat.lt_of_lt_of_le (ZL_40.out x hx) D_41.out.size)
          have T2_41 := Lib.hid (r_41.weak (P' := fun b => wr.heap.size ≤ b ∧ b ∉ ([Y, X] : List Nat)) (fun b _ hp => ⟨Nat.le_trans B_40.out.size hp, notin_ge ZL_40.out hp⟩))
          clear r_41 d_41
          refine WD_ready (rs := [8]) (by kernel_rfl) (by simp) ?_
          refine AllD.cons (o := _) rfl (fun K hK => ?_) AllD.nil
          obtain ⟨⟨y0, y1, y2, y3⟩, k0, k1, k2, k3⟩ := zero_cells X0_41.out
          rw [if_pos (by rfl)]
          go_simp
          refine hK.out _ _ (B_41.out.trans (Frm.below (frm4 w_41 X (.int .i64 U1.k) (.string U1.nm) (.int .i64 U1.vr) (.slice A1 U1.args.length c1)) (fun q hq => by have e : q = X := hq; have := ZX_29.out; omega) B_41.out.size)) (fun hHeld => ?_)
          clear hK K
          (try simp only [putz])
          clear hHeld
          obtain ⟨w_42, hw_42⟩ : ∃ z, z = ((((w_41.setCell ⟨X, 0, none⟩ (.int .i64 U1.k)).setCell ⟨X, 1, none⟩ (.string U1.nm)).setCell ⟨X, 2, none⟩ (.int .i64 U1.vr)).setCell ⟨X, 3, none⟩ (.slice A1 U1.args.length c1)) := ⟨_, rfl⟩
          try rw [← hw_42]
          have D_42 : Hid (Frm w_41 w_42 (· = X)) := Lib.hid (by rw [hw_42]; exact (frm4 w_41 X (.int .i64 U1.k) (.string U1.nm) (.int .i64 U1.vr) (.slice A1 U1.args.length c1)))
          have XF_42 : Hid (w_42.heap[X]? = some (.cells #[.int .i64 U1.k, .string U1.nm, .int .i64 U1.vr, .slice A1 U1.args.length c1] TT24 (0, 0))) := Lib.hid (by rw [hw_42]; exact cells_all _ _ _ _ X0_41.out)
          have T1_42 := Lib.hid (T1_41.out.move (w' := w_42) (P' := fun b => wr.heap.size ≤ b ∧ b ∉ ([Y, X] : List Nat)) (fun b hb hp => ⟨D_42.out.block b hb (fun e => hp.2 (by rw [show b = X from e]; simp)), hp.1, hp.2⟩) D_42.out.size)
          have T2_42 := Lib.hid (T2_41.out.move (w' := w_42) (P' := fun b => wr.heap.size ≤ b ∧ b ∉ ([Y, X] : List Nat)) (fun b hb hp => ⟨D_42.out.block b hb (fun e => hp.2 (by rw [show b = X from e]; simp)), hp.1, hp.2⟩) D_42.out.size)
          have Y0_42 := Lib.hid ((D_42.out.block Y (Array.getElem?_eq_some_iff.1 Y0_41.out).1 (fun e => XY_39.out e.symm)).trans Y0_41.out)
          have B_42 := Lib.hid (B_41.out.trans (D_42.out.below (fun q hq => by have e : q = X := hq; have := ZX_29.out; omega) B_41.out.size))
          have ZL_42 : Hid (∀ x ∈ ([Y, X] : List Nat), x < w_42.heap.size) := Lib.hid (fun x hx => Nat.lt_of_lt_of_le (ZL_41.out x hx) D_42.out.size)
          clear hw_42 y0 y1 y2 y3 k0 k1 k2 k3
          refine WD_ready (rs := [9]) (by kernel_rfl) (by simp) ?_
          refine AllD.last (o := _) rfl (by kernel_rfl) (fun K hK => ?_) AllD.nil
          obtain ⟨⟨y0, y1, y2, y3⟩, k0, k1, k2, k3⟩ := zero_cells Y0_42.out
          rw [if_pos (by rfl)]
          go_simp
          refine hK.out _ _ ?_
          clear hK K
          (try simp only [putz])
          obtain ⟨w_43, hw_43⟩ : ∃ z, z = ((((w_42.setCell ⟨Y, 0, none⟩ (.int .i64 U2.k)).setCell ⟨Y, 1, none⟩ (.string U2.nm)).setCell ⟨Y, 2, none⟩ (.int .i64 U2.vr)).setCell ⟨Y, 3, none⟩ (.slice A2 U2.args.length c2)) := ⟨_, rfl⟩
          try rw [← hw_43]
          have D_43 : Hid (Frm w_42 w_43 (· = Y)) := Lib.hid (by rw [hw_43]; exact (frm4 w_42 Y (.int .i64 U2.k) (.string U2.nm) (.int .i64 U2.vr) (.slice A2 U2.args.length c2)))
          have YF_43 : Hid (w_43.heap[Y]? = some (.cells #[.int .i64 U2.k, .string U2.nm, .int .i64 U2.vr, .slice A2 U2.args.length c2] TT24 (0, 0))) := Lib.hid (by rw [hw_43]; exact cells_all _ _ _ _ Y0_42.out)
          have T1_43 := Lib.hid (T1_42.out.move (w' := w_43) (P' := fun b => wr.heap.size ≤ b ∧ b ∉ ([Y, X] : List Nat)) (fun b hb hp => ⟨D_43.out.block b hb (fun e => hp.2 (by rw [show b = Y from e]; simp)), hp.1, hp.2⟩) D_43.out.size)
          have T2_43 := Lib.hid (T2_42.out.move (w' := w_43) (P' := fun b => wr.heap.size ≤ b ∧ b ∉ ([Y, X] : List Nat)) (fun b hb hp => ⟨D_43.out.block b hb (fun e => hp.2 (by rw [show b = Y from e]; simp)), hp.1, hp.2⟩) D_43.out.size)
          have XF_43 := Lib.hid ((D_43.out.block X (Array.getElem?_eq_some_iff.1 XF_42.out).1 (fun e => XY_39.out e)).trans XF_42.out)
          have B_43 := Lib.hid (B_42.out.trans (D_43.out.below (fun q hq => by have e : q = Y := hq; have := ZY_39.out; omega) B_42.out.size))
          have ZL_43 : Hid (∀ x ∈ ([Y, X] : List Nat), x < w_43.heap.size) := Lib.hid (fun x hx => Nat.lt_of_lt_of_le (ZL_42.out x hx) D_43.out.size)
          clear hw_43 y0 y1 y2 y3 k0 k1 k2 k3
          refine WD_done (by kernel_rfl) ?_ _
          exact ⟨X, Y, A1, c1, A2, c2, _, _, _, _, _, _, by rfl, ⟨XF_43.out, YF_43.out, T1_43.out.weak (fun _ _ h => h.1), T2_43.out.weak (fun _ _ h => h.1), B_43.out, ZX_29.out, ZY_39.out⟩⟩
      · rw [if_pos (by rfl)]
        go_simp
        refine hK.out _ _ (bt B_0.out (below_alloc w_0 _)) (fun hHeld => ?_)
        clear hK K
        (try simp only [putz])
        obtain ⟨w_44, hw_44⟩ : ∃ z, z = w_0.alloc (.cells #[.int .i64 0, .string ⟨#[]⟩, .int .i64 0, .slice none 0 0] TT24) := ⟨_, rfl⟩
        try rw [← hw_44]
        clear hHeld
        have D_44 : Hid (Below w_0.heap.size w_0 w_44) := Lib.hid (by rw [hw_44]; exact below_alloc w_0 _)
        have N_44 : Hid (w_44.heap[w_0.heap.size]? = some (.cells #[.int .i64 0, .string ⟨#[]⟩, .int .i64 0, .slice none 0 0] TT24 (0, 0))) := Lib.hid (by rw [hw_44]; exact heap_alloc_new w_0 _)
        obtain ⟨Y, hZ_44⟩ : ∃ Z, Z = w_0.heap.size := ⟨_, rfl⟩
        rw [← hZ_44] at N_44 ⊢
        have B_44 := Lib.hid (bt B_0.out D_44.out)
        have ZL_44 : Hid (∀ x ∈ ([Y] : List Nat), x < w_44.heap.size) := Lib.hid (fun x hx => by rcases List.mem_cons.1 hx with h | h; (rw [h]; exact (Array.getElem?_eq_some_iff.1 N_44.out).1); exact Nat.lt_of_lt_of_le (ZL_0.out x h) D_44.out.size)
        have ZY_44 : Hid (wr.heap.size ≤ Y) := Lib.hid (by rw [hZ_44]; exact B_0.out.size)
        clear hw_44 hZ_44
        refine WD_ready (rs := [2, 6]) (by kernel_rfl) (by simp) ?_
        refine AllD.cons (o := _) rfl (fun K hK => ?_) (AllD.cons (o := _) rfl (fun K hK => ?_) AllD.nil)
        · rw [if_pos (by rfl)]
          go_simp
          refine (AF1.out _ B_44.out).mono ?_; rintro e w_45 ⟨A1, c1, rfl, r_45, d_45⟩
          unfold tv
          try go_wp2_with fail
          refine hK.out _ _ (bt B_44.out d_45) (fun hHeld => ?_)
          clear hK K
          (try simp only [putz])
          clear hHeld
          have D_45 := Lib.hid d_45
          have Y0_45 := Lib.hid ((D_45.out.block Y (Array.getElem?_eq_some_iff.1 N_44.out).1).trans N_44.out)
          have B_45 := Lib.hid (bt B_44.out D_45.out)
          have ZL_45 : Hid (∀ x ∈ ([Y] : List Nat), x < w_45.heap.size) := Lib.hid (fun x hx => Nat.lt_of_lt_of_le (ZL_44.out x hx) D_45.out.size)
          have T1_45 := Lib.hid (r_45.weak (P' := fun b => wr.heap.size ≤ b ∧ b ∉ ([Y] : List Nat)) (fun b _ hp => ⟨Nat.le_trans B_44.out.size hp, notin_ge ZL_44.out hp⟩))
          clear r_45 d_45
          refine WD_ready (rs := [5, 6]) (by kernel_rfl) (by simp) ?_
          refine AllD.cons (o := _) rfl (fun K hK => ?_) (AllD.cons (o := _) rfl (fun K hK => ?_) AllD.nil)
          · rw [if_pos (by rfl)]
            go_simp
            refine (AF2.out _ B_45.out).mono ?_; rintro e w_46 ⟨A2, c2, rfl, r_46, d_46⟩
            unfold tv
            try go_wp2_with fail
            refine hK.out _ _ (bt B_45.out d_46) (fun hHeld => ?_)
            clear hK K
            (try simp only [putz])
            clear hHeld
            have D_46 := Lib.hid d_46
            have T1_46 := Lib.hid (T1_45.out.move (w' := w_46) (P' := fun b => wr.heap.size ≤ b ∧ b ∉ ([Y] : List Nat)) (fun b hb hp => ⟨D_46.out.block b hb, hp.1, hp.2⟩) D_46.out.size)
            have Y0_46 := Lib.hid ((D_46.out.block Y (Array.getElem?_eq_some_iff.1 Y0_45.out).1).trans Y0_45.out)
            have B_46 := Lib.hid (bt B_45.out D_46.out)
            have ZL_46 : Hid (∀ x ∈ ([Y] : List Nat), x < w_46.heap.size) := Lib.hid (fun x hx => Nat.lt_of_lt_of_le (ZL_45.out x hx) D_46.out.size)
            have T2_46 := Lib.hid (r_46.weak (P' := fun b => wr.heap.size ≤ b ∧ b ∉ ([Y] : List Nat)) (fun b _ hp => ⟨Nat.le_trans B_45.out.size hp, notin_ge ZL_45.out hp⟩))
            clear r_46 d_46
            refine WD_ready (rs := [6]) (by kernel_rfl) (by simp) ?_
            refine AllD.cons (o := _) rfl (fun K hK => ?_) AllD.nil
            rw [if_pos (by rfl)]
            go_simp
            refine hK.out _ _ (bt B_46.out (below_alloc w_46 _)) (fun hHeld => ?_)
            clear hK K
            (try simp only [putz])
            obtain ⟨w_47, hw_47⟩ : ∃ z, z = w_46.alloc (.cells #[.int .i64 0, .string ⟨#[]⟩, .int .i64 0, .slice none 0 0] TT24) := ⟨_, rfl⟩
            try rw [← hw_47]
            clear hHeld
            have D_47 : Hid (Below w_46.heap.size w_46 w_47) := Lib.hid (by rw [hw_47]; exact below_alloc w_46 _)
            have N_47 : Hid (w_47.heap[w_46.heap.size]? = some (.cells #[.int .i64 0, .string ⟨#[]⟩, .int .i64 0, .slice none 0 0] TT24 (0, 0))) := Lib.hid (by rw [hw_47]; exact heap_alloc_new w_46 _)
            obtain ⟨X, hZ_47⟩ : ∃ Z, Z = w_46.heap.size := ⟨_, rfl⟩
            rw [← hZ_47] at N_47 ⊢
            have T1_47 := Lib.hid (T1_46.out.move (w' := w_47) (P' := fun b => wr.heap.size ≤ b ∧ b ∉ ([X, Y] : List Nat)) (fun b hb hp => ⟨D_47.out.block b hb, hp.1, by rw [List.mem_cons, not_or]; exact ⟨by have h0 := hb; rw [← hZ_47] at h0; exact Nat.ne_of_lt h0, hp.2⟩⟩) D_47.out.size)
            have T2_47 := Lib.hid (T2_46.out.move (w' := w_47) (P' := fun b => wr.heap.size ≤ b ∧ b ∉ ([X, Y] : List Nat)) (fun b hb hp => ⟨D_47.out.block b hb, hp.1, by rw [List.mem_cons, not_or]; exact ⟨by have h0 := hb; rw [← hZ_47] at h0; exact Nat.ne_of_lt h0, hp.2⟩⟩) D_47.out.size)
            have Y0_47 := Lib.hid ((D_47.out.block Y (Array.getElem?_eq_some_iff.1 Y0_46.out).1).trans Y0_46.out)
            have B_47 := Lib.hid (bt B_46.out D_47.out)
            have ZL_47 : Hid (∀ x ∈ ([X, Y] : List Nat), x < w_47.heap.size) := Lib.hid (fun x hx => by rcases List.mem_cons.1 hx with h | h; (rw [h]; exact (Array.getElem?_eq_some_iff.1 N_47.out).1); exact Nat.lt_of_lt_of_le (ZL_46.out x h) D_47.out.size)
            have ZX_47 : Hid (wr.heap.size ≤ X) := Lib.hid (by rw [hZ_47]; exact B_46.out.size)
            have XY_47 : Hid (X ≠ Y) := Lib.hid (by have h1 := (Array.getElem?_eq_some_iff.1 Y0_46.out).1; rw [← hZ_47] at h1; omega)
            clear hw_47 hZ_47
            refine WD_ready (rs := [8]) (by kernel_rfl) (by simp) ?_
            refine AllD.cons (o := _) rfl (fun K hK => ?_) AllD.nil
            obtain ⟨⟨y0, y1, y2, y3⟩, k0, k1, k2, k3⟩ := zero_cells N_47.out
            rw [if_pos (by rfl)]
            go_simp
            refine hK.out _ _ (B_47.out.trans (Frm.below (frm4 w_47 X (.int .i64 U1.k) (.string U1.nm) (.int .i64 U1.vr) (.slice A1 U1.args.length c1)) (fun q hq => by have e : q = X := hq; have := ZX_47.out; omega) B_47.out.size)) (fun hHeld => ?_)
            clear hK K
            (try simp only [putz])
            clear hHeld
            obtain ⟨w_48, hw_48⟩ : ∃ z, z = ((((w_47.setCell ⟨X, 0, none⟩ (.int .i64 U1.k)).setCell ⟨X, 1, none⟩ (.string U1.nm)).setCell ⟨X, 2, none⟩ (.int .i64 U1.vr)).setCell ⟨X, 3, none⟩ (.slice A1 U1.args.length c1)) := ⟨_, rfl⟩
            try rw [← hw_48]
            have D_48 : Hid (Frm w_47 w_48 (· = X)) := Lib.hid (by rw [hw_48]; exact (frm4 w_47 X (.int .i64 U1.k) (.string U1.nm) (.int .i64 U1.vr) (.slice A1 U1.args.length c1)))
            have XF_48 : Hid (w_48.heap[X]? = some (.cells #[.int .i64 U1.k, .string U1.nm, .int .i64 U1.vr, .slice A1 U1.args.length c1] TT24 (0, 0))) := Lib.hid (by rw [hw_48]; exact cells_all _ _ _ _ N_47.out)
            have T1_48 := Lib.hid (T1_47.out.move (w' := w_48) (P' := fun b => wr.heap.size ≤ b ∧ b ∉ ([X, Y] : List Nat)) (fun b hb hp => ⟨D_48.out.block b hb (fun e => hp.2 (by rw [show b = X from e]; simp)), hp.1, hp.2⟩) D_48.out.size)
            have T2_48 := Lib.hid (T2_47.out.move (w' := w_48) (P' := fun b => wr.heap.size ≤ b ∧ b ∉ ([X, Y] : List Nat)) (fun b hb hp => ⟨D_48.out.block b hb (fun e => hp.2 (by rw [show b = X from e]; simp)), hp.1, hp.2⟩) D_48.out.size)
            have Y0_48 := Lib.hid ((D_48.out.block Y (Array.getElem?_eq_some_iff.1 Y0_47.out).1 (fun e => XY_47.out e.symm)).trans Y0_47.out)
            have B_48 := Lib.hid (B_47.out.trans (D_48.out.below (fun q hq => by have e : q = X := hq; have := ZX_47.out; omega) B_47.out.size))
            have ZL_48 : Hid (∀ x ∈ ([X, Y] : List Nat), x < w_48.heap.size) := Lib.hid (fun x hx => Nat.lt_of_lt_of_le (ZL_47.out x hx) D_48.out.size)
            clear hw_48 y0 y1 y2 y3 k0 k1 k2 k3
            refine WD_ready (rs := [9]) (by kernel_rfl) (by simp) ?_
            refine AllD.last (o := _) rfl (by kernel_rfl) (fun K hK => ?_) AllD.nil
            obtain ⟨⟨y0, y1, y2, y3⟩, k0, k1, k2, k3⟩ := zero_cells Y0_48.out
            rw [if_pos (by rfl)]
            go_simp
            refine hK.out _ _ ?_
            clear hK K
            (try simp only [putz])
            obtain ⟨w_49, hw_49⟩ : ∃ z, z = ((((w_48.setCell ⟨Y, 0, none⟩ (.int .i64 U2.k)).setCell ⟨Y, 1, none⟩ (.string U2.nm)).setCell ⟨Y, 2, none⟩ (.int .i64 U2.vr)).setCell ⟨Y, 3, none⟩ (.slice A2 U2.args.length c2)) := ⟨_, rfl⟩
            try rw [← hw_49]
            have D_49 : Hid (Frm w_48 w_49 (· = Y)) := Lib.hid (by rw [hw_49]; exact (frm4 w_48 Y (.int .i64 U2.k) (.string U2.nm) (.int .i64 U2.vr) (.slice A2 U2.args.length c2)))
            have YF_49 : Hid (w_49.heap[Y]? = some (.cells #[.int .i64 U2.k, .string U2.nm, .int .i64 U2.vr, .slice A2 U2.args.length c2] TT24 (0, 0))) := Lib.hid (by rw [hw_49]; exact cells_all _ _ _ _ Y0_48.out)
            have T1_49 := Lib.hid (T1_48.out.move (w' := w_49) (P' := fun b => wr.heap.size ≤ b ∧ b ∉ ([X, Y] : List Nat)) (fun b hb hp => ⟨D_49.out.block b hb (fun e => hp.2 (by rw [show b = Y from e]; simp)), hp.1, hp.2⟩) D_49.out.size)
            have T2_49 := Lib.hid (T2_48.out.move (w' := w_49) (P' := fun b => wr.heap.size ≤ b ∧ b ∉ ([X, Y] : List Nat)) (fun b hb hp => ⟨D_49.out.block b hb (fun e => hp.2 (by rw [show b = Y from e]; simp)), hp.1, hp.2⟩) D_49.out.size)
            have XF_49 := Lib.hid ((D_49.out.block X (Array.getElem?_eq_some_iff.1 XF_48.out).1 (fun e => XY_47.out e)).trans XF_48.out)
            have B_49 := Lib.hid (B_48.out.trans (D_49.out.below (fun q hq => by have e : q = Y := hq; have := ZY_44.out; omega) B_48.out.size))
            have ZL_49 : Hid (∀ x ∈ ([X, Y] : List Nat), x < w_49.heap.size) := Lib.hid (fun x hx => Nat.lt_of_lt_of_le (ZL_48.out x hx) D_49.out.size)
            clear hw_49 y0 y1 y2 y3 k0 k1 k2 k3
            refine WD_done (by kernel_rfl) ?_ _
            exact ⟨X, Y, A1, c1, A2, c2, _, _, _, _, _, _, by rfl, ⟨XF_49.out, YF_49.out, T1_49.out.weak (fun _ _ h => h.1), T2_49.out.weak (fun _ _ h => h.1), B_49.out, ZX_47.out, ZY_44.out⟩⟩
          · rw [if_pos (by rfl)]
            go_simp
            refine hK.out _ _ (bt B_45.out (below_alloc w_45 _)) (fun hHeld => ?_)
            clear hK K
            (try simp only [putz])
            obtain ⟨w_50, hw_50⟩ : ∃ z, z = w_45.alloc (.cells #[.int .i64 0, .string ⟨#[]⟩, .int .i64 0, .slice none 0 0] TT24) := ⟨_, rfl⟩
            try rw [← hw_50]
            clear hHeld
            have D_50 : Hid (Below w_45.heap.size w_45 w_50) := Lib.hid (by rw [hw_50]; exact below_alloc w_45 _)
            have N_50 : Hid (w_50.heap[w_45.heap.size]? = some (.cells #[.int .i64 0, .string ⟨#[]⟩, .int .i64 0, .slice none 0 0] TT24 (0, 0))) := Lib.hid (by rw [hw_50]; exact heap_alloc_new w_45 _)
            obtain ⟨X, hZ_50⟩ : ∃ Z, Z = w_45.heap.size := ⟨_, rfl⟩
            rw [← hZ_50] at N_50 ⊢
            have T1_50 := Lib.hid (T1_45.out.move (w' := w_50) (P' := fun b => wr.heap.size ≤ b ∧ b ∉ ([X, Y] : List Nat)) (fun b hb hp => ⟨D_50.out.block b hb, hp.1, by rw [List.mem_cons, not_or]; exact ⟨by have h0 := hb; rw [← hZ_50] at h0; exact Nat.ne_of_lt h0, hp.2⟩⟩) D_50.out.size)
            have Y0_50 := Lib.hid ((D_50.out.block Y (Array.getElem?_eq_some_iff.1 Y0_45.out).1).trans Y0_45.out)
            have B_50 := Lib.hid (bt B_45.out D_50.out)
            have ZL_50 : Hid (∀ x ∈ ([X, Y] : List Nat), x < w_50.heap.size) := Lib.hid (fun x hx => by rcases List.mem_cons.1 hx with h | h; (rw [h]; exact (Array.getElem?_eq_some_iff.1 N_50.out).1); exact Nat.lt_of_lt_of_le (ZL_45.out x h) D_50.out.size)
            have ZX_50 : Hid (wr.heap.size ≤ X) := Lib.hid (by rw [hZ_50]; exact B_45.out.size)
            have XY_50 : Hid (X ≠ Y) := Lib.hid (by have h1 := (Array.getElem?_eq_some_iff.1 Y0_45.out).1; rw [← hZ_50] at h1; omega)
            clear hw_50 hZ_50
            refine WD_ready (rs := [5]) (by kernel_rfl) (by simp) ?_
            refine AllD.cons (o := _) rfl (fun K hK => ?_) AllD.nil
            rw [if_pos (by rfl)]
            go_simp
            refine (AF2.out _ B_50.out).mono ?_; rintro e w_51 ⟨A2, c2, rfl, r_51, d_51⟩
            unfold tv
            try go_wp2_with fail
            refine hK.out _ _ (bt B_50.out d_51) (fun hHeld => ?_)
            clear hK K
            (try simp only [putz])
            clear hHeld
            have D_51 := Lib.hid d_51
            have T1_51 := Lib.hid (T1_50.out.move (w' := w_51) (P' := fun b => wr.heap.size ≤ b ∧ b ∉ ([X, Y] : List Nat)) (fun b hb hp => ⟨D_51.out.block b hb, hp.1, hp.2⟩) D_51.out.size)
            have X0_51 := Lib.hid ((D_51.out.block X (Array.getElem?_eq_some_iff.1 N_50.out).1).trans N_50.out)
            have Y0_51 := Lib.hid ((D_51.out.block Y (Array.getElem?_eq_some_iff.1 Y0_50.out).1).trans Y0_50.out)
            have B_51 := Lib.hid (bt B_50.out D_51.out)
            have ZL_51 : Hid (∀ x ∈ ([X, Y] : List Nat), x < w_51.heap.size) := Lib.hid (fun x hx => Nat.lt_of_lt_of_le (ZL_50.out x hx) D_51.out.size)
            have T2_51 := Lib.hid (r_51.weak (P' := fun b => wr.heap.size ≤ b ∧ b ∉ ([X, Y] : List Nat)) (fun b _ hp => ⟨Nat.le_trans B_50.out.size hp, notin_ge ZL_50.out hp⟩))
            clear r_51 d_51
            refine WD_ready (rs := [8]) (by kernel_rfl) (by simp) ?_
            refine AllD.cons (o := _) rfl (fun K hK => ?_) AllD.nil
            obtain ⟨⟨y0, y1, y2, y3⟩, k0, k1, k2, k3⟩ := zero_cells X0_51.out
            rw [if_pos (by rfl)]
            go_simp
            refine hK.out _ _ (B_51.out.trans (Frm.below (frm4 w_51 X (.int .i64 U1.k) (.string U1.nm) (.int .i64 U1.vr) (.slice A1 U1.args.length c1)) (fun q hq => by have e : q = X := hq; have := ZX_50.out; omega) B_51.out.size)) (fun hHeld => ?_)
            clear hK K
            (try simp only [putz])
            clear hHeld
            obtain ⟨w_52, hw_52⟩ : ∃ z, z = ((((w_51.setCell ⟨X, 0, none⟩ (.int .i64 U1.k)).setCell ⟨X, 1, none⟩ (.string U1.nm)).setCell ⟨X, 2, none⟩ (.int .i64 U1.vr)).setCell ⟨X, 3, none⟩ (.slice A1 U1.args.length c1)) := ⟨_, rfl⟩
            try rw [← hw_52]
            have D_52 : Hid (Frm w_51 w_52 (· = X)) := Lib.hid (by rw [hw_52]; exact (frm4 w_51 X (.int .i64 U1.k) (.string U1.nm) (.int .i64 U1.vr) (.slice A1 U1.args.length c1)))
            have XF_52 : Hid (w_52.heap[X]? = some (.cells #[.int .i64 U1.k, .string U1.nm, .int .i64 U1.vr, .slice A1 U1.args.length c1] TT24 (0, 0))) := Lib.hid (by rw [hw_52]; exact cells_all _ _ _ _ X0_51.out)
            have T1_52 := Lib.hid (T1_51.out.move (w' := w_52) (P' := fun b => wr.heap.size ≤ b ∧ b ∉ ([X, Y] : List Nat)) (fun b hb hp => ⟨D_52.out.block b hb (fun e => hp.2 (by rw [show b = X from e]; simp)), hp.1, hp.2⟩) D_52.out.size)
            have T2_52 := Lib.hid (T2_51.out.move (w' := w_52) (P' := fun b => wr.heap.size ≤ b ∧ b ∉ ([X, Y] : List Nat)) (fun b hb hp => ⟨D_52.out.block b hb (fun e => hp.2 (by rw [show b = X from e]; simp)), hp.1, hp.2⟩) D_52.out.size)
            have Y0_52 := Lib.hid ((D_52.out.block Y (Array.getElem?_eq_some_iff.1 Y0_51.out).1 (fun e => XY_50.out e.symm)).trans Y0_51.out)
            have B_52 := Lib.hid (B_51.out.trans (D_52.out.below (fun q hq => by have e : q = X := hq; have := ZX_50.out; omega) B_51.out.size))
            have ZL_52 : Hid (∀ x ∈ ([X, Y] : List Nat), x < w_52.heap.size) := Lib.hid (fun x hx => Nat.lt_of_lt_of_le (ZL_51.out x hx) D_52.out.size)
            clear hw_52 y0 y1 y2 y3 k0 k1 k2 k3
            refine WD_ready (rs := [9]) (by kernel_rfl) (by simp) ?_
            refine AllD.last (o := _) rfl (by kernel_rfl) (fun K hK => ?_) AllD.nil
            obtain ⟨⟨y0, y1, y2, y3⟩, k0, k1, k2, k3⟩ := zero_cells Y0_52.out
            rw [if_pos (by rfl)]
            go_simp
            refine hK.out _ _ ?_
            clear hK K
            (try simp only [putz])
            obtain ⟨w_53, hw_53⟩ : ∃ z, z = ((((w_52.setCell ⟨Y, 0, none⟩ (.int .i64 U2.k)).setCell ⟨Y, 1, none⟩ (.string U2.nm)).setCell ⟨Y, 2, none⟩ (.int .i64 U2.vr)).setCell ⟨Y, 3, none⟩ (.slice A2 U2.args.length c2)) := ⟨_, rfl⟩
            try rw [← hw_53]
            have D_53 : Hid (Frm w_52 w_53 (· = Y)) := Lib.hid (by rw [hw_53]; exact (frm4 w_52 Y (.int .i64 U2.k) (.string U2.nm) (.int .i64 U2.vr) (.slice A2 U2.args.length c2)))
            have YF_53 : Hid (w_53.heap[Y]? = some (.cells #[.int .i64 U2.k, .string U2.nm, .int .i64 U2.vr, .slice A2 U2.args.length c2] TT24 (0, 0))) := Lib.hid (by rw [hw_53]; exact cells_all _ _ _ _ Y0_52.out)
            have T1_53 := Lib.hid (T1_52.out.move (w' := w_53) (P' := fun b => wr.heap.size ≤ b ∧ b ∉ ([X, Y] : List Nat)) (fun b hb hp => ⟨D_53.out.block b hb (fun e => hp.2 (by rw [show b = Y from e]; simp)), hp.1, hp.2⟩) D_53.out.size)
            have T2_53 := Lib.hid (T2_52.out.move (w' := w_53) (P' := fun b => wr.heap.size ≤ b ∧ b ∉ ([X, Y] : List Nat)) (fun b hb hp => ⟨D_53.out.block b hb (fun e => hp.2 (by rw [show b = Y from e]; simp)), hp.1, hp.2⟩) D_53.out.size)
            have XF_53 := Lib.hid ((D_53.out.block X (Array.getElem?_eq_some_iff.1 XF_52.out).1 (fun e => XY_50.out e)).trans XF_52.out)
            have B_53 := Lib.hid (B_52.out.trans (D_53.out.below (fun q hq => by have e : q = Y := hq; have := ZY_44.out; omega) B_52.out.size))
            have ZL_53 : Hid (∀ x ∈ ([X, Y] : List Nat), x < w_53.heap.size) := Lib.hid (fun x hx => Nat.lt_of_lt_of_le (ZL_52.out x hx) D_53.out.size)
            clear hw_53 y0 y1 y2 y3 k0 k1 k2 k3
            refine WD_done (by kernel_rfl) ?_ _
            exact ⟨X, Y, A1, c1, A2, c2, _, _, _, _, _, _, by rfl, ⟨XF_53.out, YF_53.out, T1_53.out.weak (fun _ _ h => h.1), T2_53.out.weak (fun _ _ h => h.1), B_53.out, ZX_50.out, ZY_44.out⟩⟩
        · rw [if_pos (by rfl)]
          go_simp
          refine hK.out _ _ (bt B_44.out (below_alloc w_44 _)) (fun hHeld => ?_)
          clear hK K
          (try simp only [putz])
          obtain ⟨w_54, hw_54⟩ : ∃ z, z = w_44.alloc (.cells #[.int .i64 0, .string ⟨#[]⟩, .int .i64 0, .slice none 0 0] TT24) := ⟨_, rfl⟩
          try rw [← hw_54]
          clear hHeld
          have D_54 : Hid (Below w_44.heap.size w_44 w_54) := Lib.hid (by rw [hw_54]; exact below_alloc w_44 _)
          have N_54 : Hid (w_54.heap[w_44.heap.size]? = some (.cells #[.int .i64 0, .string ⟨#[]⟩, .int .i64 0, .slice none 0 0] TT24 (0, 0))) := Lib.hid (by rw [hw_54]; exact heap_alloc_new w_44 _)
          obtain ⟨X, hZ_54⟩ : ∃ Z, Z = w_44.heap.size := ⟨_, rfl⟩
          rw [← hZ_54] at N_54 ⊢
          have Y0_54 := Lib.hid ((D_54.out.block Y (Array.getElem?_eq_some_iff.1 N_44.out).1).trans N_44.out)
          have B_54 := Lib.hid (bt B_44.out D_54.out)
          have ZL_54 : Hid (∀ x ∈ ([X, Y] : List Nat), x < w_54.heap.size) := Lib.hid (fun x hx => by rcases List.mem_cons.1 hx with h | h; (rw [h]; exact (Array.getElem?_eq_some_iff.1 N_54.out).1); exact Nat.lt_of_lt_of_le (ZL_44.out x h) D_54.out.size)
          have ZX_54 : Hid (wr.heap.size ≤ X) := Lib.hid (by rw [hZ_54]; exact B_44.out.size)
          have XY_54 : Hid (X ≠ Y) := Lib.hid (by have h1 := (Array.getElem?_eq_some_iff.1 N_44.out).1; rw [← hZ_54] at h1; omega)
          clear hw_54 hZ_54
          refine WD_ready (rs := [2]) (by kernel_rfl) (by simp) ?_
          refine AllD.cons (o := _) rfl (fun K hK => ?_) AllD.nil
          rw [if_pos (by rfl)]
          go_simp
          refine (AF1.out _ B_54.out).mono ?_; rintro e w_55 ⟨A1, c1, rfl, r_55, d_55⟩
          unfold tv
          try go_wp2_with fail
          refine hK.out _ _ (bt B_54.out d_55) (fun hHeld => ?_)
          clear hK K
          (try simp only [putz])
          clear hHeld
          have D_55 := Lib.hid d_55
          have X0_55 := Lib.hid ((D_55.out.block X (Array.getElem?_eq_some_iff.1 N_54.out).1).trans N_54.out)
          have Y0_55 := Lib.hid ((D_55.out.block Y (Array.getElem?_eq_some_iff.1 Y0_54.out).1).trans Y0_54.out)
          have B_55 := Lib.hid (bt B_54.out D_55.out)
          have ZL_55 : Hid (∀ x ∈ ([X, Y] : List Nat), x < w_55.heap.size) := Lib.hid (fun x hx => Nat.lt_of_lt_of_le (ZL_54.out x hx) D_55.out.size)
          have T1_55 := Lib.hid (r_55.weak (P' := fun b => wr.heap.size ≤ b ∧ b ∉ ([X, Y] : List Nat)) (fun b _ hp => ⟨Nat.le_trans B_54.out.size hp, notin_ge ZL_54.out hp⟩))
          clear r_55 d_55
          refine WD_ready (rs := [5]) (by kernel_rfl) (by simp) ?_
          refine AllD.cons (o := _) rfl (fun K hK => ?_) AllD.nil
          rw [if_pos (by rfl)]
          go_simp
          refine (AF2.out _ B_55.out).mono ?_; rintro e w_56 ⟨A2, c2, rfl, r_56, d_56⟩
          unfold tv
          try go_wp2_with fail
          refine hK.out _ _ (bt B_55.out d_56) (fun hHeld => ?_)
          clear hK K
          (try simp only [putz])
          clear hHeld
          have D_56 := Lib.hid d_56
          have T1_56 := Lib.hid (T1_55.out.move (w' := w_56) (P' := fun b => wr.heap.size ≤ b ∧ b ∉ ([X, Y] : List Nat)) (fun b hb hp => ⟨D_56.out.block b hb, hp.1, hp.2⟩) D_56.out.size)
          have X0_56 := Lib.hid ((D_56.out.block X (Array.getElem?_eq_some_iff.1 X0_55.out).1).trans X0_55.out)
          have Y0_56 := Lib.hid ((D_56.out.block Y (Array.getElem?_eq_some_iff.1 Y0_55.out).1).trans Y0_55.out)
          have B_56 := Lib.hid (bt B_55.out D_56.out)
          have ZL_56 : Hid (∀ x ∈ ([X, Y] : List Nat), x < w_56.heap.size) := Lib.hid (fun x hx => Nat.lt_of_lt_of_le (ZL_55.out x hx) D_56.out.size)
          have T2_56 := Lib.hid (r_56.weak (P' := fun b => wr.heap.size ≤ b ∧ b ∉ ([X, Y] : List Nat)) (fun b _ hp => ⟨Nat.le_trans B_55.out.size hp, notin_ge ZL_55.out hp⟩))
          clear r_56 d_56
          refine WD_ready (rs := [8]) (by kernel_rfl) (by simp) ?_
          refine AllD.cons (o := _) rfl (fun K hK => ?_) AllD.nil
          obtain ⟨⟨y0, y1, y2, y3⟩, k0, k1, k2, k3⟩ := zero_cells X0_56.out
          rw [if_pos (by rfl)]
          go_simp
          refine hK.out _ _ (B_56.out.trans (Frm.below (frm4 w_56 X (.int .i64 U1.k) (.string U1.nm) (.int .i64 U1.vr) (.slice A1 U1.args.length c1)) (fun q hq => by have e : q = X := hq; have := ZX_54.out; omega) B_56.out.size)) (fun hHeld => ?_)
          clear hK K
          (try simp only [putz])
          clear hHeld
          obtain ⟨w_57, hw_57⟩ : ∃ z, z = ((((w_56.setCell ⟨X, 0, none⟩ (.int .i64 U1.k)).setCell ⟨X, 1, none⟩ (.string U1.nm)).setCell ⟨X, 2, none⟩ (.int .i64 U1.vr)).setCell ⟨X, 3, none⟩ (.slice A1 U1.args.length c1)) := ⟨_, rfl⟩
          try rw [← hw_57]
          have D_57 : Hid (Frm w_56 w_57 (· = X)) := Lib.hid (by rw [hw_57]; exact (frm4 w_56 X (.int .i64 U1.k) (.string U1.nm) (.int .i64 U1.vr) (.slice A1 U1.args.length c1)))
          have XF_57 : Hid (w_57.heap[X]? = some (.cells #[.int .i64 U1.k, .string U1.nm, .int .i64 U1.vr, .slice A1 U1.args.length c1] TT24 (0, 0))) := Lib.hid (by rw [hw_57]; exact cells_all _ _ _ _ X0_56.out)
          have T1_57 := Lib.hid (T1_56.out.move (w' := w_57) (P' := fun b => wr.heap.size ≤ b ∧ b ∉ ([X, Y] : List Nat)) (fun b hb hp => ⟨D_57.out.block b hb (fun e => hp.2 (by rw [show b = X from e]; simp)), hp.1, hp.2⟩) D_57.out.size)
          have T2_57 := Lib.hid (T2_56.out.move (w' := w_57) (P' := fun b => wr.heap.size ≤ b ∧ b ∉ ([X, Y] : List Nat)) (fun b hb hp => ⟨D_57.out.block b hb (fun e => hp.2 (by rw [show b = X from e]; simp)), hp.1, hp.2⟩) D_57.out.size)
          have Y0_57 := Lib.hid ((D_57.out.block Y (Array.getElem?_eq_some_iff.1 Y0_56.out).1 (fun e => XY_54.out e.symm)).trans Y0_56.out)
          have B_57 := Lib.hid (B_56.out.trans (D_57.out.below (fun q hq => by have e : q = X := hq; have := ZX_54.out; omega) B_56.out.size))
          have ZL_57 : Hid (∀ x ∈ ([X, Y] : List Nat), x < w_57.heap.size) := Lib.hid (fun x hx => Nat.lt_of_lt_of_le (ZL_56.out x hx) D_57.out.size)
          clear hw_57 y0 y1 y2 y3 k0 k1 k2 k3
          refine WD_ready (rs := [9]) (by kernel_rfl) (by simp) ?_
          refine AllD.last (o := _) rfl (by kernel_rfl) (fun K hK => ?_) AllD.nil
          obtain ⟨⟨y0, y1, y2, y3⟩, k0, k1, k2, k3⟩ := zero_cells Y0_57.out
          rw [if_pos (by rfl)]
          go_simp
          refine hK.out _ _ ?_
          clear hK K
          (try simp only [putz])
          obtain ⟨w_58, hw_58⟩ : ∃ z, z = ((((w_57.setCell ⟨Y, 0, none⟩ (.int .i64 U2.k)).setCell ⟨Y, 1, none⟩ (.string U2.nm)).setCell ⟨Y, 2, none⟩ (.int .i64 U2.vr)).setCell ⟨Y, 3, none⟩ (.slice A2 U2.args.length c2)) := ⟨_, rfl⟩
          try rw [← hw_58]
          have D_58 : Hid (Frm w_57 w_58 (· = Y)) := Lib.hid (by rw [hw_58]; exact (frm4 w_57 Y (.int .i64 U2.k) (.string U2.nm) (.int .i64 U2.vr) (.slice A2 U2.args.length c2)))
          have YF_58 : Hid (w_58.heap[Y]? = some (.cells #[.int .i64 U2.k, .string U2.nm, .int .i64 U2.vr, .slice A2 U2.args.length c2] TT24 (0, 0))) := Lib.hid (by rw [hw_58]; exact cells_all _ _ _ _ Y0_57.out)
          have T1_58 := Lib.hid (T1_57.out.move (w' := w_58) (P' := fun b => wr.heap.size ≤ b ∧ b ∉ ([X, Y] : List Nat)) (fun b hb hp => ⟨D_58.out.block b hb (fun e => hp.2 (by rw [show b = Y from e]; simp)), hp.1, hp.2⟩) D_58.out.size)
          have T2_58 := Lib.hid (T2_57.out.move (w' := w_58) (P' := fun b => wr.heap.size ≤ b ∧ b ∉ ([X, Y] : List Nat)) (fun b hb hp => ⟨D_58.out.block b hb (fun e => hp.2 (by rw [show b = Y from e]; simp)), hp.1, hp.2⟩) D_58.out.size)
          have XF_58 := Lib.hid ((D_58.out.block X (Array.getElem?_eq_some_iff.1 XF_57.out).1 (fun e => XY_54.out e)).trans XF_57.out)
          have B_58 := Lib.hid (B_57.out.trans (D_58.out.below (fun q hq => by have e : q = Y := hq; have := ZY_44.out; omega) B_57.out.size))
          have ZL_58 : Hid (∀ x ∈ ([X, Y] : List Nat), x < w_58.heap.size) := Lib.hid (fun x hx => Nat.lt_of_lt_of_le (ZL_57.out x hx) D_58.out.size)
          clear hw_58 y0 y1 y2 y3 k0 k1 k2 k3
          refine WD_done (by kernel_rfl) ?_ _
          exact ⟨X, Y, A1, c1, A2, c2, _, _, _, _, _, _, by rfl, ⟨XF_58.out, YF_58.out, T1_58.out.weak (fun _ _ h => h.1), T2_58.out.weak (fun _ _ h => h.1), B_58.out, ZX_54.out, ZY_44.out⟩⟩
end Go.Proofs.YtdkfimejabanlaaDoor
