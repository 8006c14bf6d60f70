import Derived.Test.YtdnakmbfkpjaeaaDoorPs
import Derived.Test.YtdnakmbfkpjaeaaDoorAgain
namespace Go.Proofs.YtdnakmbfkpjaeaaDoor
open Go.ChangeShapes Go.WideShapes Go.ChangeAt Go.RowKit
set_option linter.unusedVariables false
structure PS (wr w : World) (g : Nat) (iv ov : Value) (A : Option Addr) (m c : Nat) (inp out : List Int) (rd : Nat) : Prop where
  tp : Tp wr w.heap.size g iv ov inp out rd
  op : Op_ wr g iv ov A m c out
  below : Below w.heap.size w wr
  rng : ∀ j, -9223372036854775808 ≤ out.getD j 0 ∧ out.getD j 0 ≤ 9223372036854775807
theorem PS.calm {wr w w2 : World} {g : Nat} {iv ov : Value} {A : Option Addr} {m c : Nat} {inp out : List Int} {rd : Nat} (s : PS wr w g iv ov A m c inp out rd) (hb : Below wr.heap.size wr w2) : PS w2 w g iv ov A m c inp out rd :=
  ⟨s.tp.below hb, s.op.below hb, bt s.below hb, s.rng⟩
theorem PS.read {wr w w2 : World} {g : Nat} {iv ov : Value} {A : Option Addr} {m c : Nat} {inp out : List Int} {rd rd' : Nat} (s : PS wr w g iv ov A m c inp out rd) (t : Tp w2 w.heap.size g iv ov inp out rd') (f : Frm wr w2 (· = g)) : PS w2 w g iv ov A m c inp out rd' :=
  ⟨t, s.op.frm f (fun k h => .inl h) (fun k h => .inl h), s.below.trans (f.below (tp_ge s.tp) s.below.size), s.rng⟩
theorem PS.back {wr w w2 : World} {g p : Nat} {iv ov ov' : Value} {A : Option Addr} {m c : Nat} {inp out : List Int} {rd rd' : Nat} (s : PS wr w g iv ov A m c inp out rd) (t : Tp w2 w.heap.size g iv ov' inp (out.take p) rd') (f : Frm wr w2 (· = g)) (n : ov'.ownBlock = ov.ownBlock) (hp : p ≤ m) (hA : A = none → p = 0) : PS w2 w g iv ov' A p p inp (out.take p) rd' :=
  ⟨t, (s.op.frm f (fun k h => .inl h) (fun k h => .inl (n ▸ h))).cut hp hA, s.below.trans (f.below (tp_ge s.tp) s.below.size), fun j => by
    by_cases h : j < p
    · have := s.rng j; simp [List.getD, h] at this ⊢; exact this
    · rw [List.getD, List.getElem?_eq_none (by rw [List.length_take]; omega)]; simp⟩
theorem PS.own {wr w w2 : World} {g : Nat} {iv ov : Value} {A : Option Addr} {m c : Nat} {inp out : List Int} {rd : Nat} {v : Value} {k : Nat} {xs : List Value} {B : Nat} (s : PS wr w g iv ov A m c inp out rd) (h : wr.ownsRow B 2 1 v k xs) (hb : Below wr.heap.size wr w2) : w2.ownsRow B 2 1 v k xs :=
  own_frm h (Frm.of_below hb (Nat.le_refl _) (fun _ => False)) (fun _ _ h => h)
theorem PS.cell {wr w : World} {g : Nat} {iv ov : Value} {m c : Nat} {A : Option Addr} {inp out : List Int} {rd k : Nat} (s : PS wr w g iv ov A m c inp out rd) (hk : k < m) : ∃ h, A = some ⟨h, 0, none⟩ ∧ ∀ W, Below wr.heap.size wr W → W.cell? ⟨h, k, none⟩ = some (.int .i64 (out.getD k 0)) := by
  obtain ⟨h, e, hlt, _, _, _, hc⟩ := s.op.2.2.2.1 (by omega)
  exact ⟨h, e, fun W hW => by rw [hW.cell (p := ⟨h, k, none⟩) hlt]; exact hc k hk⟩
theorem textL_len (xs : List Int) (h : ∀ j, -9223372036854775808 ≤ xs.getD j 0 ∧ xs.getD j 0 ≤ 9223372036854775807) : (textL xs).length ≤ 22 * xs.length := by
  induction xs with
  | nil => simp [textL]
  | cons x xs ih =>
    have h0 := h 0
    have h1 : ∀ j, -9223372036854775808 ≤ xs.getD j 0 ∧ xs.getD j 0 ≤ 9223372036854775807 := fun j => by have := h (j + 1); simpa [List.getD] using this
    have := ih h1
    have hl := Lib.itoa_length_le x (by simpa using h0.1) (by simpa using h0.2)
    have e : textL (x :: xs) = Lib.itoa x ++ [10] ++ textL xs := by simp [textL]
    rw [e, List.length_append, List.length_append, List.length_cons]
    simp only [List.length_cons, List.length_nil]
    omega
theorem take_rng {out : List Int} (h : ∀ j, -9223372036854775808 ≤ out.getD j 0 ∧ out.getD j 0 ≤ 9223372036854775807) (k : Nat) : ∀ j, -9223372036854775808 ≤ (out.take k).getD j 0 ∧ (out.take k).getD j 0 ≤ 9223372036854775807 := fun j => by
  by_cases hj : j < k
  · have := h j; simp [List.getD, hj] at this ⊢; exact this
  · rw [List.getD, List.getElem?_eq_none (by rw [List.length_take]; omega)]; simp
theorem strU_nl : strU [10] = { data := #[10] } := by decide +kernel
theorem below_drew' (w : World) : Below w.heap.size w w.drew := ⟨rfl, rfl, rfl, Nat.le_refl _, fun _ _ => rfl⟩
theorem nz_keep {W w4 : World} {q : Nat} {z : Int} {row : Option Nat} (h : W.heap[q]? = some (.cells #[.int .i64 z] 2 (0, 0))) (g : W.grownBy w4 row) (hr : row ≠ some q) : ∀ j u, [(.int .i64 z : Value)][j]? = some u → w4.cell? ((⟨q, 0, none⟩ : Addr).add j) = some u := fun j u hj => by
  have hlt := (Array.getElem?_eq_some_iff.1 h).1
  match j, hj with
  | 0, hj =>
    simp at hj; subst hj
    show w4.cell? ⟨q, 0, none⟩ = _
    have := g.block q hlt (fun e => hr e.symm)
    unfold World.cell?; rw [this, h]; rfl
theorem Op_.of_own {w : World} {B g n : Nat} {iv ov : Value} {A : Option Addr} {c : Nat} {xs : List Int} (h : w.ownsRow B 2 1 (.slice A n c) n (its xs)) (hg : g < B) (hi : ∀ k, iv.ownBlock = some k → k < B) (ho : ∀ k, ov.ownBlock = some k → k < B) : Op_ w g iv ov A n c xs := by
  have hl := iown_len h
  rcases h.2 with ⟨e, h0⟩ | ⟨q, cap, cur, e, hb, hgq, hc, _⟩
  · injection e with e1 e2 e3
    subst e1 e3
    exact ⟨hl.symm, by omega, fun _ => rfl, fun h => absurd h (by omega), fun a e => by cases e⟩
  · injection e with e1 e2 e3
    subst e1 e3
    refine ⟨hl.symm, hc, fun e => (by cases e), fun _ => ⟨q, rfl, (Array.getElem?_eq_some_iff.1 hgq).1, by omega, fun e => ?_, fun e => ?_, fun j hj => ?_⟩, fun a e => ?_⟩
    · have := hi q e; omega
    · have := ho q e; omega
    · rw [h.cellAt j (by omega), its_at xs j (by omega)]
    · injection e with e; subst e; exact ⟨q, rfl⟩
theorem Op_.news {w : World} {g : Nat} {iv ov : Value} {A : Option Addr} {n c : Nat} {xs : List Int} (s : Op_ w g iv ov A n c xs) : ∀ W, Below w.heap.size w W → ∀ ad, A = some ad → ∀ j u, (its xs)[j]? = some u → W.cell? (ad.add j) = some u := fun W hW ad ea j u hu => by
  have hj : j < xs.length := by have := (List.getElem?_eq_some_iff.1 hu).1; rwa [its_len] at this
  obtain ⟨h, e, hlt, _, _, _, hc⟩ := s.2.2.2.1 (by have := s.1; omega)
  rw [ea] at e
  injection e with e
  subst e
  rw [Go.WideShapes.add_plain, Nat.zero_add, hW.cell (p := ⟨h, j, none⟩) hlt, hc j (by have := s.1; omega), ← its_at xs j hj, hu]
theorem rng_snoc {out : List Int} {z : Int} (h : ∀ j, -9223372036854775808 ≤ out.getD j 0 ∧ out.getD j 0 ≤ 9223372036854775807) (hz : -9223372036854775808 ≤ z ∧ z ≤ 9223372036854775807) : ∀ j, -9223372036854775808 ≤ (out ++ [z]).getD j 0 ∧ (out ++ [z]).getD j 0 ≤ 9223372036854775807 := fun j => by
  by_cases hj : j < out.length
  · have := h j; rw [show (out ++ [z]).getD j 0 = out.getD j 0 by simp [List.getD, List.getElem?_append_left hj]]; exact this
  · by_cases hj2 : j = out.length
    · subst hj2; simp [List.getD]; exact hz
    · rw [List.getD, List.getElem?_eq_none (by rw [List.length_append, List.length_singleton]; omega)]; simp
set_option maxRecDepth 100000 in
set_option maxHeartbeats 100000000 in
theorem plays_mid {w : World} {A B : Option Addr} {n c b off L d : Nat} {inp : List Int} (si : SlI w A n c inp) (hn : n ≤ 200) (hL : L ≤ 60) (hLd : L ≤ d) (hb : b < w.heap.size)
    (hB : B = some ⟨b, off, none⟩) (hacts : ∀ i, i < L → ∃ o r p z : Int, w.cell? ⟨b, off + i * 4, none⟩ = some (.int .i64 o) ∧ w.cell? ⟨b, off + i * 4 + 1, none⟩ = some (.int .i64 r) ∧ w.cell? ⟨b, off + i * 4 + 2, none⟩ = some (.int .i64 p) ∧ w.cell? ⟨b, off + i * 4 + 3, none⟩ = some (.int .i64 z) ∧ -9223372036854775808 ≤ z ∧ z ≤ 9223372036854775807) (htab : HTab w) :
    Calls Tryd.prog 3 #[.slice A n c, .slice B L d] w fun e w' => e = .returned (.bool true) ∧ Below w.heap.size w w' := by
  subst hB
  obtain ⟨i0, hi0, hz0, hz1, hz2⟩ := info_parts info2
  have b1 : ¬ (250 : Int) < (n : Int) := by omega
  have b2 : ¬ (200 : Int) < (n : Int) := by omega
  have b3 : ¬ (60 : Int) < (L : Int) := by omega
  have LI : Hid (inp.length = n) := Lib.hid si.1
  have SI := Lib.hid si; have HT := Lib.hid htab; have AC := Lib.hid hacts
  clear si htab hacts
  go_enter Tryd.func3, Tryd.ntmps3
  go_wp2_with fail
  refine (awake w HT.out).mono ?_; rintro e w1 ⟨rfl, hb1⟩
  have B1 := Lib.hid hb1; clear hb1
  go_wp2_with fail
  refine (new_any (SI.out.below B1.out) (by omega)).mono ?_
  rintro e w2 ⟨g, iv, ov, rfl, t, hb2⟩
  have S0 : Hid (PS w2 w g iv ov none 0 0 inp [] 0) := Lib.hid ⟨by
    have := t.out
    exact ⟨this.obj, own_mono this.rin B1.out.size, own_mono this.rout B1.out.size, this.ni, this.no, this.ne, Nat.le_trans B1.out.size this.le, this.rd⟩, Op_.nil _ _ _ _, bt B1.out hb2.out, fun j => by simp⟩
  clear t hb2 B1
  go_wp2
  go_loopw [7, 8, 9] (fun rv fo ix wr => ∃ (i rd m c : Nat) (A' : Option Addr) (ov : Value) (out : List Int), rv = .int .i64 rd ∧ fo = .slice A' m c ∧ ix = .int .i64 i ∧ i ≤ L ∧ m ≤ i ∧ Hid (PS wr w g iv ov A' m c inp out rd)) (fun _ _ ix _ => L - (intOf ix).toNat)
  case atStart => exact ⟨0, 0, 0, 0, none, ov, [], rfl, rfl, rfl, by omega, by omega, S0⟩
  case round =>
    obtain ⟨i, rd, m, cc, A', ov2, out, rfl, rfl, rfl, hi, hm, s⟩ := hrel
    clear S0
    by_cases hil : i < L
    · have hil' : (i : Int) < (L : Int) := by omega
      obtain ⟨o, r, p, z, e0, e1, e2, e3, hz1', hz2'⟩ := AC.out i hil
      have x0 : wr.cell? ⟨b, off + i * 4, none⟩ = some (.int .i64 o) := by rw [s.out.below.cell (p := ⟨b, off + i * 4, none⟩) hb]; exact e0
      have x1 : wr.cell? ⟨b, off + i * 4 + 1, none⟩ = some (.int .i64 r) := by rw [s.out.below.cell (p := ⟨b, off + i * 4 + 1, none⟩) hb]; exact e1
      have x2 : wr.cell? ⟨b, off + i * 4 + 2, none⟩ = some (.int .i64 p) := by rw [s.out.below.cell (p := ⟨b, off + i * 4 + 2, none⟩) hb]; exact e2
      have x3 : wr.cell? ⟨b, off + i * 4 + 3, none⟩ = some (.int .i64 z) := by rw [s.out.below.cell (p := ⟨b, off + i * 4 + 3, none⟩) hb]; exact e3
      have SB := Lib.hid (s.out.calm (below_alloc wr (.cells #[.int .i64 o, .int .i64 r, .int .i64 p, .int .i64 z] 30)))
      have HZ := Lib.hid (And.intro hz1' hz2')
      clear e0 e1 e2 e3 hz1' hz2'
      by_cases ho0 : o = 0
      · subst ho0
        go_wp2_with fail
        refine (read_any SB.out.tp (by have := LI.out; omega)).mono ?_
        rintro e w3 ⟨rd', rfl, hrd, t3, f3⟩
        have P0 := Lib.hid (SB.out.read t3.out f3.out)
        have HRD := Lib.hid SB.out.tp.rd
        clear SB t3 f3 x0 x1 x2 x3
        by_cases hlt : rd < inp.length
        · have hrd1 : rd' = rd + 1 := by omega
          subst hrd1
          have hl2 : rd < n := by have := LI.out; omega
          have D : decide (rd < inp.length) = true := decide_eq_true hlt
          rw [D]
          have d1 : decide ((rd : Int) < (n : Int)) = true := decide_eq_true (by omega)
          have d2 : decide (rd < n) = true := decide_eq_true hl2
          have d3 : (rd : Int) < (n : Int) := by omega
          have d0 : (0 : Int) ≤ (rd : Int) := Int.natCast_nonneg _
          obtain ⟨hi', oi, ei, hli, hci⟩ := SI.out.2.2.2 (by omega)
          have y : w3.cell? ⟨hi', oi + rd, none⟩ = some (.int .i64 (inp.getD rd 0)) := by rw [P0.out.below.cell (p := ⟨hi', oi + rd, none⟩) hli]; exact hci rd hl2
          have SI2 := SI
          subst ei
          obtain ⟨v0, hv0⟩ : ∃ v, v = inp.getD rd 0 := ⟨_, rfl⟩
          rw [← hv0] at y ⊢
          clear hci hv0 D hrd
          as_aux_lemma =>
            have LEN : Hid ((out).length = m) := Lib.hid P0.out.op.1
            have hm6 : m ≤ 60 := by omega
            have hlo : (out).length ≤ 100000 := by have := LEN.out; omega
            have HLO := Lib.hid hlo
            clear hlo
            go_wp2_with fail
            refine (marks_any P0.out.tp).mono ?_; rintro e wm ⟨rfl, hbm⟩
            rw [LEN.out]
            have P1 := Lib.hid (P0.out.calm hbm)
            clear P0 hbm
            go_wp2_with fail
            refine (out_any P1.out.tp HLO.out).mono ?_; rintro e wo ⟨Ao, co, rfl, owo, hbo⟩
            rw [LEN.out] at owo ⊢
            have P2 := Lib.hid (P1.out.calm hbo.out)
            clear P1 hbo
            go_wp2
            go_loopw [18, 19] (fun sv kx wr => ∃ (k : Nat), sv = .string (strU (textL ((out).take k))) ∧ kx = .int .i64 k ∧ k ≤ m ∧ Hid (Below wo.heap.size wo wr)) (fun _ kx _ => m - (intOf kx).toNat)
            case atStart => exact ⟨0, rfl, rfl, by omega, Lib.hid (Below.refl _ _)⟩
            case round =>
              obtain ⟨k, rfl, rfl, hk, hbk⟩ := hrel
              by_cases hkm : k < m
              · have hkm' : (k : Int) < (m : Int) := by omega
                have hk0 : (0 : Int) ≤ (k : Int) := Int.natCast_nonneg _
                obtain ⟨hh, ea, hc⟩ := P2.out.cell hkm
                have hform := Go.Joins.ownsRow_form owo.out (by omega)
                obtain ⟨go, cgo, eo⟩ := hform
                injection eo with eo1 eo2 eo3
                subst eo1 eo3
                have y1 : wr.cell? ⟨go, k, none⟩ = some (.int .i64 ((out).getD k 0)) := ((P2.out.own owo.out hbk.out).cellAt k (by omega)).trans (its_at _ k (by have := LEN.out; omega))
                have y2 := hc wr hbk.out
                cases ea
                have hr := P2.out.rng k
                have TK : Hid (textL ((out).take (k + 1)) = textL ((out).take k) ++ Lib.itoa ((out).getD k 0) ++ [10]) := Lib.hid (by
                  rw [List.take_add_one, ← textL_snoc]; simp [List.getD, show k < (out).length by have := LEN.out; omega])
                have TL := textL_len _ (take_rng P2.out.rng k)
                rw [List.length_take] at TL
                obtain ⟨v, hv⟩ : ∃ v, v = (out).getD k 0 := ⟨_, rfl⟩
                rw [← hv] at y1 y2 hr TK
                obtain ⟨tl, htl⟩ : ∃ tl, tl = textL ((out).take k) := ⟨_, rfl⟩
                rw [← htl] at TK TL ⊢
                obtain ⟨s1, hs1⟩ : ∃ s, s = strU tl := ⟨_, rfl⟩
                obtain ⟨s2, hs2⟩ : ∃ s, s = strU (Lib.itoa v) := ⟨_, rfl⟩
                obtain ⟨s3, hs3⟩ : ∃ s, s = strU (tl ++ Lib.itoa v) := ⟨_, rfl⟩
                obtain ⟨s4, hs4⟩ : ∃ s, s = strU (textL ((out).take (k + 1))) := ⟨_, rfl⟩
                have z0 := Lib.itoa_length_le v hr.1 hr.2
                have z1 : s1.size ≤ 3000 := by rw [hs1, strU_size]; omega
                have z2 : s2.size ≤ 21 := by rw [hs2, strU_size]; omega
                have z3 : s3.size ≤ 3100 := by rw [hs3, strU_size, List.length_append]; omega
                have ad1 := add_str (a := s1) (b := s2) (c := s3) (by rw [hs1, hs2, hs3]; exact strU_app _ _) (by omega) (by omega)
                have ad2 := add_str (a := s3) (b := { data := #[10] }) (c := s4) (by rw [hs3, hs4, TK.out, ← strU_nl]; exact strU_app _ _) (by omega) (by decide)
                rw [← hs1]
                have HS2 := Lib.hid hs2; have HS4 := Lib.hid hs4; have HR := Lib.hid hr
                clear hc hv htl hs1 hs2 hs3 hs4 z0 z1 z2 z3 TL TK hr
                go_wp2
                go_quiet (fail)
                go_wp2_with fail
                refine (digits_any v _ HR.out.1 HR.out.2).mono ?_; rintro e wd ⟨rfl, hbd⟩
                rw [← HS2.out]
                have BD := Lib.hid (bt (bt hbk.out (below_drewN _ _)) hbd)
                clear hbd
                go_wp2
                go_roundw
                case rel => exact ⟨k + 1, by rw [HS4.out], by go_num, hkm, BD⟩
                case measure => simp [intOf]; omega
              · have hkm' : ¬ (k : Int) < (m : Int) := by omega
                have TKE : (out).take k = (out) := List.take_of_length_le (by have := LEN.out; omega)
                have P3 := Lib.hid (P2.out.calm hbk.out)
                rw [TKE]
                obtain ⟨tx, htx⟩ : ∃ tx, tx = strU (textL (out)) := ⟨_, rfl⟩
                have HTX := Lib.hid htx
                rw [← htx]
                clear TKE hkm htx
                go_wp2_with fail
                refine (text_any P3.out.tp HLO.out P3.out.rng (HT.out _ P3.out.below)).mono ?_
                rintro e wx ⟨rfl, hbx⟩
                rw [← HTX.out]
                have P4 := Lib.hid (P3.out.calm hbx)
                clear hbx
                go_wp2
                go_roundw
                case rel => exact ⟨i + 1, rd + 1, m, _, _, _, out, rfl, rfl, by go_num, hil, by omega, P4⟩
                case measure => simp [intOf]; omega
        · have hrd1 : rd' = rd := by have := HRD.out; omega
          subst hrd1
          have hl2 : ¬ rd' < n := by have := LI.out; omega
          have D : decide (rd' < inp.length) = false := decide_eq_false hlt
          have G0 : inp.getD rd' 0 = 0 := by rw [List.getD, List.getElem?_eq_none (by omega)]; rfl
          rw [D, G0]
          have d1 : decide ((rd' : Int) < (n : Int)) = false := decide_eq_false (by omega)
          have d2 : decide (rd' < n) = false := decide_eq_false hl2
          clear hrd D G0 hlt
          as_aux_lemma =>
            have LEN : Hid ((out).length = m) := Lib.hid P0.out.op.1
            have hm6 : m ≤ 60 := by omega
            have hlo : (out).length ≤ 100000 := by have := LEN.out; omega
            have HLO := Lib.hid hlo
            clear hlo
            go_wp2_with fail
            refine (marks_any P0.out.tp).mono ?_; rintro e wm ⟨rfl, hbm⟩
            rw [LEN.out]
            have P1 := Lib.hid (P0.out.calm hbm)
            clear P0 hbm
            go_wp2_with fail
            refine (out_any P1.out.tp HLO.out).mono ?_; rintro e wo ⟨Ao, co, rfl, owo, hbo⟩
            rw [LEN.out] at owo ⊢
            have P2 := Lib.hid (P1.out.calm hbo.out)
            clear P1 hbo
            go_wp2
            go_loopw [18, 19] (fun sv kx wr => ∃ (k : Nat), sv = .string (strU (textL ((out).take k))) ∧ kx = .int .i64 k ∧ k ≤ m ∧ Hid (Below wo.heap.size wo wr)) (fun _ kx _ => m - (intOf kx).toNat)
            case atStart => exact ⟨0, rfl, rfl, by omega, Lib.hid (Below.refl _ _)⟩
            case round =>
              obtain ⟨k, rfl, rfl, hk, hbk⟩ := hrel
              by_cases hkm : k < m
              · have hkm' : (k : Int) < (m : Int) := by omega
                have hk0 : (0 : Int) ≤ (k : Int) := Int.natCast_nonneg _
                obtain ⟨hh, ea, hc⟩ := P2.out.cell hkm
                have hform := Go.Joins.ownsRow_form owo.out (by omega)
                obtain ⟨go, cgo, eo⟩ := hform
                injection eo with eo1 eo2 eo3
                subst eo1 eo3
                have y1 : wr.cell? ⟨go, k, none⟩ = some (.int .i64 ((out).getD k 0)) := ((P2.out.own owo.out hbk.out).cellAt k (by omega)).trans (its_at _ k (by have := LEN.out; omega))
                have y2 := hc wr hbk.out
                cases ea
                have hr := P2.out.rng k
                have TK : Hid (textL ((out).take (k + 1)) = textL ((out).take k) ++ Lib.itoa ((out).getD k 0) ++ [10]) := Lib.hid (by
                  rw [List.take_add_one, ← textL_snoc]; simp [List.getD, show k < (out).length by have := LEN.out; omega])
                have TL := textL_len _ (take_rng P2.out.rng k)
                rw [List.length_take] at TL
                obtain ⟨v, hv⟩ : ∃ v, v = (out).getD k 0 := ⟨_, rfl⟩
                rw [← hv] at y1 y2 hr TK
                obtain ⟨tl, htl⟩ : ∃ tl, tl = textL ((out).take k) := ⟨_, rfl⟩
                rw [← htl] at TK TL ⊢
                obtain ⟨s1, hs1⟩ : ∃ s, s = strU tl := ⟨_, rfl⟩
                obtain ⟨s2, hs2⟩ : ∃ s, s = strU (Lib.itoa v) := ⟨_, rfl⟩
                obtain ⟨s3, hs3⟩ : ∃ s, s = strU (tl ++ Lib.itoa v) := ⟨_, rfl⟩
                obtain ⟨s4, hs4⟩ : ∃ s, s = strU (textL ((out).take (k + 1))) := ⟨_, rfl⟩
                have z0 := Lib.itoa_length_le v hr.1 hr.2
                have z1 : s1.size ≤ 3000 := by rw [hs1, strU_size]; omega
                have z2 : s2.size ≤ 21 := by rw [hs2, strU_size]; omega
                have z3 : s3.size ≤ 3100 := by rw [hs3, strU_size, List.length_append]; omega
                have ad1 := add_str (a := s1) (b := s2) (c := s3) (by rw [hs1, hs2, hs3]; exact strU_app _ _) (by omega) (by omega)
                have ad2 := add_str (a := s3) (b := { data := #[10] }) (c := s4) (by rw [hs3, hs4, TK.out, ← strU_nl]; exact strU_app _ _) (by omega) (by decide)
                rw [← hs1]
                have HS2 := Lib.hid hs2; have HS4 := Lib.hid hs4; have HR := Lib.hid hr
                clear hc hv htl hs1 hs2 hs3 hs4 z0 z1 z2 z3 TL TK hr
                go_wp2
                go_quiet (fail)
                go_wp2_with fail
                refine (digits_any v _ HR.out.1 HR.out.2).mono ?_; rintro e wd ⟨rfl, hbd⟩
                rw [← HS2.out]
                have BD := Lib.hid (bt (bt hbk.out (below_drewN _ _)) hbd)
                clear hbd
                go_wp2
                go_roundw
                case rel => exact ⟨k + 1, by rw [HS4.out], by go_num, hkm, BD⟩
                case measure => simp [intOf]; omega
              · have hkm' : ¬ (k : Int) < (m : Int) := by omega
                have TKE : (out).take k = (out) := List.take_of_length_le (by have := LEN.out; omega)
                have P3 := Lib.hid (P2.out.calm hbk.out)
                rw [TKE]
                obtain ⟨tx, htx⟩ : ∃ tx, tx = strU (textL (out)) := ⟨_, rfl⟩
                have HTX := Lib.hid htx
                rw [← htx]
                clear TKE hkm htx
                go_wp2_with fail
                refine (text_any P3.out.tp HLO.out P3.out.rng (HT.out _ P3.out.below)).mono ?_
                rintro e wx ⟨rfl, hbx⟩
                rw [← HTX.out]
                have P4 := Lib.hid (P3.out.calm hbx)
                clear hbx
                go_wp2
                go_roundw
                case rel => exact ⟨i + 1, rd', m, _, _, _, out, rfl, rfl, by go_num, hil, by omega, P4⟩
                case measure => simp [intOf]; omega
      ·
        have ho0' : (o == 0) = false := beq_eq_false_iff_ne.2 ho0
        by_cases ho1 : o = 1
        · subst ho1
          go_wp2_with fail
          refine (print_any z SB.out.tp (by have := SB.out.op.1; omega)).mono ?_
          rintro e w3 ⟨ov3, rfl, t3, f3, n3⟩
          have X3 : w3.cell? ⟨wr.heap.size, 3, none⟩ = some (.int .i64 z) := by
            have hb3 : w3.heap[wr.heap.size]? = (wr.alloc (.cells #[.int .i64 1, .int .i64 r, .int .i64 p, .int .i64 z] 30)).heap[wr.heap.size]? := f3.out.block _ (by simp) (fun hmine => by
              rcases hmine with q | q
              · have := s.out.tp.obj.lt; omega
              · have := (s.out.tp.rout.lt _ q).2; omega)
            rw [World.cell?_of_block (a := ⟨wr.heap.size, 3, none⟩) hb3]
            have hal := (MapKept.heap_alloc wr (Obj.cells #[.int .i64 1, .int .i64 r, .int .i64 p, .int .i64 z] 30)).1
            unfold World.cell?; rw [hal]; rfl
          have O3 := Lib.hid (SB.out.op.frm f3.out (fun k h => h) n3.out)
          have BW3 := Lib.hid (SB.out.below.trans (f3.out.below (mine_ge SB.out.tp) SB.out.below.size))
          have RNG3 := Lib.hid (rng_snoc SB.out.rng HZ.out)
          have NONE : Hid (A' = none → m = 0 ∧ cc = 0) := Lib.hid (fun e => by have h1 := O3.out.2.2.1 e; have h2 := O3.out.2.1; omega)
          have LOUT : Hid ((its out).length = m * 1) := Lib.hid (by rw [its_len, O3.out.1]; omega)
          have NEWS := Lib.hid O3.out.news
          have hm9 : m ≤ 60 := by omega
          have T3 := t3
          clear SB f3 n3 x0 x1 x2 x3 s t3
          have BD := below_drew' w3
          have LB : Hid ((w3.drew.alloc (.cells #[] 2)).ownsRow w3.heap.size 2 1 (.slice (some ⟨w3.heap.size, 0, none⟩) 0 0) 0 []) := Lib.hid (World.ownsRow_lit (base := w3.heap.size) (e := 2) (size := 1) w3.drew #[] 0 (Nat.le_refl _) (by unfold maxLen; omega) rfl)
          have LA := Lib.hid (LB.out.alloc (.cells #[.int .i64 z] 2))
          have LC : Hid (((w3.drew.alloc (.cells #[.int .i64 z] 2)).alloc (.cells #[] 2)).ownsRow w3.heap.size 2 1 (.slice (some ⟨w3.heap.size + 1, 0, none⟩) 0 0) 0 []) := Lib.hid (by
            have := World.ownsRow_lit (base := w3.heap.size) (e := 2) (size := 1) (w3.drew.alloc (.cells #[.int .i64 z] 2)) #[] 0 (by simp) (by unfold maxLen; omega) rfl
            rw [show (w3.drew.alloc (.cells #[.int .i64 z] 2)).heap.size = w3.heap.size + 1 from by simp] at this
            exact this)
          have BB : Hid (Below w3.heap.size w3 (w3.drew.alloc (.cells #[] 2))) := Lib.hid (bt BD (below_alloc _ _))
          have BA := Lib.hid (bt BB.out (below_alloc _ (.cells #[.int .i64 z] 2)))
          have BC : Hid (Below w3.heap.size w3 ((w3.drew.alloc (.cells #[.int .i64 z] 2)).alloc (.cells #[] 2))) := Lib.hid (bt (bt BD (below_alloc _ _)) (below_alloc _ _))
          have hXlt : wr.heap.size < w3.heap.size := World.block_lt_of_cell? w3 _ X3
          have CZA : Hid (((w3.drew.alloc (.cells #[] 2)).alloc (.cells #[.int .i64 z] 2)).heap[w3.heap.size + 1]? = some (.cells #[.int .i64 z] 2 (0, 0))) := Lib.hid (by
            have := (MapKept.heap_alloc (w3.drew.alloc (.cells #[] 2)) (Obj.cells #[.int .i64 z] 2)).1
            rw [show (w3.drew.alloc (.cells #[] 2)).heap.size = w3.heap.size + 1 from by simp] at this
            exact this)
          have CZC : Hid (((w3.drew.alloc (.cells #[.int .i64 z] 2)).alloc (.cells #[] 2)).heap[w3.heap.size]? = some (.cells #[.int .i64 z] 2 (0, 0))) := Lib.hid (by
            rw [(below_alloc (w3.drew.alloc (.cells #[.int .i64 z] 2)) (.cells #[] 2)).block w3.heap.size (by simp)]
            exact (MapKept.heap_alloc w3.drew (Obj.cells #[.int .i64 z] 2)).1)
          clear BD
          go_wp2_with fail
          go_region_held3 (fun w' => w'.cell? ⟨wr.heap.size, 3, none⟩ = some (.int .i64 z)) (go_keep)
            (first
              | (have zz := OW4.out
                 refine step_append_sl (by rfl) (.tmp 159) (.tmp 162) _ (by rfl) w3.heap.size 2 i0 (.int .i64 0) 1 8 Tryd.underlying22 hi0 hz0 hz1 hz2 rfl (by decide) v4 (0 + m) ([] ++ its out) (by rfl) (OW4.out.alloc _) (some ⟨w4.heap.size, 0, none⟩) 1 1 [.int .i64 z] (by rfl) (by rfl) (fun e => by cases e) (fun ad ea => by injection ea with ea; subst ea; exact cell_one_new w4 (.int .i64 z) 2) (by simp [Value.oneCell']) (by unfold maxLen; omega) (by omega) (Nat.le_trans B4.out.size (by simp)) ?_
                 intro v5 w5 ow5 gr5 at5
                 have B5 : Hid (Below w3.heap.size w3 w5) := Lib.hid ((bt B4.out (below_alloc w4 (.cells #[.int .i64 z] 2))).grown gr5 (Nat.le_trans B4.out.size (by simp)) (fun k hk => (OW4.out.lt k hk).1))
                 have x5 : w5.cell? ⟨wr.heap.size, 3, none⟩ = some (.int .i64 z) := by rw [B5.out.cell (p := ⟨wr.heap.size, 3, none⟩) hXlt]; exact X3)
              | (have zz := OW4.out
                 refine step_append_sl (by rfl) (.tmp 159) (.tmp 162) _ (by rfl) w3.heap.size 2 i0 (.int .i64 0) 1 8 Tryd.underlying22 hi0 hz0 hz1 hz2 rfl (by decide) v4 (0 + m) ([] ++ its out) (by rfl) OW4.out (some ⟨w3.heap.size + 1, 0, none⟩) 1 1 [.int .i64 z] (by rfl) (by rfl) (fun e => by cases e) (fun ad ea => by injection ea with ea; subst ea; exact NZA.out) (by simp [Value.oneCell']) (by unfold maxLen; omega) (by omega) B4.out.size ?_
                 intro v5 w5 ow5 gr5 at5
                 have B5 : Hid (Below w3.heap.size w3 w5) := Lib.hid (B4.out.grown gr5 B4.out.size (fun k hk => (OW4.out.lt k hk).1))
                 have x5 : w5.cell? ⟨wr.heap.size, 3, none⟩ = some (.int .i64 z) := by rw [B5.out.cell (p := ⟨wr.heap.size, 3, none⟩) hXlt]; exact X3)
              | (have zz := OW4.out
                 refine step_append_sl (by rfl) (.tmp 159) (.tmp 162) _ (by rfl) w3.heap.size 2 i0 (.int .i64 0) 1 8 Tryd.underlying22 hi0 hz0 hz1 hz2 rfl (by decide) v4 (0 + m) ([] ++ its out) (by rfl) OW4.out (some ⟨w3.heap.size, 0, none⟩) 1 1 [.int .i64 z] (by rfl) (by rfl) (fun e => by cases e) (fun ad ea => by injection ea with ea; subst ea; exact NZC.out) (by simp [Value.oneCell']) (by unfold maxLen; omega) (by omega) B4.out.size ?_
                 intro v5 w5 ow5 gr5 at5
                 have B5 : Hid (Below w3.heap.size w3 w5) := Lib.hid (B4.out.grown gr5 B4.out.size (fun k hk => (OW4.out.lt k hk).1))
                 have x5 : w5.cell? ⟨wr.heap.size, 3, none⟩ = some (.int .i64 z) := by rw [B5.out.cell (p := ⟨wr.heap.size, 3, none⟩) hXlt]; exact X3)
              | (refine step_append_sl (by rfl) (.tmp 157) (.tmp 158) _ (by rfl) w3.heap.size 2 i0 (.int .i64 0) 1 8 Tryd.underlying22 hi0 hz0 hz1 hz2 rfl (by decide) (.slice (some ⟨w3.heap.size, 0, none⟩) 0 0) 0 [] (by rfl) LB.out A' m cc (its out) (by rfl) LOUT.out NONE.out (NEWS.out _ BB.out) (its_one _) (by unfold maxLen; omega) (by omega) BB.out.size ?_
                 intro v4 w4 ow4 gr4 at4
                 have OW4 := Lib.hid ow4
                 have B4 : Hid (Below w3.heap.size w3 w4) := Lib.hid (BB.out.grown gr4 BB.out.size (fun k hk => (LB.out.lt k hk).1))
                 skip
                 have x4 : w4.cell? ⟨wr.heap.size, 3, none⟩ = some (.int .i64 z) := by rw [B4.out.cell (p := ⟨wr.heap.size, 3, none⟩) hXlt]; exact X3)
              | (refine step_append_sl (by rfl) (.tmp 157) (.tmp 158) _ (by rfl) w3.heap.size 2 i0 (.int .i64 0) 1 8 Tryd.underlying22 hi0 hz0 hz1 hz2 rfl (by decide) (.slice (some ⟨w3.heap.size, 0, none⟩) 0 0) 0 [] (by rfl) LA.out A' m cc (its out) (by rfl) LOUT.out NONE.out (NEWS.out _ BA.out) (its_one _) (by unfold maxLen; omega) (by omega) BA.out.size ?_
                 intro v4 w4 ow4 gr4 at4
                 have OW4 := Lib.hid ow4
                 have B4 : Hid (Below w3.heap.size w3 w4) := Lib.hid (BA.out.grown gr4 BA.out.size (fun k hk => (LA.out.lt k hk).1))
                 have NZA := Lib.hid (nz_keep CZA.out gr4 (by simp [Value.ownBlock]))
                 have x4 : w4.cell? ⟨wr.heap.size, 3, none⟩ = some (.int .i64 z) := by rw [B4.out.cell (p := ⟨wr.heap.size, 3, none⟩) hXlt]; exact X3)
              | (refine step_append_sl (by rfl) (.tmp 157) (.tmp 158) _ (by rfl) w3.heap.size 2 i0 (.int .i64 0) 1 8 Tryd.underlying22 hi0 hz0 hz1 hz2 rfl (by decide) (.slice (some ⟨w3.heap.size + 1, 0, none⟩) 0 0) 0 [] (by rfl) LC.out A' m cc (its out) (by rfl) LOUT.out NONE.out (NEWS.out _ BC.out) (its_one _) (by unfold maxLen; omega) (by omega) BC.out.size ?_
                 intro v4 w4 ow4 gr4 at4
                 have OW4 := Lib.hid ow4
                 have B4 : Hid (Below w3.heap.size w3 w4) := Lib.hid (BC.out.grown gr4 BC.out.size (fun k hk => (LC.out.lt k hk).1))
                 have NZC := Lib.hid (nz_keep CZC.out gr4 (by simp [Value.ownBlock]))
                 have x4 : w4.cell? ⟨wr.heap.size, 3, none⟩ = some (.int .i64 z) := by rw [B4.out.cell (p := ⟨wr.heap.size, 3, none⟩) hXlt]; exact X3))
          all_goals (
            obtain ⟨M, hM⟩ : ∃ M, M = m + 1 := ⟨_, rfl⟩
            have own5 : w5.ownsRow w3.heap.size 2 1 v5 M (its (out ++ [z])) := by rw [hM]; simpa [its] using ow5
            obtain ⟨A5, c5, rfl⟩ := iform own5
            have P0 : Hid (PS w5 w g iv ov3 A5 M c5 inp (out ++ [z]) rd) := Lib.hid ⟨T3.out.below B5.out, Op_.of_own own5 T3.out.obj.lt (fun k h => (T3.out.rin.lt k h).2) (fun k h => (T3.out.rout.lt k h).2), bt BW3.out B5.out, RNG3.out⟩
            have hM6 : M ≤ 60 := by omega
            have hMi : M ≤ i + 1 := by omega
            clear own5 ow5 gr5 at5 gr4 at4 ow4 T3 OW4 B5 B4 x4 x5 X3 hM hXlt LB LA LC BB BA BC CZA CZC O3 BW3 RNG3 NONE LOUT NEWS
            obtain ⟨OUT, hOUT⟩ : ∃ l, l = out ++ [z] := ⟨_, rfl⟩
            rw [← hOUT] at P0
            clear hOUT
            as_aux_lemma =>
              have LEN : Hid ((OUT).length = M) := Lib.hid P0.out.op.1
              have hm6 : M ≤ 60 := hM6
              have hlo : (OUT).length ≤ 100000 := by have := LEN.out; omega
              have HLO := Lib.hid hlo
              clear hlo
              go_wp2_with fail
              refine (marks_any P0.out.tp).mono ?_; rintro e wm ⟨rfl, hbm⟩
              rw [LEN.out]
              have P1 := Lib.hid (P0.out.calm hbm)
              clear P0 hbm
              go_wp2_with fail
              refine (out_any P1.out.tp HLO.out).mono ?_; rintro e wo ⟨Ao, co, rfl, owo, hbo⟩
              rw [LEN.out] at owo ⊢
              have P2 := Lib.hid (P1.out.calm hbo.out)
              clear P1 hbo
              go_wp2
              go_loopw [18, 19] (fun sv kx wr => ∃ (k : Nat), sv = .string (strU (textL ((OUT).take k))) ∧ kx = .int .i64 k ∧ k ≤ M ∧ Hid (Below wo.heap.size wo wr)) (fun _ kx _ => M - (intOf kx).toNat)
              case atStart => exact ⟨0, rfl, rfl, by omega, Lib.hid (Below.refl _ _)⟩
              case round =>
                obtain ⟨k, rfl, rfl, hk, hbk⟩ := hrel
                by_cases hkm : k < M
                · have hkm' : (k : Int) < (M : Int) := by omega
                  have hk0 : (0 : Int) ≤ (k : Int) := Int.natCast_nonneg _
                  obtain ⟨hh, ea, hc⟩ := P2.out.cell hkm
                  have hform := Go.Joins.ownsRow_form owo.out (by omega)
                  obtain ⟨go, cgo, eo⟩ := hform
                  injection eo with eo1 eo2 eo3
                  subst eo1 eo3
                  have y1 : wr.cell? ⟨go, k, none⟩ = some (.int .i64 ((OUT).getD k 0)) := ((P2.out.own owo.out hbk.out).cellAt k (by omega)).trans (its_at _ k (by have := LEN.out; omega))
                  have y2 := hc wr hbk.out
                  cases ea
                  have hr := P2.out.rng k
                  have TK : Hid (textL ((OUT).take (k + 1)) = textL ((OUT).take k) ++ Lib.itoa ((OUT).getD k 0) ++ [10]) := Lib.hid (by
                    rw [List.take_add_one, ← textL_snoc]; simp [List.getD, show k < (OUT).length by have := LEN.out; omega])
                  have TL := textL_len _ (take_rng P2.out.rng k)
                  rw [List.length_take] at TL
                  obtain ⟨v, hv⟩ : ∃ v, v = (OUT).getD k 0 := ⟨_, rfl⟩
                  rw [← hv] at y1 y2 hr TK
                  obtain ⟨tl, htl⟩ : ∃ tl, tl = textL ((OUT).take k) := ⟨_, rfl⟩
                  rw [← htl] at TK TL ⊢
                  obtain ⟨s1, hs1⟩ : ∃ s, s = strU tl := ⟨_, rfl⟩
                  obtain ⟨s2, hs2⟩ : ∃ s, s = strU (Lib.itoa v) := ⟨_, rfl⟩
                  obtain ⟨s3, hs3⟩ : ∃ s, s = strU (tl ++ Lib.itoa v) := ⟨_, rfl⟩
                  obtain ⟨s4, hs4⟩ : ∃ s, s = strU (textL ((OUT).take (k + 1))) := ⟨_, rfl⟩
                  have z0 := Lib.itoa_length_le v hr.1 hr.2
                  have z1 : s1.size ≤ 3000 := by rw [hs1, strU_size]; omega
                  have z2 : s2.size ≤ 21 := by rw [hs2, strU_size]; omega
                  have z3 : s3.size ≤ 3100 := by rw [hs3, strU_size, List.length_append]; omega
                  have ad1 := add_str (a := s1) (b := s2) (c := s3) (by rw [hs1, hs2, hs3]; exact strU_app _ _) (by omega) (by omega)
                  have ad2 := add_str (a := s3) (b := { data := #[10] }) (c := s4) (by rw [hs3, hs4, TK.out, ← strU_nl]; exact strU_app _ _) (by omega) (by decide)
                  rw [← hs1]
                  have HS2 := Lib.hid hs2; have HS4 := Lib.hid hs4; have HR := Lib.hid hr
                  clear hc hv htl hs1 hs2 hs3 hs4 z0 z1 z2 z3 TL TK hr
                  go_wp2
                  go_quiet (fail)
                  go_wp2_with fail
                  refine (digits_any v _ HR.out.1 HR.out.2).mono ?_; rintro e wd ⟨rfl, hbd⟩
                  rw [← HS2.out]
                  have BD := Lib.hid (bt (bt hbk.out (below_drewN _ _)) hbd)
                  clear hbd
                  go_wp2
                  go_roundw
                  case rel => exact ⟨k + 1, by rw [HS4.out], by go_num, hkm, BD⟩
                  case measure => simp [intOf]; omega
                · have hkm' : ¬ (k : Int) < (M : Int) := by omega
                  have TKE : (OUT).take k = (OUT) := List.take_of_length_le (by have := LEN.out; omega)
                  have P3 := Lib.hid (P2.out.calm hbk.out)
                  rw [TKE]
                  obtain ⟨tx, htx⟩ : ∃ tx, tx = strU (textL (OUT)) := ⟨_, rfl⟩
                  have HTX := Lib.hid htx
                  rw [← htx]
                  clear TKE hkm htx
                  go_wp2_with fail
                  refine (text_any P3.out.tp HLO.out P3.out.rng (HT.out _ P3.out.below)).mono ?_
                  rintro e wx ⟨rfl, hbx⟩
                  rw [← HTX.out]
                  have P4 := Lib.hid (P3.out.calm hbx)
                  clear hbx
                  go_wp2
                  go_roundw
                  case rel => exact ⟨i + 1, rd, M, _, _, _, OUT, rfl, rfl, by go_num, hil, by omega, P4⟩
                  case measure => simp [intOf]; omega)
        · have ho1' : (o == 1) = false := beq_eq_false_iff_ne.2 ho1
          have BX : Hid (∀ W, Below wr.heap.size (wr.alloc (.cells #[.int .i64 o, .int .i64 r, .int .i64 p, .int .i64 z] 30)) W ∨ Frm (wr.alloc (.cells #[.int .i64 o, .int .i64 r, .int .i64 p, .int .i64 z] 30)) W (· = g) ∨ Below (wr.alloc (.cells #[.int .i64 o, .int .i64 r, .int .i64 p, .int .i64 z] 30)).heap.size (wr.alloc (.cells #[.int .i64 o, .int .i64 r, .int .i64 p, .int .i64 z] 30)) W → True) := Lib.hid (fun _ _ => trivial)
          by_cases hmay : 0 ≤ r ∧ r ≤ (rd : Int) ∧ 0 ≤ p ∧ p ≤ (m : Int)
          · obtain ⟨R, rfl⟩ : ∃ R : Nat, r = R := ⟨r.toNat, by omega⟩
            obtain ⟨Q, rfl⟩ : ∃ Q : Nat, p = Q := ⟨p.toNat, by omega⟩
            have q1 := decide_eq_true (show (0 : Int) ≤ (R : Int) by omega)
            have q2 := decide_eq_true (show (R : Int) ≤ (rd : Int) by omega)
            have q2' := decide_eq_true (show R ≤ rd by omega)
            have q3 := decide_eq_true (show (0 : Int) ≤ (Q : Int) by omega)
            have q4 := decide_eq_true (show (Q : Int) ≤ (m : Int) by omega)
            have q4' := decide_eq_true (show Q ≤ m by omega)
            have hQm : Q ≤ m := by omega
            have hRr : R ≤ rd := by omega
            have hcap := SB.out.op.2.1
            clear hmay
            go_wp2_with fail
            refine (back_any (r := R) (p := Q) SB.out.tp hRr (by rw [SB.out.op.1]; exact hQm) (by have := SB.out.op.1; omega) (by have := LI.out; omega)).mono ?_
            rintro e w3 ⟨ov3, rfl, t3, f3, n3⟩
            have hb3 : w3.heap[wr.heap.size]? = some (.cells #[.int .i64 o, .int .i64 R, .int .i64 Q, .int .i64 z] 30 (0, 0)) := (f3.out.block _ (by simp) (fun h => by have := s.out.tp.obj.lt; omega)).trans (MapKept.heap_alloc wr (Obj.cells #[.int .i64 o, .int .i64 R, .int .i64 Q, .int .i64 z] 30)).1
            have X1 : w3.cell? ⟨wr.heap.size, 1, none⟩ = some (.int .i64 R) := by unfold World.cell?; rw [hb3]; rfl
            have X2 : w3.cell? ⟨wr.heap.size, 2, none⟩ = some (.int .i64 Q) := by unfold World.cell?; rw [hb3]; rfl
            have hAn : A' = none → Q = 0 := fun e => by have h1 := SB.out.op.2.2.1 e; have h2 := SB.out.op.2.1; omega
            have P00 := Lib.hid (SB.out.back t3.out f3.out n3.out hQm hAn)
            have hAf := SB.out.op.2.2.2.2
            have hA0 := SB.out.op.2.2.1
            clear SB f3 n3 t3 x0 x1 x2 x3 s hb3
            rcases A' with _ | a'
            · obtain rfl : cc = 0 := hA0 rfl
              obtain rfl : Q = 0 := hAn rfl
              obtain rfl : m = 0 := by omega
              clear hAf hA0 hAn
              go_wp2
              go_quiet (fail)
              have P0 := Lib.hid (P00.out.calm (below_drewN _ nq))
              clear P00 X1 X2
              obtain ⟨OUT, hOUT⟩ : ∃ l, l = out.take 0 := ⟨_, rfl⟩
              rw [← hOUT] at P0
              clear hOUT
              as_aux_lemma =>
                have LEN : Hid ((OUT).length = 0) := Lib.hid P0.out.op.1
                have hm6 : 0 ≤ 60 := by omega
                have hlo : (OUT).length ≤ 100000 := by have := LEN.out; omega
                have HLO := Lib.hid hlo
                clear hlo
                go_wp2_with fail
                refine (marks_any P0.out.tp).mono ?_; rintro e wm ⟨rfl, hbm⟩
                rw [LEN.out]
                have P1 := Lib.hid (P0.out.calm hbm)
                clear P0 hbm
                go_wp2_with fail
                refine (out_any P1.out.tp HLO.out).mono ?_; rintro e wo ⟨Ao, co, rfl, owo, hbo⟩
                rw [LEN.out] at owo ⊢
                have P2 := Lib.hid (P1.out.calm hbo.out)
                clear P1 hbo
                go_wp2
                go_loopw [18, 19] (fun sv kx wr => ∃ (k : Nat), sv = .string (strU (textL ((OUT).take k))) ∧ kx = .int .i64 k ∧ k ≤ 0 ∧ Hid (Below wo.heap.size wo wr)) (fun _ kx _ => 0 - (intOf kx).toNat)
                case atStart => exact ⟨0, rfl, rfl, by omega, Lib.hid (Below.refl _ _)⟩
                case round =>
                  obtain ⟨k, rfl, rfl, hk, hbk⟩ := hrel
                  by_cases hkm : k < 0
                  · exact absurd hkm (by omega)
                  · have hkm' : ¬ (k : Int) < (0 : Int) := by omega
                    have TKE : (OUT).take k = (OUT) := List.take_of_length_le (by have := LEN.out; omega)
                    have P3 := Lib.hid (P2.out.calm hbk.out)
                    rw [TKE]
                    obtain ⟨tx, htx⟩ : ∃ tx, tx = strU (textL (OUT)) := ⟨_, rfl⟩
                    have HTX := Lib.hid htx
                    rw [← htx]
                    clear TKE hkm htx
                    go_wp2_with fail
                    refine (text_any P3.out.tp HLO.out P3.out.rng (HT.out _ P3.out.below)).mono ?_
                    rintro e wx ⟨rfl, hbx⟩
                    rw [← HTX.out]
                    have P4 := Lib.hid (P3.out.calm hbx)
                    clear hbx
                    go_wp2
                    go_roundw
                    case rel => exact ⟨i + 1, R, 0, _, _, _, OUT, rfl, rfl, by go_num, hil, by omega, P4⟩
                    case measure => simp [intOf]; omega
            · obtain ⟨ha, rfl⟩ := hAf a' rfl
              have hQc : Q ≤ cc := by omega
              clear hAf hA0 hAn
              go_wp2
              go_quiet (fail)
              have P0 := Lib.hid (P00.out.calm (below_drewN _ nq))
              clear P00 X1 X2
              obtain ⟨OUT, hOUT⟩ : ∃ l, l = out.take Q := ⟨_, rfl⟩
              rw [← hOUT] at P0
              clear hOUT
              as_aux_lemma =>
                have LEN : Hid ((OUT).length = Q) := Lib.hid P0.out.op.1
                have hm6 : Q ≤ 60 := by omega
                have hlo : (OUT).length ≤ 100000 := by have := LEN.out; omega
                have HLO := Lib.hid hlo
                clear hlo
                go_wp2_with fail
                refine (marks_any P0.out.tp).mono ?_; rintro e wm ⟨rfl, hbm⟩
                rw [LEN.out]
                have P1 := Lib.hid (P0.out.calm hbm)
                clear P0 hbm
                go_wp2_with fail
                refine (out_any P1.out.tp HLO.out).mono ?_; rintro e wo ⟨Ao, co, rfl, owo, hbo⟩
                rw [LEN.out] at owo ⊢
                have P2 := Lib.hid (P1.out.calm hbo.out)
                clear P1 hbo
                go_wp2
                go_loopw [18, 19] (fun sv kx wr => ∃ (k : Nat), sv = .string (strU (textL ((OUT).take k))) ∧ kx = .int .i64 k ∧ k ≤ Q ∧ Hid (Below wo.heap.size wo wr)) (fun _ kx _ => Q - (intOf kx).toNat)
                case atStart => exact ⟨0, rfl, rfl, by omega, Lib.hid (Below.refl _ _)⟩
                case round =>
                  obtain ⟨k, rfl, rfl, hk, hbk⟩ := hrel
                  by_cases hkm : k < Q
                  · have hkm' : (k : Int) < (Q : Int) := by omega
                    have hk0 : (0 : Int) ≤ (k : Int) := Int.natCast_nonneg _
                    obtain ⟨hh, ea, hc⟩ := P2.out.cell hkm
                    have hform := Go.Joins.ownsRow_form owo.out (by omega)
                    obtain ⟨go, cgo, eo⟩ := hform
                    injection eo with eo1 eo2 eo3
                    subst eo1 eo3
                    have y1 : wr.cell? ⟨go, k, none⟩ = some (.int .i64 ((OUT).getD k 0)) := ((P2.out.own owo.out hbk.out).cellAt k (by omega)).trans (its_at _ k (by have := LEN.out; omega))
                    have y2 := hc wr hbk.out
                    cases ea
                    have hr := P2.out.rng k
                    have TK : Hid (textL ((OUT).take (k + 1)) = textL ((OUT).take k) ++ Lib.itoa ((OUT).getD k 0) ++ [10]) := Lib.hid (by
                      rw [List.take_add_one, ← textL_snoc]; simp [List.getD, show k < (OUT).length by have := LEN.out; omega])
                    have TL := textL_len _ (take_rng P2.out.rng k)
                    rw [List.length_take] at TL
                    obtain ⟨v, hv⟩ : ∃ v, v = (OUT).getD k 0 := ⟨_, rfl⟩
                    rw [← hv] at y1 y2 hr TK
                    obtain ⟨tl, htl⟩ : ∃ tl, tl = textL ((OUT).take k) := ⟨_, rfl⟩
                    rw [← htl] at TK TL ⊢
                    obtain ⟨s1, hs1⟩ : ∃ s, s = strU tl := ⟨_, rfl⟩
                    obtain ⟨s2, hs2⟩ : ∃ s, s = strU (Lib.itoa v) := ⟨_, rfl⟩
                    obtain ⟨s3, hs3⟩ : ∃ s, s = strU (tl ++ Lib.itoa v) := ⟨_, rfl⟩
                    obtain ⟨s4, hs4⟩ : ∃ s, s = strU (textL ((OUT).take (k + 1))) := ⟨_, rfl⟩
                    have z0 := Lib.itoa_length_le v hr.1 hr.2
                    have z1 : s1.size ≤ 3000 := by rw [hs1, strU_size]; omega
                    have z2 : s2.size ≤ 21 := by rw [hs2, strU_size]; omega
                    have z3 : s3.size ≤ 3100 := by rw [hs3, strU_size, List.length_append]; omega
                    have ad1 := add_str (a := s1) (b := s2) (c := s3) (by rw [hs1, hs2, hs3]; exact strU_app _ _) (by omega) (by omega)
                    have ad2 := add_str (a := s3) (b := { data := #[10] }) (c := s4) (by rw [hs3, hs4, TK.out, ← strU_nl]; exact strU_app _ _) (by omega) (by decide)
                    rw [← hs1]
                    have HS2 := Lib.hid hs2; have HS4 := Lib.hid hs4; have HR := Lib.hid hr
                    clear hc hv htl hs1 hs2 hs3 hs4 z0 z1 z2 z3 TL TK hr
                    go_wp2
                    go_quiet (fail)
                    go_wp2_with fail
                    refine (digits_any v _ HR.out.1 HR.out.2).mono ?_; rintro e wd ⟨rfl, hbd⟩
                    rw [← HS2.out]
                    have BD := Lib.hid (bt (bt hbk.out (below_drewN _ _)) hbd)
                    clear hbd
                    go_wp2
                    go_roundw
                    case rel => exact ⟨k + 1, by rw [HS4.out], by go_num, hkm, BD⟩
                    case measure => simp [intOf]; omega
                  · have hkm' : ¬ (k : Int) < (Q : Int) := by omega
                    have TKE : (OUT).take k = (OUT) := List.take_of_length_le (by have := LEN.out; omega)
                    have P3 := Lib.hid (P2.out.calm hbk.out)
                    rw [TKE]
                    obtain ⟨tx, htx⟩ : ∃ tx, tx = strU (textL (OUT)) := ⟨_, rfl⟩
                    have HTX := Lib.hid htx
                    rw [← htx]
                    clear TKE hkm htx
                    go_wp2_with fail
                    refine (text_any P3.out.tp HLO.out P3.out.rng (HT.out _ P3.out.below)).mono ?_
                    rintro e wx ⟨rfl, hbx⟩
                    rw [← HTX.out]
                    have P4 := Lib.hid (P3.out.calm hbx)
                    clear hbx
                    go_wp2
                    go_roundw
                    case rel => exact ⟨i + 1, R, Q, _, _, _, OUT, rfl, rfl, by go_num, hil, by omega, P4⟩
                    case measure => simp [intOf]; omega
          · have hbadm : ¬ (0 ≤ r ∧ r ≤ (rd : Int) ∧ 0 ≤ p ∧ p ≤ ((out.length : Nat) : Int)) := by rw [SB.out.op.1]; exact hmay
            have BBAD : Hid (Calls Tryd.prog 9 #[.pointer (some ⟨g, 0, none⟩), .int .i64 r, .int .i64 p] (wr.alloc (.cells #[.int .i64 o, .int .i64 r, .int .i64 p, .int .i64 z] 30)) fun e w' => e = .returned (.int .i64 1) ∧ Below (wr.alloc (.cells #[.int .i64 o, .int .i64 r, .int .i64 p, .int .i64 z] 30)).heap.size (wr.alloc (.cells #[.int .i64 o, .int .i64 r, .int .i64 p, .int .i64 z] 30)) w') := Lib.hid (back_bad SB.out.tp hbadm)
            clear hbadm s
            by_cases k1 : 0 ≤ r
            · have q1 := decide_eq_true k1
              by_cases k2 : r ≤ (rd : Int)
              · have q2 := decide_eq_true k2
                by_cases k3 : 0 ≤ p
                · have q3 := decide_eq_true k3
                  have q4 := decide_eq_false (show ¬ p ≤ (m : Int) by omega)
                  clear k1 k2 k3 hmay
                  go_wp2_with fail
                  refine BBAD.out.mono ?_; rintro e w3 ⟨rfl, hb3⟩
                  have P0 := Lib.hid (SB.out.calm hb3)
                  clear SB hb3 x0 x1 x2 x3 BBAD
                  as_aux_lemma =>
                    have LEN : Hid ((out).length = m) := Lib.hid P0.out.op.1
                    have hm6 : m ≤ 60 := by omega
                    have hlo : (out).length ≤ 100000 := by have := LEN.out; omega
                    have HLO := Lib.hid hlo
                    clear hlo
                    go_wp2_with fail
                    refine (marks_any P0.out.tp).mono ?_; rintro e wm ⟨rfl, hbm⟩
                    rw [LEN.out]
                    have P1 := Lib.hid (P0.out.calm hbm)
                    clear P0 hbm
                    go_wp2_with fail
                    refine (out_any P1.out.tp HLO.out).mono ?_; rintro e wo ⟨Ao, co, rfl, owo, hbo⟩
                    rw [LEN.out] at owo ⊢
                    have P2 := Lib.hid (P1.out.calm hbo.out)
                    clear P1 hbo
                    go_wp2
                    go_loopw [18, 19] (fun sv kx wr => ∃ (k : Nat), sv = .string (strU (textL ((out).take k))) ∧ kx = .int .i64 k ∧ k ≤ m ∧ Hid (Below wo.heap.size wo wr)) (fun _ kx _ => m - (intOf kx).toNat)
                    case atStart => exact ⟨0, rfl, rfl, by omega, Lib.hid (Below.refl _ _)⟩
                    case round =>
                      obtain ⟨k, rfl, rfl, hk, hbk⟩ := hrel
                      by_cases hkm : k < m
                      · have hkm' : (k : Int) < (m : Int) := by omega
                        have hk0 : (0 : Int) ≤ (k : Int) := Int.natCast_nonneg _
                        obtain ⟨hh, ea, hc⟩ := P2.out.cell hkm
                        have hform := Go.Joins.ownsRow_form owo.out (by omega)
                        obtain ⟨go, cgo, eo⟩ := hform
                        injection eo with eo1 eo2 eo3
                        subst eo1 eo3
                        have y1 : wr.cell? ⟨go, k, none⟩ = some (.int .i64 ((out).getD k 0)) := ((P2.out.own owo.out hbk.out).cellAt k (by omega)).trans (its_at _ k (by have := LEN.out; omega))
                        have y2 := hc wr hbk.out
                        cases ea
                        have hr := P2.out.rng k
                        have TK : Hid (textL ((out).take (k + 1)) = textL ((out).take k) ++ Lib.itoa ((out).getD k 0) ++ [10]) := Lib.hid (by
                          rw [List.take_add_one, ← textL_snoc]; simp [List.getD, show k < (out).length by have := LEN.out; omega])
                        have TL := textL_len _ (take_rng P2.out.rng k)
                        rw [List.length_take] at TL
                        obtain ⟨v, hv⟩ : ∃ v, v = (out).getD k 0 := ⟨_, rfl⟩
                        rw [← hv] at y1 y2 hr TK
                        obtain ⟨tl, htl⟩ : ∃ tl, tl = textL ((out).take k) := ⟨_, rfl⟩
                        rw [← htl] at TK TL ⊢
                        obtain ⟨s1, hs1⟩ : ∃ s, s = strU tl := ⟨_, rfl⟩
                        obtain ⟨s2, hs2⟩ : ∃ s, s = strU (Lib.itoa v) := ⟨_, rfl⟩
                        obtain ⟨s3, hs3⟩ : ∃ s, s = strU (tl ++ Lib.itoa v) := ⟨_, rfl⟩
                        obtain ⟨s4, hs4⟩ : ∃ s, s = strU (textL ((out).take (k + 1))) := ⟨_, rfl⟩
                        have z0 := Lib.itoa_length_le v hr.1 hr.2
                        have z1 : s1.size ≤ 3000 := by rw [hs1, strU_size]; omega
                        have z2 : s2.size ≤ 21 := by rw [hs2, strU_size]; omega
                        have z3 : s3.size ≤ 3100 := by rw [hs3, strU_size, List.length_append]; omega
                        have ad1 := add_str (a := s1) (b := s2) (c := s3) (by rw [hs1, hs2, hs3]; exact strU_app _ _) (by omega) (by omega)
                        have ad2 := add_str (a := s3) (b := { data := #[10] }) (c := s4) (by rw [hs3, hs4, TK.out, ← strU_nl]; exact strU_app _ _) (by omega) (by decide)
                        rw [← hs1]
                        have HS2 := Lib.hid hs2; have HS4 := Lib.hid hs4; have HR := Lib.hid hr
                        clear hc hv htl hs1 hs2 hs3 hs4 z0 z1 z2 z3 TL TK hr
                        go_wp2
                        go_quiet (fail)
                        go_wp2_with fail
                        refine (digits_any v _ HR.out.1 HR.out.2).mono ?_; rintro e wd ⟨rfl, hbd⟩
                        rw [← HS2.out]
                        have BD := Lib.hid (bt (bt hbk.out (below_drewN _ _)) hbd)
                        clear hbd
                        go_wp2
                        go_roundw
                        case rel => exact ⟨k + 1, by rw [HS4.out], by go_num, hkm, BD⟩
                        case measure => simp [intOf]; omega
                      · have hkm' : ¬ (k : Int) < (m : Int) := by omega
                        have TKE : (out).take k = (out) := List.take_of_length_le (by have := LEN.out; omega)
                        have P3 := Lib.hid (P2.out.calm hbk.out)
                        rw [TKE]
                        obtain ⟨tx, htx⟩ : ∃ tx, tx = strU (textL (out)) := ⟨_, rfl⟩
                        have HTX := Lib.hid htx
                        rw [← htx]
                        clear TKE hkm htx
                        go_wp2_with fail
                        refine (text_any P3.out.tp HLO.out P3.out.rng (HT.out _ P3.out.below)).mono ?_
                        rintro e wx ⟨rfl, hbx⟩
                        rw [← HTX.out]
                        have P4 := Lib.hid (P3.out.calm hbx)
                        clear hbx
                        go_wp2
                        go_roundw
                        case rel => exact ⟨i + 1, rd, m, _, _, _, out, rfl, rfl, by go_num, hil, by omega, P4⟩
                        case measure => simp [intOf]; omega
                · have q3 := decide_eq_false k3
                  clear k1 k2 k3 hmay
                  go_wp2_with fail
                  refine BBAD.out.mono ?_; rintro e w3 ⟨rfl, hb3⟩
                  have P0 := Lib.hid (SB.out.calm hb3)
                  clear SB hb3 x0 x1 x2 x3 BBAD
                  as_aux_lemma =>
                    have LEN : Hid ((out).length = m) := Lib.hid P0.out.op.1
                    have hm6 : m ≤ 60 := by omega
                    have hlo : (out).length ≤ 100000 := by have := LEN.out; omega
                    have HLO := Lib.hid hlo
                    clear hlo
                    go_wp2_with fail
                    refine (marks_any P0.out.tp).mono ?_; rintro e wm ⟨rfl, hbm⟩
                    rw [LEN.out]
                    have P1 := Lib.hid (P0.out.calm hbm)
                    clear P0 hbm
                    go_wp2_with fail
                    refine (out_any P1.out.tp HLO.out).mono ?_; rintro e wo ⟨Ao, co, rfl, owo, hbo⟩
                    rw [LEN.out] at owo ⊢
                    have P2 := Lib.hid (P1.out.calm hbo.out)
                    clear P1 hbo
                    go_wp2
                    go_loopw [18, 19] (fun sv kx wr => ∃ (k : Nat), sv = .string (strU (textL ((out).take k))) ∧ kx = .int .i64 k ∧ k ≤ m ∧ Hid (Below wo.heap.size wo wr)) (fun _ kx _ => m - (intOf kx).toNat)
                    case atStart => exact ⟨0, rfl, rfl, by omega, Lib.hid (Below.refl _ _)⟩
                    case round =>
                      obtain ⟨k, rfl, rfl, hk, hbk⟩ := hrel
                      by_cases hkm : k < m
                      · have hkm' : (k : Int) < (m : Int) := by omega
                        have hk0 : (0 : Int) ≤ (k : Int) := Int.natCast_nonneg _
                        obtain ⟨hh, ea, hc⟩ := P2.out.cell hkm
                        have hform := Go.Joins.ownsRow_form owo.out (by omega)
                        obtain ⟨go, cgo, eo⟩ := hform
                        injection eo with eo1 eo2 eo3
                        subst eo1 eo3
                        have y1 : wr.cell? ⟨go, k, none⟩ = some (.int .i64 ((out).getD k 0)) := ((P2.out.own owo.out hbk.out).cellAt k (by omega)).trans (its_at _ k (by have := LEN.out; omega))
                        have y2 := hc wr hbk.out
                        cases ea
                        have hr := P2.out.rng k
                        have TK : Hid (textL ((out).take (k + 1)) = textL ((out).take k) ++ Lib.itoa ((out).getD k 0) ++ [10]) := Lib.hid (by
                          rw [List.take_add_one, ← textL_snoc]; simp [List.getD, show k < (out).length by have := LEN.out; omega])
                        have TL := textL_len _ (take_rng P2.out.rng k)
                        rw [List.length_take] at TL
                        obtain ⟨v, hv⟩ : ∃ v, v = (out).getD k 0 := ⟨_, rfl⟩
                        rw [← hv] at y1 y2 hr TK
                        obtain ⟨tl, htl⟩ : ∃ tl, tl = textL ((out).take k) := ⟨_, rfl⟩
                        rw [← htl] at TK TL ⊢
                        obtain ⟨s1, hs1⟩ : ∃ s, s = strU tl := ⟨_, rfl⟩
                        obtain ⟨s2, hs2⟩ : ∃ s, s = strU (Lib.itoa v) := ⟨_, rfl⟩
                        obtain ⟨s3, hs3⟩ : ∃ s, s = strU (tl ++ Lib.itoa v) := ⟨_, rfl⟩
                        obtain ⟨s4, hs4⟩ : ∃ s, s = strU (textL ((out).take (k + 1))) := ⟨_, rfl⟩
                        have z0 := Lib.itoa_length_le v hr.1 hr.2
                        have z1 : s1.size ≤ 3000 := by rw [hs1, strU_size]; omega
                        have z2 : s2.size ≤ 21 := by rw [hs2, strU_size]; omega
                        have z3 : s3.size ≤ 3100 := by rw [hs3, strU_size, List.length_append]; omega
                        have ad1 := add_str (a := s1) (b := s2) (c := s3) (by rw [hs1, hs2, hs3]; exact strU_app _ _) (by omega) (by omega)
                        have ad2 := add_str (a := s3) (b := { data := #[10] }) (c := s4) (by rw [hs3, hs4, TK.out, ← strU_nl]; exact strU_app _ _) (by omega) (by decide)
                        rw [← hs1]
                        have HS2 := Lib.hid hs2; have HS4 := Lib.hid hs4; have HR := Lib.hid hr
                        clear hc hv htl hs1 hs2 hs3 hs4 z0 z1 z2 z3 TL TK hr
                        go_wp2
                        go_quiet (fail)
                        go_wp2_with fail
                        refine (digits_any v _ HR.out.1 HR.out.2).mono ?_; rintro e wd ⟨rfl, hbd⟩
                        rw [← HS2.out]
                        have BD := Lib.hid (bt (bt hbk.out (below_drewN _ _)) hbd)
                        clear hbd
                        go_wp2
                        go_roundw
                        case rel => exact ⟨k + 1, by rw [HS4.out], by go_num, hkm, BD⟩
                        case measure => simp [intOf]; omega
                      · have hkm' : ¬ (k : Int) < (m : Int) := by omega
                        have TKE : (out).take k = (out) := List.take_of_length_le (by have := LEN.out; omega)
                        have P3 := Lib.hid (P2.out.calm hbk.out)
                        rw [TKE]
                        obtain ⟨tx, htx⟩ : ∃ tx, tx = strU (textL (out)) := ⟨_, rfl⟩
                        have HTX := Lib.hid htx
                        rw [← htx]
                        clear TKE hkm htx
                        go_wp2_with fail
                        refine (text_any P3.out.tp HLO.out P3.out.rng (HT.out _ P3.out.below)).mono ?_
                        rintro e wx ⟨rfl, hbx⟩
                        rw [← HTX.out]
                        have P4 := Lib.hid (P3.out.calm hbx)
                        clear hbx
                        go_wp2
                        go_roundw
                        case rel => exact ⟨i + 1, rd, m, _, _, _, out, rfl, rfl, by go_num, hil, by omega, P4⟩
                        case measure => simp [intOf]; omega
              · have q2 := decide_eq_false k2
                clear k1 k2 hmay
                go_wp2_with fail
                refine BBAD.out.mono ?_; rintro e w3 ⟨rfl, hb3⟩
                have P0 := Lib.hid (SB.out.calm hb3)
                clear SB hb3 x0 x1 x2 x3 BBAD
                as_aux_lemma =>
                  have LEN : Hid ((out).length = m) := Lib.hid P0.out.op.1
                  have hm6 : m ≤ 60 := by omega
                  have hlo : (out).length ≤ 100000 := by have := LEN.out; omega
                  have HLO := Lib.hid hlo
                  clear hlo
                  go_wp2_with fail
                  refine (marks_any P0.out.tp).mono ?_; rintro e wm ⟨rfl, hbm⟩
                  rw [LEN.out]
                  have P1 := Lib.hid (P0.out.calm hbm)
                  clear P0 hbm
                  go_wp2_with fail
                  refine (out_any P1.out.tp HLO.out).mono ?_; rintro e wo ⟨Ao, co, rfl, owo, hbo⟩
                  rw [LEN.out] at owo ⊢
                  have P2 := Lib.hid (P1.out.calm hbo.out)
                  clear P1 hbo
                  go_wp2
                  go_loopw [18, 19] (fun sv kx wr => ∃ (k : Nat), sv = .string (strU (textL ((out).take k))) ∧ kx = .int .i64 k ∧ k ≤ m ∧ Hid (Below wo.heap.size wo wr)) (fun _ kx _ => m - (intOf kx).toNat)
                  case atStart => exact ⟨0, rfl, rfl, by omega, Lib.hid (Below.refl _ _)⟩
                  case round =>
                    obtain ⟨k, rfl, rfl, hk, hbk⟩ := hrel
                    by_cases hkm : k < m
                    · have hkm' : (k : Int) < (m : Int) := by omega
                      have hk0 : (0 : Int) ≤ (k : Int) := Int.natCast_nonneg _
                      obtain ⟨hh, ea, hc⟩ := P2.out.cell hkm
                      have hform := Go.Joins.ownsRow_form owo.out (by omega)
                      obtain ⟨go, cgo, eo⟩ := hform
                      injection eo with eo1 eo2 eo3
                      subst eo1 eo3
                      have y1 : wr.cell? ⟨go, k, none⟩ = some (.int .i64 ((out).getD k 0)) := ((P2.out.own owo.out hbk.out).cellAt k (by omega)).trans (its_at _ k (by have := LEN.out; omega))
                      have y2 := hc wr hbk.out
                      cases ea
                      have hr := P2.out.rng k
                      have TK : Hid (textL ((out).take (k + 1)) = textL ((out).take k) ++ Lib.itoa ((out).getD k 0) ++ [10]) := Lib.hid (by
                        rw [List.take_add_one, ← textL_snoc]; simp [List.getD, show k < (out).length by have := LEN.out; omega])
                      have TL := textL_len _ (take_rng P2.out.rng k)
                      rw [List.length_take] at TL
                      obtain ⟨v, hv⟩ : ∃ v, v = (out).getD k 0 := ⟨_, rfl⟩
                      rw [← hv] at y1 y2 hr TK
                      obtain ⟨tl, htl⟩ : ∃ tl, tl = textL ((out).take k) := ⟨_, rfl⟩
                      rw [← htl] at TK TL ⊢
                      obtain ⟨s1, hs1⟩ : ∃ s, s = strU tl := ⟨_, rfl⟩
                      obtain ⟨s2, hs2⟩ : ∃ s, s = strU (Lib.itoa v) := ⟨_, rfl⟩
                      obtain ⟨s3, hs3⟩ : ∃ s, s = strU (tl ++ Lib.itoa v) := ⟨_, rfl⟩
                      obtain ⟨s4, hs4⟩ : ∃ s, s = strU (textL ((out).take (k + 1))) := ⟨_, rfl⟩
                      have z0 := Lib.itoa_length_le v hr.1 hr.2
                      have z1 : s1.size ≤ 3000 := by rw [hs1, strU_size]; omega
                      have z2 : s2.size ≤ 21 := by rw [hs2, strU_size]; omega
                      have z3 : s3.size ≤ 3100 := by rw [hs3, strU_size, List.length_append]; omega
                      have ad1 := add_str (a := s1) (b := s2) (c := s3) (by rw [hs1, hs2, hs3]; exact strU_app _ _) (by omega) (by omega)
                      have ad2 := add_str (a := s3) (b := { data := #[10] }) (c := s4) (by rw [hs3, hs4, TK.out, ← strU_nl]; exact strU_app _ _) (by omega) (by decide)
                      rw [← hs1]
                      have HS2 := Lib.hid hs2; have HS4 := Lib.hid hs4; have HR := Lib.hid hr
                      clear hc hv htl hs1 hs2 hs3 hs4 z0 z1 z2 z3 TL TK hr
                      go_wp2
                      go_quiet (fail)
                      go_wp2_with fail
                      refine (digits_any v _ HR.out.1 HR.out.2).mono ?_; rintro e wd ⟨rfl, hbd⟩
                      rw [← HS2.out]
                      have BD := Lib.hid (bt (bt hbk.out (below_drewN _ _)) hbd)
                      clear hbd
                      go_wp2
                      go_roundw
                      case rel => exact ⟨k + 1, by rw [HS4.out], by go_num, hkm, BD⟩
                      case measure => simp [intOf]; omega
                    · have hkm' : ¬ (k : Int) < (m : Int) := by omega
                      have TKE : (out).take k = (out) := List.take_of_length_le (by have := LEN.out; omega)
                      have P3 := Lib.hid (P2.out.calm hbk.out)
                      rw [TKE]
                      obtain ⟨tx, htx⟩ : ∃ tx, tx = strU (textL (out)) := ⟨_, rfl⟩
                      have HTX := Lib.hid htx
                      rw [← htx]
                      clear TKE hkm htx
                      go_wp2_with fail
                      refine (text_any P3.out.tp HLO.out P3.out.rng (HT.out _ P3.out.below)).mono ?_
                      rintro e wx ⟨rfl, hbx⟩
                      rw [← HTX.out]
                      have P4 := Lib.hid (P3.out.calm hbx)
                      clear hbx
                      go_wp2
                      go_roundw
                      case rel => exact ⟨i + 1, rd, m, _, _, _, out, rfl, rfl, by go_num, hil, by omega, P4⟩
                      case measure => simp [intOf]; omega
            · have q1 := decide_eq_false k1
              clear k1 hmay
              go_wp2_with fail
              refine BBAD.out.mono ?_; rintro e w3 ⟨rfl, hb3⟩
              have P0 := Lib.hid (SB.out.calm hb3)
              clear SB hb3 x0 x1 x2 x3 BBAD
              as_aux_lemma =>
                have LEN : Hid ((out).length = m) := Lib.hid P0.out.op.1
                have hm6 : m ≤ 60 := by omega
                have hlo : (out).length ≤ 100000 := by have := LEN.out; omega
                have HLO := Lib.hid hlo
                clear hlo
                go_wp2_with fail
                refine (marks_any P0.out.tp).mono ?_; rintro e wm ⟨rfl, hbm⟩
                rw [LEN.out]
                have P1 := Lib.hid (P0.out.calm hbm)
                clear P0 hbm
                go_wp2_with fail
                refine (out_any P1.out.tp HLO.out).mono ?_; rintro e wo ⟨Ao, co, rfl, owo, hbo⟩
                rw [LEN.out] at owo ⊢
                have P2 := Lib.hid (P1.out.calm hbo.out)
                clear P1 hbo
                go_wp2
                go_loopw [18, 19] (fun sv kx wr => ∃ (k : Nat), sv = .string (strU (textL ((out).take k))) ∧ kx = .int .i64 k ∧ k ≤ m ∧ Hid (Below wo.heap.size wo wr)) (fun _ kx _ => m - (intOf kx).toNat)
                case atStart => exact ⟨0, rfl, rfl, by omega, Lib.hid (Below.refl _ _)⟩
                case round =>
                  obtain ⟨k, rfl, rfl, hk, hbk⟩ := hrel
                  by_cases hkm : k < m
                  · have hkm' : (k : Int) < (m : Int) := by omega
                    have hk0 : (0 : Int) ≤ (k : Int) := Int.natCast_nonneg _
                    obtain ⟨hh, ea, hc⟩ := P2.out.cell hkm
                    have hform := Go.Joins.ownsRow_form owo.out (by omega)
                    obtain ⟨go, cgo, eo⟩ := hform
                    injection eo with eo1 eo2 eo3
                    subst eo1 eo3
                    have y1 : wr.cell? ⟨go, k, none⟩ = some (.int .i64 ((out).getD k 0)) := ((P2.out.own owo.out hbk.out).cellAt k (by omega)).trans (its_at _ k (by have := LEN.out; omega))
                    have y2 := hc wr hbk.out
                    cases ea
                    have hr := P2.out.rng k
                    have TK : Hid (textL ((out).take (k + 1)) = textL ((out).take k) ++ Lib.itoa ((out).getD k 0) ++ [10]) := Lib.hid (by
                      rw [List.take_add_one, ← textL_snoc]; simp [List.getD, show k < (out).length by have := LEN.out; omega])
                    have TL := textL_len _ (take_rng P2.out.rng k)
                    rw [List.length_take] at TL
                    obtain ⟨v, hv⟩ : ∃ v, v = (out).getD k 0 := ⟨_, rfl⟩
                    rw [← hv] at y1 y2 hr TK
                    obtain ⟨tl, htl⟩ : ∃ tl, tl = textL ((out).take k) := ⟨_, rfl⟩
                    rw [← htl] at TK TL ⊢
                    obtain ⟨s1, hs1⟩ : ∃ s, s = strU tl := ⟨_, rfl⟩
                    obtain ⟨s2, hs2⟩ : ∃ s, s = strU (Lib.itoa v) := ⟨_, rfl⟩
                    obtain ⟨s3, hs3⟩ : ∃ s, s = strU (tl ++ Lib.itoa v) := ⟨_, rfl⟩
                    obtain ⟨s4, hs4⟩ : ∃ s, s = strU (textL ((out).take (k + 1))) := ⟨_, rfl⟩
                    have z0 := Lib.itoa_length_le v hr.1 hr.2
                    have z1 : s1.size ≤ 3000 := by rw [hs1, strU_size]; omega
                    have z2 : s2.size ≤ 21 := by rw [hs2, strU_size]; omega
                    have z3 : s3.size ≤ 3100 := by rw [hs3, strU_size, List.length_append]; omega
                    have ad1 := add_str (a := s1) (b := s2) (c := s3) (by rw [hs1, hs2, hs3]; exact strU_app _ _) (by omega) (by omega)
                    have ad2 := add_str (a := s3) (b := { data := #[10] }) (c := s4) (by rw [hs3, hs4, TK.out, ← strU_nl]; exact strU_app _ _) (by omega) (by decide)
                    rw [← hs1]
                    have HS2 := Lib.hid hs2; have HS4 := Lib.hid hs4; have HR := Lib.hid hr
                    clear hc hv htl hs1 hs2 hs3 hs4 z0 z1 z2 z3 TL TK hr
                    go_wp2
                    go_quiet (fail)
                    go_wp2_with fail
                    refine (digits_any v _ HR.out.1 HR.out.2).mono ?_; rintro e wd ⟨rfl, hbd⟩
                    rw [← HS2.out]
                    have BD := Lib.hid (bt (bt hbk.out (below_drewN _ _)) hbd)
                    clear hbd
                    go_wp2
                    go_roundw
                    case rel => exact ⟨k + 1, by rw [HS4.out], by go_num, hkm, BD⟩
                    case measure => simp [intOf]; omega
                  · have hkm' : ¬ (k : Int) < (m : Int) := by omega
                    have TKE : (out).take k = (out) := List.take_of_length_le (by have := LEN.out; omega)
                    have P3 := Lib.hid (P2.out.calm hbk.out)
                    rw [TKE]
                    obtain ⟨tx, htx⟩ : ∃ tx, tx = strU (textL (out)) := ⟨_, rfl⟩
                    have HTX := Lib.hid htx
                    rw [← htx]
                    clear TKE hkm htx
                    go_wp2_with fail
                    refine (text_any P3.out.tp HLO.out P3.out.rng (HT.out _ P3.out.below)).mono ?_
                    rintro e wx ⟨rfl, hbx⟩
                    rw [← HTX.out]
                    have P4 := Lib.hid (P3.out.calm hbx)
                    clear hbx
                    go_wp2
                    go_roundw
                    case rel => exact ⟨i + 1, rd, m, _, _, _, out, rfl, rfl, by go_num, hil, by omega, P4⟩
                    case measure => simp [intOf]; omega
    · have hil' : ¬ (i : Int) < (L : Int) := by omega
      go_wp2
      go_ret
      exact ⟨rfl, s.out.below⟩
end Go.Proofs.YtdnakmbfkpjaeaaDoor
