import Derived.Test.YtgfaadfkeeehgaaAwake
import Derived.Test.YtgfaadfkeeehgaaGetR
import Derived.Test.YtgfaadfkeeehgaaPi

namespace Go.Proofs.Ytgfaadfkeeehgaa
open Go.ChangeShapes Go.WideShapes Go.ChangeAt Go.RowKit
set_option linter.unusedVariables false
theorem get_e (A : Option Addr) (cap : Nat) (w : World) : Calls Try.prog 8 #[.slice A 0 cap] w fun e w' => e = .returned (.tuple #[.agg #[.int .i64 0, .int .i64 0, .int .i64 0], .int .i64 0, .int .i64 3]) ∧ Below w.heap.size w w' := by
  go_enter Try.func8, Try.ntmps8
  go_wp2
  go_returns
  exact ⟨rfl, by go_grown⟩
theorem getref_e (A : Option Addr) (cap : Nat) (w : World) : Calls Try.prog 13 #[.slice A 0 cap] w fun e w' => e = .returned (.tuple #[.agg #[.int .i64 0, .int .i64 0, .int .i64 0], .int .i64 0]) ∧ Below w.heap.size w w' := by
  go_enter Try.func13, Try.ntmps13
  go_wp2
  go_returns
  exact ⟨rfl, by go_grown⟩
theorem all_e (A : Option Addr) (cap : Nat) (w : World) : Calls Try.prog 9 #[.slice A 0 cap] w fun e w' => e = .returned (.tuple #[.slice none 0 0, .int .i64 0]) ∧ w = w' := by
  go_enter Try.func9, Try.ntmps9
  go_wp2
  refine wp_loop_rounds 1 ?_
  rw [rounds_succ]
  go_wp2
  go_ret2
  exact ⟨rfl, rfl⟩
theorem getref_len {w : World} {h o cap n : Nat} {c : Nat} {t : List Nat} (hn : t.length + 1 = n) (hb : ∀ j, j < (c :: t).length → w.cell? ⟨h, o + j, none⟩ = some (.int .u8 ((c :: t).getD j 0 : Nat))) (hlt : h < w.heap.size) (hc : c < 256) (hl : t.length ≤ 900000) (hcap : t.length + 1 ≤ cap) :
    Calls Try.prog 13 #[.slice (some ⟨h, o, none⟩) n cap] w fun e w' => e = .returned (.tuple #[.agg #[.int .i64 (getS (c :: t)).1.1, .int .i64 (getS (c :: t)).1.2.1, .int .i64 (getS (c :: t)).1.2.2], .int .i64 (getS (c :: t)).2]) ∧ Below w.heap.size w w' := by
  subst hn; exact getref hb hlt hc hl hcap
theorem allS_step (c : Nat) (t : List Nat) : allS ((c :: t).length + 1) (c :: t) = if (getS (c :: t)).2 = 0 then none else (allS (((c :: t).drop (getS (c :: t)).2.toNat).length + 1) ((c :: t).drop (getS (c :: t)).2.toNat)).map ((getS (c :: t)).1 :: ·) := by
  have hg := getS_len (c :: t)
  show (if (getS (c :: t)).2 = 0 then none else (allS ((c :: t).length) ((c :: t).drop (getS (c :: t)).2.toNat)).map ((getS (c :: t)).1 :: ·)) = _
  by_cases h0 : (getS (c :: t)).2 = 0
  · rw [if_pos h0, if_pos h0]
  · rw [if_neg h0, if_neg h0, allS_fuel (c :: t).length _ (by rw [List.length_drop]; simp only [List.length_cons] at hg ⊢; omega)]
/-- what the bytes from k on have: all, by the bytes there. -/
def AS (bs : List Nat) (k : Nat) : Option (List (Int × Int × Int)) := allS ((bs.drop k).length + 1) (bs.drop k)
theorem AS_step (bs : List Nat) (k c : Nat) (t : List Nat) (h : bs.drop k = c :: t) : AS bs k = if (getS (c :: t)).2 = 0 then none else (AS bs (k + (getS (c :: t)).2.toNat)).map ((getS (c :: t)).1 :: ·) := by
  unfold AS
  rw [h, allS_step]
  rw [← h, List.drop_drop]
set_option maxRecDepth 100000 in
set_option maxHeartbeats 4000000 in
theorem whole_any {w : World} {h o cap : Nat} {bs : List Nat} (hb : ∀ j, j < bs.length → w.cell? ⟨h, o + j, none⟩ = some (.int .u8 (bs.getD j 0 : Nat))) (hlt : h < w.heap.size) (hc : ∀ j, bs.getD j 0 < 256) (hl : bs.length ≤ 90000) (hcap : bs.length ≤ cap) :
    Calls Try.prog 14 #[.slice (some ⟨h, o, none⟩) bs.length cap] w fun e w' => e = .returned (.bool (AS bs 0).isSome) ∧ Below w.heap.size w w' := by
  have HB := Lib.hid hb; have HC := Lib.hid hc; clear hb hc
  obtain ⟨r, hr⟩ : ∃ r, r = (AS bs 0).isSome := ⟨_, rfl⟩
  rw [← hr]
  have HR := Lib.hid hr; clear hr
  go_enter Try.func14, Try.ntmps14
  go_wp2
  go_loopw [0] (fun v wr => ∃ (k o' cap' : Nat), k ≤ bs.length ∧ v = .slice (some ⟨h, o', none⟩) (bs.length - k) cap' ∧ bs.length - k ≤ cap' ∧ Hid (k < bs.length → o' = o + k) ∧ Hid (Below w.heap.size w wr) ∧ Hid (r = (AS bs k).isSome)) (fun v _ => match v with | .slice _ n _ => n | _ => 0)
  case atStart => exact ⟨0, o, cap, by omega, rfl, by omega, Lib.hid (fun _ => rfl), Lib.hid (Below.refl _ _), HR⟩
  case round =>
    obtain ⟨k, o', cap', hk, rfl, hc', ho', hbw, hres⟩ := hrel
    by_cases hlt2 : k < bs.length
    · obtain ⟨c, hcc⟩ : ∃ c, c = bs.getD k 0 := ⟨_, rfl⟩
      obtain ⟨t, ht⟩ : ∃ t, t = bs.drop (k + 1) := ⟨_, rfl⟩
      have hct : bs.drop k = c :: t := by rw [hcc, ht]; exact drop_cons bs k hlt2
      have htl : t.length + 1 = bs.length - k := by rw [ht, List.length_drop]; omega
      have hc256 : c < 256 := by rw [hcc]; exact HC.out k
      have hgl := getS_len (c :: t)
      have hst := AS_step bs k c t hct
      have HCT : Hid (∀ j, j < (c :: t).length → (c :: t).getD j 0 = bs.getD (k + j) 0) := Lib.hid (fun j hj => by rw [← hct]; simp [List.getD])
      have CG : Hid (∀ W, Below w.heap.size w W → Calls Try.prog 13 #[.slice (some ⟨h, o', none⟩) (bs.length - k) cap'] W fun e w' => e = .returned (.tuple #[.agg #[.int .i64 (getS (c :: t)).1.1, .int .i64 (getS (c :: t)).1.2.1, .int .i64 (getS (c :: t)).1.2.2], .int .i64 (getS (c :: t)).2]) ∧ Below W.heap.size W w') := Lib.hid (fun W hW =>
        getref_len (c := c) (t := t) htl (fun j hj => by
          have hj' := hj
          simp only [List.length_cons] at hj'
          rw [ho'.out hlt2, hW.cell (p := ⟨h, o + k + j, none⟩) hlt, show o + k + j = o + (k + j) by omega, HB.out (k + j) (by omega), HCT.out j hj]) (Nat.lt_of_lt_of_le hlt hW.size) hc256 (by omega) (by omega))
      obtain ⟨g, hg⟩ : ∃ g, g = getS (c :: t) := ⟨_, rfl⟩
      rw [← hg] at hst CG hgl
      simp only [List.length_cons] at hgl
      have hgl2 : g.2 ≤ ((bs.length - k : Nat) : Int) := by omega
      have hgl1 := hgl.1
      have HST := Lib.hid hst
      clear hg hcc ht hct htl hgl hc256 hst
      obtain ⟨⟨g1, g2, g3⟩, gn⟩ := g
      simp only at HST CG hgl1 hgl2
      have HBW := Lib.hid hbw.out
      have hpos : (0 : Int) < ((bs.length - k : Nat) : Int) := by omega
      have hposn : 0 < bs.length - k := by omega
      go_wp2_with fail
      refine (CG.out _ HBW.out).mono ?_; rintro e w3 ⟨rfl, hb3⟩
      have hs3 := hb3.size
      have hsw := hbw.out.size
      have HB3 := Lib.hid (hbw.out.trans (hb3.mono hsw))
      clear hb3
      by_cases hgn : gn = 0
      · subst hgn
        have E : Hid (r = false) := Lib.hid (by rw [hres.out, HST.out, if_pos rfl]; rfl)
        go_wp2
        go_ret
        rw [E.out]
        exact ⟨rfl, HB3.out.trans ((below_alloc w3 _).mono HB3.out.size)⟩
      · obtain ⟨q, rfl⟩ : ∃ q : Nat, gn = q := ⟨gn.toNat, by omega⟩
        have E : Hid (r = (AS bs (k + q)).isSome) := Lib.hid (by rw [hres.out, HST.out, if_neg hgn, Int.toNat_natCast]; cases AS bs (k + q) <;> rfl)
        have hne : ((q : Int) == 0) = false := beq_eq_false_iff_ne.2 hgn
        have hq0 : 0 < q := by omega
        have hq1 : q ≤ bs.length - k := by omega
        obtain ⟨o2, ho2, ho2'⟩ := rest_at h o' (bs.length - k) cap' q hq1 hc'
        have R2 : Hid (k + q < bs.length → o2 = o + (k + q)) := Lib.hid (fun hh => by rw [ho2' (by omega), ho'.out hlt2]; omega)
        have MEAS : Hid (bs.length - k - q < bs.length - k) := Lib.hid (by omega)
        have SUB : Hid (bs.length - k - q = bs.length - (k + q)) := Lib.hid (by omega)
        have CAP2 : Hid (bs.length - (k + q) ≤ cap' - q) := Lib.hid (by omega)
        clear hgn ho2'
        go_wp2
        go_roundw
        case rel => exact ⟨k + q, o2, cap' - q, by omega, by rw [SUB.out], CAP2.out, R2, Lib.hid (HB3.out.trans ((below_alloc w3 _).mono HB3.out.size)), E⟩
        case measure => exact MEAS.out
    · obtain rfl : k = bs.length := by omega
      have E : Hid (r = true) := Lib.hid (by rw [hres.out]; unfold AS; simp [allS])
      have HBW := hbw
      clear hlt2
      go_wp2
      go_ret
      rw [E.out]
      exact ⟨rfl, HBW.out⟩
set_option maxRecDepth 100000 in
set_option maxHeartbeats 4000000 in
theorem says_long (v : Value) (A : Option Addr) (n c : Nat) (w : World) (hn : 200 < n) (o a b : Int) : Calls Try.prog 4 #[.agg #[.int .i64 o, .int .i64 a, .int .i64 b], .slice A n c] w fun e w' => e = .returned (.bool true) ∧ Below w.heap.size w w' := by
  have hn' : (200 : Int) < n := by omega
  have BA := Lib.hid (below_alloc w (.cells #[.int .i64 o, .int .i64 a, .int .i64 b] 24))
  go_enter Try.func4, Try.ntmps4
  go_wp2_with fail
  refine (awake _).mono ?_; rintro e w1 ⟨rfl, hb1⟩
  have B1 := Lib.hid (bt BA.out hb1); clear hb1
  go_wp2
  go_ret
  exact ⟨rfl, B1.out⟩
set_option maxRecDepth 100000 in
set_option maxHeartbeats 4000000 in
theorem says_nil (A : Option Addr) (c : Nat) (w : World) (hA : A = none → c = 0) (oo a b : Int)
    (ha1 : Hid (-9223372036854775808 ≤ a)) (ha2 : Hid (a < 9223372036854775808)) (hb1 : Hid (-9223372036854775808 ≤ b)) (hb2 : Hid (b < 9223372036854775808)) :
    Calls Try.prog 4 #[.agg #[.int .i64 oo, .int .i64 a, .int .i64 b], .slice A 0 c] w fun e w' => e = .returned (.bool true) ∧ Below w.heap.size w w' := by
  have SRC : Hid (∀ W, Src W (.slice A 0 c) []) := Lib.hid (fun W => by
    cases A with
    | none => exact .inl ⟨by rw [hA rfl], rfl⟩
    | some a => exact .inr ⟨a, c, rfl, fun j u hu => by simp [bys] at hu⟩)
  clear hA
  have BA := Lib.hid (below_alloc w (.cells #[.int .i64 oo, .int .i64 a, .int .i64 b] 24))
  obtain ⟨b00, b01, b02⟩ := box3 w (.int .i64 oo) (.int .i64 a) (.int .i64 b) 24
  have BX := Lib.hid (And.intro b00 (And.intro b01 b02)); clear b00 b01 b02
  have BLT : Hid (w.heap.size < (w.alloc (.cells #[.int .i64 oo, .int .i64 a, .int .i64 b] 24)).heap.size) := Lib.hid (by simp)
  go_enter Try.func4, Try.ntmps4
  go_wp2_with fail
  refine (awake _).mono ?_; rintro e w1 ⟨rfl, hb1⟩
  have x0 := (hb1.cell (p := ⟨w.heap.size, 0, none⟩) BLT.out).trans BX.out.1
  have x1 := (hb1.cell (p := ⟨w.heap.size, 1, none⟩) BLT.out).trans BX.out.2.1
  have x2 := (hb1.cell (p := ⟨w.heap.size, 2, none⟩) BLT.out).trans BX.out.2.2
  have L1 : w.heap.size < w1.heap.size := Nat.lt_of_lt_of_le BLT.out hb1.size
  have B1 := Lib.hid (bt BA.out hb1); clear hb1
  go_wp2_with fail
  refine (put_src oo a b (SRC.out _) (by simp) ha1 ha2 ‹Hid (-9223372036854775808 ≤ b)› hb2).mono ?_; rintro e w2 ⟨p, np, rfl, own2, hb2'⟩
  have y0 := (hb2'.cell (p := ⟨w.heap.size, 0, none⟩) L1).trans x0
  have y1 := (hb2'.cell (p := ⟨w.heap.size, 1, none⟩) L1).trans x1
  have y2 := (hb2'.cell (p := ⟨w.heap.size, 2, none⟩) L1).trans x2
  have B2 := Lib.hid (bt B1.out hb2'); have OWN2 := Lib.hid own2
  clear hb2' own2 x0 x1 x2
  go_wp2_with fail
  refine (pi_src oo a b (SRC.out _) (by simp) ha1 ha2 ‹Hid (-9223372036854775808 ≤ b)› hb2).mono ?_; rintro e w3 ⟨q, nq, rfl, own3, hb3⟩
  have B3 := Lib.hid (bt B2.out hb3); have OWN3 := Lib.hid own3
  have OWN2' := Lib.hid (own_below OWN2.out hb3)
  clear hb3 own3 y0 y1 y2
  go_wp2_with fail
  refine (get_e A c _).mono ?_; rintro e w4 ⟨rfl, hb4⟩
  have B4 := Lib.hid (bt B3.out hb4)
  have OWN3' := Lib.hid (own_below OWN3.out hb4); have OWN2a := Lib.hid (own_below OWN2'.out hb4)
  clear hb4
  go_wp2_with fail
  refine (getref_e A c _).mono ?_; rintro e w5 ⟨rfl, hb5⟩
  have hb5' : Below w4.heap.size w4 w5 := bt (below_alloc w4 _) hb5
  have B5 := Lib.hid (bt B4.out hb5')
  have op := own_below OWN2a.out hb5'
  have oq := own_below OWN3'.out hb5'
  have cp : ∀ o : Obj, (convert 28 9 p).run Try.prog (w5.alloc o) = .ok (.string (strB ([] ++ putS oo a b))) (w5.alloc o) := fun o => str_own (op.alloc o)
  have cq : ∀ o : Obj, (convert 28 9 q).run Try.prog (w5.alloc o) = .ok (.string (strB ([] ++ putS oo a b))) (w5.alloc o) := fun o => str_own (oq.alloc o)
  have z0 := (hb5.cell (p := ⟨w4.heap.size, 0, none⟩) (by simp)).trans (box3 w4 (.int .i64 0) (.int .i64 0) (.int .i64 0) 24).1
  have z1 := (hb5.cell (p := ⟨w4.heap.size, 1, none⟩) (by simp)).trans (box3 w4 (.int .i64 0) (.int .i64 0) (.int .i64 0) 24).2.1
  have z2 := (hb5.cell (p := ⟨w4.heap.size, 2, none⟩) (by simp)).trans (box3 w4 (.int .i64 0) (.int .i64 0) (.int .i64 0) 24).2.2
  have L5 : w4.heap.size < w5.heap.size := by have := hb5.size; simp at this; omega
  have B6 := Lib.hid (bt B5.out (below_alloc w5 (.cells #[.int .i64 0, .int .i64 0, .int .i64 0] 35)))
  clear hb5 hb5' op oq
  go_wp2_with fail
  refine (all_e A c _).mono ?_; rintro e w6 ⟨rfl, rfl⟩
  go_wp2
  refine wp_loop_rounds 1 ?_
  rw [rounds_succ]
  go_wp2
  go_ret
  exact ⟨rfl, B6.out⟩
end Go.Proofs.Ytgfaadfkeeehgaa
