import Derived.Test.YtknpgmbniohcnaaRg
namespace Go.Proofs.Ytknpgmbniohcnaa
open Go.ChangeShapes Go.WideShapes Go.ChangeAt Go.RowKit
set_option linter.unusedVariables false
set_option linter.unusedSimpArgs false
/-- an empty row made now is one's own. -/
theorem own_empty (w : World) (e : TypeId) : (w.alloc (.cells #[] e)).ownsRow w.heap.size e 1 (.slice (some ⟨w.heap.size, 0, none⟩) 0 0) 0 [] :=
  ⟨rfl, .inr ⟨w.heap.size, 0, #[], rfl, Nat.le_refl _, by show (w.heap.push _)[w.heap.size]? = _; rw [Array.getElem?_push, if_pos rfl], Nat.le_refl _, by unfold maxLen; omega, rfl, rfl⟩⟩
theorem one_wd (xs : List Int) : ∀ u ∈ wd xs, u.oneCell' = true := fun u hu => by obtain ⟨z, _, rfl⟩ := List.mem_map.1 hu; rfl
theorem inW_news {w : World} {A : Option Addr} {c : Nat} {xs : List Int} (h : InW w A c xs) : ∀ ad, A = some ad → ∀ j u, (wd xs)[j]? = some u → w.cell? (ad.add j) = some u := by
  intro ad had j u hu
  obtain ⟨b, off, rfl, hb, hc⟩ := h.2 ad had
  have hj : j < xs.length := by have := (List.getElem?_eq_some_iff.1 hu).1; rwa [wd_len] at this
  rw [Go.WideShapes.add_plain, hc j hj, ← wd_at xs j hj, hu]
theorem inU_news {w : World} {A : Option Addr} {n c : Nat} {xs : List Int} (h : InU w A n c xs) : ∀ ad, A = some ad → ∀ j u, (wd xs)[j]? = some u → w.cell? (ad.add j) = some u := by
  intro ad had j u hu
  have hj : j < xs.length := by have := (List.getElem?_eq_some_iff.1 hu).1; rwa [wd_len] at this
  obtain ⟨b, off, e, hb, hc⟩ := h.2.2.2 (by have := h.1; omega)
  rw [e] at had; injection had with had; subst had
  rw [Go.WideShapes.add_plain, hc j hj, ← wd_at xs j hj, hu]
theorem grown_below {w0 w w' : World} {B e n : Nat} {v : Value} {xs : List Value} (hb : Below w0.heap.size w0 w) (h : w.ownsRow B e 1 v n xs) (hB : w0.heap.size ≤ B) (gr : w.grownBy w' v.ownBlock) : Below w0.heap.size w0 w' :=
  hb.trans ((Frm.of_grown (R := fun k => v.ownBlock = some k) gr (fun k hk => hk)).below (fun k hk => Nat.le_trans hB (own_block_ge h k hk)) hb.size)
set_option maxRecDepth 100000 in
set_option maxHeartbeats 8000000 in
theorem rmake_any {w : World} {B H n c : Nat} {m : Hm} {A : Option Addr} {xs : List Int} (h : RH w B H m) (hu : InU w A n c xs) (k t : Int) (hn : n ≤ 100000) (hB : B ≤ w.heap.size) :
    Calls Try.prog 22 #[.pointer (some ⟨H, 0, none⟩), .int .i64 k, .int .i64 t, .slice A n c] w fun e w' => e = .returned (.tuple #[.int .u64 (makeV m k t xs), .int .i64 (makeE m k t xs)]) ∧ Hid (RH w' B H (makeM m k t xs)) ∧ Hid (Below w.heap.size w w' ∨ Frm w w' (fun k => k = H)) := by
  obtain ⟨i0, hi0, hz0, hz1, hz2⟩ := info_parts info27
  have HD := Lib.hid (rhead_any k t n w)
  have HR := Lib.hid h
  have HU := Lib.hid hu
  have WD := Lib.hid (fun x hx => rword_any h x hx)
  obtain ⟨A0, c0, f0, f1, f2, hin, fz, own⟩ := h.cells
  have HIN := Lib.hid hin
  have OWN := Lib.hid own
  have fz1 := fz 1
  have hlt := h.full.lt
  have hr0 := h.full.r0; have hr1 := h.full.r1
  obtain ⟨L, hL⟩ : ∃ L, L = m.ws.length := ⟨_, rfl⟩
  rw [← hL] at f1 hlt
  have HL := Lib.hid hL
  obtain ⟨rm, hrm⟩ : ∃ rm, rm = m.room := ⟨_, rfl⟩
  rw [← hrm] at f0 hr0 hr1
  have HRM := Lib.hid hrm
  have hnl : xs.length = n := hu.1
  have HNL := Lib.hid hnl
  have hHl := h.lt
  have HHL := Lib.hid hHl
  have F1A := Lib.hid (And.intro f0 (And.intro f1 f2))
  obtain ⟨hd, hhd⟩ : ∃ hd, hd = headV k t n := ⟨_, rfl⟩
  obtain ⟨hb, hhb⟩ : ∃ hb, hb = headB k t n := ⟨_, rfl⟩
  rw [← hhd, ← hhb] at HD
  have HHD := Lib.hid (And.intro hhd hhb)
  have hOK : headB k t xs.length = hb := by rw [hnl, hhb]
  have HOK := Lib.hid hOK
  clear h hu hin own fz hL hrm hnl hhd hhb hOK hHl f2
  go_enter Try.func22, Try.ntmps22
  go_wp2_with fail
  refine HD.out.mono ?_; rintro e w1 ⟨rfl, rfl⟩
  clear HD
  go_wp2
  go_loop [11, 12] (fun o i => ∃ j : Nat, i = .int .i64 j ∧ j ≤ n ∧ o = .bool (hb && (xs.take j).all (fitsB m))) (fun _ i => n - (intOf i).toNat)
  case atStart => exact ⟨0, rfl, by omega, by simp⟩
  case round =>
    obtain ⟨j, rfl, hj, rfl⟩ := hrel
    by_cases hjn : j < n
    · have hjx : j < xs.length := by have := HNL.out; omega
      have hjni : (j : Int) < (n : Int) := by omega
      obtain ⟨b, off, rfl, hbl, hc⟩ := HU.out.2.2.2 (by omega)
      have hcj := hc j hjx
      have hux := HU.out.2.2.1 _ (List.getElem_mem hjx)
      have hT : (hb && (xs.take (j + 1)).all (fitsB m)) = ((hb && (xs.take j).all (fitsB m)) && fitsB m xs[j]) := by
        rw [List.take_succ_eq_append_getElem hjx, List.all_append]; simp [Bool.and_assoc]
      obtain ⟨x, hx⟩ : ∃ x, x = xs[j] := ⟨_, rfl⟩
      rw [← hx] at hcj hux hT
      have HT := Lib.hid hT
      have WX := Lib.hid (WD.out x hux)
      obtain ⟨o, ho⟩ : ∃ o, o = (hb && (xs.take j).all (fitsB m)) := ⟨_, rfl⟩
      obtain ⟨q, hq⟩ : ∃ q, q = fitsB m x := ⟨_, rfl⟩
      rw [← ho, ← hq] at HT
      rw [← ho]
      rw [← hq] at WX
      clear hc hx hT ho hq hux
      cases o
      · go_wp2
        go_round
        case rel => exact ⟨j + 1, by go_num, by omega, by rw [HT.out]; rfl⟩
        case measure => simp [intOf]; omega
      · go_wp2_with fail
        refine WX.out.mono ?_; rintro e w2 ⟨rfl, rfl⟩
        go_wp2
        go_round
        case rel => exact ⟨j + 1, by go_num, by omega, by rw [HT.out]; rfl⟩
        case measure => simp [intOf]; omega
    · obtain rfl : j = n := by omega
      have hjni : ¬ (j : Int) < (j : Int) := by omega
      have e : xs.take j = xs := List.take_of_length_le (by have := HNL.out; omega)
      rw [e]
      by_cases hall : (hb && xs.all (fitsB m)) = false
      · have hE : makeE m k t xs = 1 := by
          unfold makeE
          rw [HOK.out]
          cases hb
          · rfl
          · rw [if_neg (by decide), if_pos (by simpa using hall)]
        have HE := Lib.hid (And.intro hE (And.intro (show makeV m k t xs = 0 by unfold makeV; rw [hE]; rfl) (show makeM m k t xs = m by unfold makeM; rw [hE]; rfl)))
        rw [hall]
        clear hall hE e
        go_wp2
        go_ret2
        refine ⟨by rw [HE.out.1, HE.out.2.1]; rfl, ?_, Lib.hid (.inl (Below.refl _ _))⟩
        rw [HE.out.2.2]; exact HR
      · have hall' : (hb && xs.all (fitsB m)) = true := by simpa using hall
        have HBB : Hid (hb = true ∧ xs.all (fitsB m) = true) := Lib.hid (by rw [Bool.and_eq_true] at hall'; exact hall')
        rw [hall']
        have hE0 : makeE m k t xs = if m.room < m.ws.length + xs.length + 1 then 8 else 0 := by
          unfold makeE
          rw [HOK.out, HBB.out.1, if_neg (by decide), if_neg (by rw [HBB.out.2]; decide)]
        have hw1 : IntKind.i64.wrap ((j : Int) + 1) = (j : Int) + 1 := IntWalk.i64_in _ (by omega)
        have hw2 : IntKind.i64.wrap (rm - (L : Int)) = rm - (L : Int) := IntWalk.i64_in _ (by omega)
        clear hall hall'
        by_cases hfull : rm - (L : Int) < (j : Int) + 1
        · have dd := decide_eq_true hfull
          have hE : makeE m k t xs = 8 := by rw [hE0, if_pos (by have := HL.out; have := HRM.out; have := HNL.out; omega)]
          have HE := Lib.hid (And.intro hE (And.intro (show makeV m k t xs = 0 by unfold makeV; rw [hE]; rfl) (show makeM m k t xs = m by unfold makeM; rw [hE]; rfl)))
          clear hE hE0 e
          go_wp2
          go_quiet (fail)
          go_wp2
          go_ret2
          refine ⟨by rw [HE.out.1, HE.out.2.1]; rfl, ?_, Lib.hid (.inl (bN _ w))⟩
          rw [HE.out.2.2]; exact Lib.hid (HR.out.below (bN _ w))
        · have dd := decide_eq_false hfull
          have hE : makeE m k t xs = 0 := by rw [hE0, if_neg (by have := HL.out; have := HRM.out; have := HNL.out; omega)]
          have HE := Lib.hid (And.intro hE (And.intro (show makeV m k t xs = (m.ws.length : Int) * 2 by unfold makeV; rw [hE]; rfl) (show makeM m k t xs = m.add (headV k t xs.length) xs by unfold makeM; rw [hE]; rfl)))
          clear hE hE0 e
          have hle : L + j + 1 ≤ 65536 := by omega
          go_wp2
          go_quiet (fail)
          obtain ⟨w2, hw2_⟩ : ∃ w2, w2 = w.drewN nq := ⟨_, rfl⟩
          rw [← hw2_]
          have B2 : Hid (Below w.heap.size w w2) := Lib.hid (by rw [hw2_]; exact bN _ w)
          have S2 : Hid (w2.heap.size = w.heap.size) := Lib.hid (by rw [hw2_]; rfl)
          have g1 : w2.cell? ⟨H, 1, none⟩ = some (.slice A0 L c0) := by rw [hw2_]; exact f1
          have g2 : (w2.alloc (.cells #[] 27)).cell? ⟨H, 1, none⟩ = some (.slice A0 L c0) := ((below_alloc w2 _).cell (p := ⟨H, 1, none⟩) (by have := HHL.out; have := S2.out; show H < w2.heap.size; omega)).trans g1
          have HR2 : Hid (RH w2 B H m) := Lib.hid (HR.out.below B2.out)
          have INA : Hid (InW (w2.alloc (.cells #[] 27)) A0 c0 m.ws) := Lib.hid ((HIN.out.below B2.out).below (below_alloc w2 _))
          have BA : Hid (Below w.heap.size w (w2.alloc (.cells #[] 27))) := Lib.hid (bt B2.out (below_alloc w2 _))
          clear hw2_ f0 f1 F1A HIN OWN
          go_wp2_with (at_builtin; refine wpList_append_sl _ rfl (.tmp 59) (.tmp 63) 45 rfl w2.heap.size 27 i0 (.int .u64 0) 1 8 Try.underlying45 hi0 hz0 hz1 hz2 rfl (by decide) (.slice (some ⟨w2.heap.size, 0, none⟩) 0 0) 0 [] rfl (own_empty w2 27) A0 L c0 (wd m.ws) rfl (by rw [wd_len, HL.out]; omega) (fun e => by rw [HL.out]; exact INA.out.1 e) (inW_news INA.out) (one_wd _) (by unfold maxLen; omega) (by omega) ?s1 ?_)
          case s1 => show w2.heap.size ≤ (w2.heap.push _).size; simp
          intro v3 w3 own3 gr3 at3
          have B3 := Lib.hid (grown_below BA.out (own_empty w2 27) (by rw [S2.out]; omega) gr3)
          have OW3 := Lib.hid own3
          have Z3 : Hid (w2.heap.size ≤ w3.heap.size) := Lib.hid (Nat.le_trans (below_alloc w2 _).size gr3.size)
          clear own3 gr3 at3
          go_wp2_with (at_builtin; refine wpList_append_own_at _ rfl (.tmp 64) (.tmp 66) 45 rfl w2.heap.size 27 i0 (.int .u64 0) 1 8 Try.underlying45 hi0 hz0 hz1 hz2 rfl (by decide) v3 L (wd m.ws) rfl (OW3.out.alloc _) ⟨w3.heap.size, 0, none⟩ 1 1 [.int .u64 hd] rfl rfl ?t1 ?t2 (by unfold maxLen; omega) (by omega) ?t3 ?_)
          case t1 => exact cell_one_new _ _ _
          case t2 => intro u hu; simp only [List.mem_singleton] at hu; subst hu; rfl
          case t3 => have := Z3.out; show w2.heap.size ≤ (w3.heap.push _).size; simp; omega
          intro v4 w4 own4 gr4 _ at4
          have B4 := Lib.hid (grown_below (bt B3.out (below_alloc w3 (.cells #[.int .u64 hd] 27))) (OW3.out.alloc _) (by rw [S2.out]; omega) gr4)
          have OW4 := Lib.hid own4
          have INX := Lib.hid (HU.out.below B4.out)
          have Z4 : Hid (w2.heap.size ≤ w4.heap.size) := Lib.hid (Nat.le_trans Z3.out (Nat.le_trans (below_alloc w3 (.cells #[.int .u64 hd] 27)).size gr4.size))
          clear own4 gr4 at4
          go_wp2_with (at_builtin; refine wpList_append_sl _ rfl (.tmp 67) (.tmp 68) 45 rfl w2.heap.size 27 i0 (.int .u64 0) 1 8 Try.underlying45 hi0 hz0 hz1 hz2 rfl (by decide) v4 (L + 1) (wd m.ws ++ [.int .u64 hd]) rfl OW4.out A j c (wd xs) rfl (by rw [wd_len, HNL.out]; omega) INX.out.2.1 (inU_news INX.out) (one_wd _) (by unfold maxLen; omega) (by omega) Z4.out ?_)
          intro v5 w5 own5 gr5 at5
          have B5 := Lib.hid (grown_below B4.out OW4.out (by rw [S2.out]; omega) gr5)
          obtain ⟨A5, c5, rfl⟩ := vform own5
          have HR5 := Lib.hid (HR.out.below B5.out)
          obtain ⟨A6, c6, h0, h1, h2, _, hfz, _⟩ := HR5.out.cells
          have hz1_ := hfz 1
          have FIN : Hid (RH (w5.setCell ⟨H, 1, none⟩ (.slice A5 (L + 1 + j) c5)) B H (m.add (headV k t xs.length) xs)) := Lib.hid (by
            have hfm := full_make (k := k) (t := t) HR.out.full HU.out.2.2.1
            rw [HE.out.2.2] at hfm
            obtain ⟨T, A7, c7, t1, t2, t3⟩ := HR5.out.at_
            have hl : (m.add (headV k t xs.length) xs).ws.length = L + 1 + j := by simp only [Hm.add, List.length_append, List.length_cons]; have := HL.out; have := HNL.out; omega
            refine ⟨hfm, ?_, T, A5, c5, ?_, ?_, ?_⟩
            · have := B5.out.size; simp only [World.setCell, Array.size_modify]; omega
            · exact t1
            · rw [set_heap _ t2, hl]
              simp [Hm.add]
            · rw [hl]
              have hne : Value.ownBlock (.slice A5 (L + 1 + j) c5) ≠ some H := fun e => by
                have := (own5.lt H e).1; have := HHL.out; have := S2.out; omega
              have z := ownsRow_setCell_other own5 (a := ⟨H, 1, none⟩) hne (.slice A5 (L + 1 + j) c5)
              have e : wd (m.add (headV k t xs.length) xs).ws = wd m.ws ++ Value.int IntKind.u64 hd :: wd xs := by
                simp only [Hm.add]
                rw [HNL.out, ← HHD.out.1]
                simp [wd]
              rw [e]
              exact own_mono z (by have := S2.out; omega))
          have FF : Hid (Frm w (w5.setCell ⟨H, 1, none⟩ (.slice A5 (L + 1 + j) c5)) (fun k => k = H)) := Lib.hid ((Frm.of_below B5.out (Nat.le_refl _) _).trans (frm_set _ _ rfl))
          have P0 : Hid (∀ W, Calls Try.prog 45 #[.int .i64 L] W fun e w' => e = .returned (.int .u64 ((L : Int) * 2)) ∧ W = w') := Lib.hid (fun W => by
            have := rptr_any (L : Int) W
            rwa [show clampP (L : Int) = L from by unfold clampP; rw [if_neg (by omega), if_neg (by omega)]] at this)
          clear own5 gr5 at5 h0 h2 hfz
          go_wp2_with fail
          refine (P0.out _).mono ?_; rintro e w6 ⟨rfl, rfl⟩
          go_wp2
          go_ret2
          refine ⟨by rw [HE.out.1, HE.out.2.1, ← HL.out]; rfl, ?_, Lib.hid (.inr FF.out)⟩
          rw [HE.out.2.2]; exact FIN
end Go.Proofs.Ytknpgmbniohcnaa
