import Derived.Test.YtaidlcnfkdaijaaCh
namespace Go.Proofs.Ytaidlcnfkdaijaa
open Go.ChangeShapes Go.WideShapes Go.ChangeAt Go.RowKit
set_option linter.unusedVariables false
theorem sl_own {w : World} {B m d : Nat} {A : Option Addr} {xs : List Nat} (own : w.ownsRow B 5 1 (.slice A m d) m (bys xs)) : Sl w A m d xs := by
  obtain ⟨A', c', e, s⟩ := Sl.of_own own
  injection e with e1 e2 e3
  subst e1 e2 e3
  exact s
theorem st_len {L : Nat → List Nat} {n : Nat} (h : ∀ j, j < n → (L j).length ≤ 200) (i : Nat) (hi : i ≤ n) : (st L i).length ≤ 200 := by
  cases i with
  | zero => simp [st]
  | succ j => exact h j (by omega)
theorem Pk.readT {w : World} {B i k j g cap : Nat} {vb : Value} {et eb : List Value} {R S : Nat → List Nat → Prop} (p : Pk w B (.slice (some ⟨g, 0, none⟩) i cap) vb i k et eb R S) (hj : j < i) :
    ∃ A m d xs, w.cell? ⟨g, j, none⟩ = some (.slice A m d) ∧ Sl w A m d xs ∧ R j xs := by
  have hl := own22_len p.rt
  obtain ⟨v, hv⟩ : ∃ v, et[j]? = some v := ⟨et[j], List.getElem?_eq_getElem (by omega)⟩
  obtain ⟨A, m, d, xs, rfl, own, r⟩ := p.pt j v hv
  exact ⟨A, m, d, xs, by rw [p.rt.cellAt j (by omega), hv], sl_own own, r⟩
set_option maxRecDepth 100000 in
set_option maxHeartbeats 8000000 in
theorem chain_mid {w : World} {n c h o : Nat} {L : Nat → List Nat} (hn0 : 0 < n) (hn : n ≤ 10) (hcap : n ≤ c) (hlt : h < w.heap.size)
    (hcell : ∀ j, j < n → ∃ A m d, w.cell? ⟨h, o + j, none⟩ = some (.slice A m d) ∧ Sl w A m d (L j)) (hby : ∀ i k, (st L i).getD k 0 < 256) :
    Calls Try.prog 5 #[.slice (some ⟨h, o, none⟩) n c] w fun e w' => e = .returned (.bool true) ∧ Below w.heap.size w w' := by
  have hn' : ¬ (10 : Int) < (n : Int) := by omega
  have HC := Lib.hid hcell; have HB := Lib.hid hby
  clear hcell hby
  obtain ⟨i0, hi0, hz0, hz1, hz2⟩ := info_parts info22
  go_enter Try.func5, Try.ntmps5
  go_wp2_with fail
  refine (awake _).mono ?_; rintro e w1 ⟨rfl, hb1⟩
  have B1 := Lib.hid hb1; clear hb1
  go_wp2
  go_loopw [3, 4, 5, 6] (fun nw t b ix wr => ∃ (i : Nat) (A : Option Addr) (m d : Nat) (et eb : List Value) (vt vb : Value), vt = t ∧ vb = b ∧ nw = .slice A m d ∧ ix = .int .i64 i ∧ i ≤ n ∧ m ≤ 200 ∧ Hid (Sl w A m d (st L i)) ∧ Hid (Below w.heap.size w wr) ∧ Hid (Pk wr w.heap.size vt vb i i et eb (RT L) (RB L)) ∧ Hid (∀ j, j < i → (L j).length ≤ 200)) (fun _ _ _ ix _ => n - (intOf ix).toNat)
  case atStart => exact ⟨0, none, 0, 0, [], [], _, _, rfl, rfl, rfl, rfl, by omega, by omega, Lib.hid ⟨rfl, Nat.le_refl _, fun h => absurd h (by omega)⟩, B1, Lib.hid (Pk.start _ _ _ _), Lib.hid (fun j hj => absurd hj (by omega))⟩
  case round =>
    obtain ⟨i, A, m, d, et, eb, vt, vb, rfl, rfl, rfl, rfl, hi, hm, sl, hb, pk, hlen⟩ := hrel
    by_cases hil : i < n
    · obtain ⟨Ai, ni, ci, hci, sli⟩ := HC.out i hil
      have x : wr.cell? ⟨h, o + i, none⟩ = some (.slice Ai ni ci) := by rw [hb.out.cell (p := ⟨h, o + i, none⟩) hlt]; exact hci
      have SLI := Lib.hid sli
      have hil' : (i : Int) < (n : Int) := by omega
      by_cases hbig : 200 < ni
      · have hbig' : (200 : Int) < (ni : Int) := by omega
        go_wp2
        go_ret
        exact ⟨rfl, hb.out⟩
      · have hbig' : ¬ (200 : Int) < (ni : Int) := by omega
        have hni : ni ≤ 200 := by omega
        have DT : Hid (∀ W, Below w.heap.size w W → Calls Try.prog 13 #[.slice A m d, .slice Ai ni ci] W fun e w' => ∃ P k d' xs, e = .returned (.slice P k d') ∧ Hid (w'.ownsRow W.heap.size 5 1 (.slice P k d') k (bys xs)) ∧ Hid (RT L i xs) ∧ Hid (Below W.heap.size W w')) := Lib.hid (fun W hW => diff_own (sl.out.below hW) (SLI.out.below hW) hm hni (HB.out i) (HB.out (i + 1)))
        have DK : Hid (∀ W, Below w.heap.size w W → Calls Try.prog 13 #[.slice Ai ni ci, .slice A m d] W fun e w' => ∃ P k d' xs, e = .returned (.slice P k d') ∧ Hid (w'.ownsRow W.heap.size 5 1 (.slice P k d') k (bys xs)) ∧ Hid (RB L i xs) ∧ Hid (Below W.heap.size W w')) := Lib.hid (fun W hW => diff_own (SLI.out.below hW) (sl.out.below hW) hni hm (HB.out (i + 1)) (HB.out i))
        go_wp2_with fail
        have BD := Lib.hid (below_drew' hb.out)
        have PKD := Lib.hid (show Pk wr.drew w.heap.size vt vb i i et eb (RT L) (RB L) from ⟨pk.out.rt, pk.out.rb, pk.out.ne, pk.out.pt, pk.out.pb⟩)
        have BSZ := Lib.hid hb.out.size
        have i0' : (0 : Int) ≤ (i : Int) := Int.natCast_nonneg _
        go_region_held3 (fun w' => w'.cell? ⟨h, o + i, none⟩ = some (.slice Ai ni ci)) (go_keep)
          (first
            | (have z := B4.out
               refine step_append_lies _ (by rfl) (.tmp 39) (.tmp 46) _ (by rfl) w.heap.size 22 i0 (.slice none 0 0) 1 24 Try.underlying31 hi0 hz0 hz1 hz2 rfl (by decide) vb i eb (by rfl) (PK4.out.rb.alloc _) ⟨w4.heap.size, 0, none⟩ 1 1 [.slice P4 k4 d4] (by rfl) (by rfl) (World.news_of_block (cs := #[.slice P4 k4 d4]) (t := 22) (fr := (0, 0)) (heap_alloc_new w4 _)) (by simp [Value.oneCell']) (by omega) (by unfold maxLen; omega) (by omega) (Nat.le_trans B4.out.size (by simp)) (w4.heap.size + 1) (by simp) ?_
               intro g5 cap5 w5 ow5 gr5 at5 lt5
               have x5 : w5.cell? ⟨h, o + i, none⟩ = some (.slice Ai ni ci) := by rw [(B4.out.trans (PK4.out.swap.grows B4.out.size gr5)).cell (p := ⟨h, o + i, none⟩) hlt]; exact hci)
            | (have z := B3.out
               go_at_call 13
               refine (DK.out _ B3.out).mono ?_
               rintro e w4 ⟨P4, k4, d4, xs4, rfl, ow4, mk4, hb4⟩
               have B4 := Lib.hid (bt B3.out hb4.out)
               have PK4 := Lib.hid (PK3.out.below hb4.out)
               have x4 : w4.cell? ⟨h, o + i, none⟩ = some (.slice Ai ni ci) := by rw [B4.out.cell (p := ⟨h, o + i, none⟩) hlt]; exact hci)
            | (have z := B2.out
               refine step_append_lies _ (by rfl) (.tmp 30) (.tmp 37) _ (by rfl) w.heap.size 22 i0 (.slice none 0 0) 1 24 Try.underlying31 hi0 hz0 hz1 hz2 rfl (by decide) vt i et (by rfl) (PK2.out.rt.alloc _) ⟨w2.heap.size, 0, none⟩ 1 1 [.slice P2 k2 d2] (by rfl) (by rfl) (World.news_of_block (cs := #[.slice P2 k2 d2]) (t := 22) (fr := (0, 0)) (heap_alloc_new w2 _)) (by simp [Value.oneCell']) (by omega) (by unfold maxLen; omega) (by omega) (Nat.le_trans B2.out.size (by simp)) (w2.heap.size + 1) (by simp) ?_
               intro g3 cap3 w3 ow3 gr3 at3 lt3
               have PK3 := Lib.hid (PK2.out.addT (own_mono ow2.out BSZ.out) mk2.out ow3 gr3 at3)
               have B3 := Lib.hid (B2.out.trans (PK2.out.grows B2.out.size gr3))
               have x3 : w3.cell? ⟨h, o + i, none⟩ = some (.slice Ai ni ci) := by rw [B3.out.cell (p := ⟨h, o + i, none⟩) hlt]; exact hci)
            | (go_at_call 13
               refine (DT.out _ BD.out).mono ?_
               rintro e w2 ⟨P2, k2, d2, xs2, rfl, ow2, mk2, hb2⟩
               have B2 := Lib.hid (bt BD.out hb2.out)
               have PK2 := Lib.hid (PKD.out.below hb2.out)
               have x2 : w2.cell? ⟨h, o + i, none⟩ = some (.slice Ai ni ci) := by rw [B2.out.cell (p := ⟨h, o + i, none⟩) hlt]; exact hci))
        have PK5 := Lib.hid (PK4.out.swap.addT (own_mono ow4.out B3.out.size) mk4.out ow5 gr5 at5).swap
        have B5 := Lib.hid (B4.out.trans (PK4.out.swap.grows B4.out.size gr5))
        have LEN5 : Hid (∀ j, j < i + 1 → (L j).length ≤ 200) := Lib.hid (fun j hj => by
          rcases Nat.lt_or_ge j i with q | q
          · exact hlen.out j q
          · rw [show j = i by omega, SLI.out.1]; exact hni)
        clear gr3 at3 ow3 lt3 gr5 at5 ow5 lt5 x2 x3 x4
        go_wp2
        go_roundw
        case rel => exact ⟨i + 1, Ai, ni, ci, _, _, _, _, rfl, rfl, rfl, by go_num, hil, hni, SLI, B5, PK5, LEN5⟩
        case measure => simp [intOf]; omega
    · obtain rfl : i = n := by omega
      have hil' : ¬ (i : Int) < (i : Int) := by omega
      clear hil
      have hf1 := Go.Joins.ownsRow_form pk.out.rt hn0
      have hf2 := Go.Joins.ownsRow_form pk.out.rb hn0
      obtain ⟨gt, ct, rfl⟩ := hf1
      obtain ⟨gb, cb, rfl⟩ := hf2
      clear sl hm
      go_wp2
      go_loopw [3, 7] (fun nw ix wr => ∃ (k : Nat) (A : Option Addr) (m d : Nat), nw = .slice A m d ∧ ix = .int .i64 k ∧ k ≤ i ∧ Hid (Sl wr A m d (st L k)) ∧ Hid (Below w.heap.size w wr) ∧ Hid (Pk wr w.heap.size (.slice (some ⟨gt, 0, none⟩) i ct) (.slice (some ⟨gb, 0, none⟩) i cb) i i et eb (RT L) (RB L))) (fun _ ix _ => i - (intOf ix).toNat)
      case atStart => exact ⟨0, none, 0, 0, rfl, rfl, by omega, Lib.hid ⟨rfl, Nat.le_refl _, fun h => absurd h (by omega)⟩, hb, pk⟩
      case round =>
        clear hb pk
        obtain ⟨k, A, m, d, rfl, rfl, hk, sl, hb, pk⟩ := hrel
        by_cases hki : k < i
        · have hki' : (k : Int) < (i : Int) := by omega
          obtain ⟨Ap, mp, dp, xs, hcp, slp, hr⟩ := pk.out.readT hki
          have SLP := Lib.hid slp; have HR := Lib.hid hr
          obtain ⟨Ai, ni, ci, hci, sli⟩ := HC.out k hki
          have SLI := Lib.hid sli
          clear slp hr sli
          go_wp2_with fail
          refine (apply_new sl.out SLP.out (by rw [← sl.out.1]; have := st_len hlen.out k hk; omega) (by rw [← SLP.out.1]; have := HR.out.1; omega) HR.out.2).mono ?_
          rintro e w2 ⟨P, q, d', rfl, hq, sq, hb2⟩
          have B2 := Lib.hid (bt hb.out hb2)
          have PK2 := Lib.hid (pk.out.below hb2)
          have x : w2.cell? ⟨h, o + k, none⟩ = some (.slice Ai ni ci) := by rw [B2.out.cell (p := ⟨h, o + k, none⟩) hlt]; exact hci
          have cp := str_sl sq.out
          have cl := str_sl (SLI.out.below B2.out)
          have cpd : ∀ nq, (convert 22 9 (.slice P q d')).run Try.prog (w2.drewN nq) = .ok (.string (strB (st L (k + 1)))) (w2.drewN nq) := fun nq => str_sl (show Sl (w2.drewN nq) P q d' (st L (k + 1)) from sq.out)
          have cld : ∀ nq, (convert 22 9 (.slice Ai ni ci)).run Try.prog (w2.drewN nq) = .ok (.string (strB (L k))) (w2.drewN nq) := fun nq => str_sl (show Sl (w2.drewN nq) Ai ni ci (L k) from SLI.out.below (bt B2.out (below_drewN _ _)))
          have i0' : (0 : Int) ≤ (k : Int) := Int.natCast_nonneg _
          rw [show st L (k + 1) = L k from rfl] at cp cpd
          clear hb2 hcp
          go_wp2
          go_quiet (fail)
          go_wp2
          go_roundw
          case rel => exact ⟨k + 1, P, q, d', rfl, by go_num, hki, Lib.hid (sq.out), Lib.hid (bt B2.out (below_drewN _ _)), Lib.hid ⟨PK2.out.rt, PK2.out.rb, PK2.out.ne, PK2.out.pt, PK2.out.pb⟩⟩
          case measure => simp [intOf]; omega
        · obtain rfl : k = i := by omega
          have hki' : ¬ (k : Int) < (k : Int) := by omega
          clear hki
          obtain ⟨Z0, hZ0⟩ : ∃ Z0 : Int, (k : Int) - 1 = Z0 := ⟨_, rfl⟩
          have hZ01 : -1 ≤ Z0 := by omega
          have hZ02 : Z0 ≤ 10 := by omega
          have hlenk := hlen
          have hnil : (st L 0) = [] := rfl
          go_wp2
          go_loopw [3, 10] (fun nw ix wr => ∃ (j : Nat) (z : Int) (A : Option Addr) (m d : Nat), nw = .slice A m d ∧ ix = .int .i64 z ∧ z = (j : Int) - 1 ∧ j ≤ k ∧ Hid (Sl wr A m d (st L j)) ∧ Hid (Below w.heap.size w wr) ∧ Hid (Pk wr w.heap.size (.slice (some ⟨gt, 0, none⟩) k ct) (.slice (some ⟨gb, 0, none⟩) k cb) k k et eb (RT L) (RB L))) (fun _ ix _ => (intOf ix + 1).toNat)
          case atStart => exact ⟨k, Z0, A, m, d, rfl, rfl, hZ0.symm, Nat.le_refl _, sl, hb, pk⟩
          case round =>
            clear hb pk sl
            obtain ⟨j, z, A, m, d, rfl, rfl, hz, hj, sl, hb, pk⟩ := hrel
            cases j with
            | zero =>
              obtain rfl : z = -1 := by omega
              clear hz
              go_wp2
              go_ret
              exact ⟨rfl, hb.out⟩
            | succ p =>
              obtain rfl : z = (p : Int) := by omega
              have hpk : p < k := by omega
              clear hz
              have hpk' : (p : Int) < (k : Int) := by omega
              obtain ⟨Ap, mp, dp, xs, hcp, slp, hr⟩ := pk.out.swap.readT hpk
              have SLP := Lib.hid slp; have HR := Lib.hid hr
              clear slp hr
              go_wp2_with fail
              refine (apply_new sl.out SLP.out (by rw [← sl.out.1]; have := st_len hlenk.out (p + 1) hj; omega) (by rw [← SLP.out.1]; have := HR.out.1; omega) HR.out.2).mono ?_
              rintro e w2 ⟨P, q, d', rfl, hq, sq, hb2⟩
              have B2 := Lib.hid (bt hb.out hb2)
              have PK2 := Lib.hid (pk.out.below hb2)
              clear hb2 hcp
              rcases Nat.eq_zero_or_pos p with rfl | hpos
              ·
                obtain rfl : q = 0 := hq.out
                go_wp2
                go_quiet (fail)
                go_wp2
                go_roundw
                case rel => exact ⟨0, -1, P, 0, d', rfl, by go_num, by omega, by omega, Lib.hid sq.out, Lib.hid (bt B2.out (below_drewN _ _)), Lib.hid ⟨PK2.out.rt, PK2.out.rb, PK2.out.ne, PK2.out.pt, PK2.out.pb⟩⟩
                case measure => simp [intOf]
              · obtain ⟨y, hy⟩ : ∃ y : Nat, (p : Int) - 1 = y := ⟨p - 1, by omega⟩
                have ey : p = y + 1 := by omega
                have hyk : y < k := by omega
                have hyk' : (y : Int) < (k : Int) := by omega
                have hy0 : (0 : Int) ≤ (y : Int) := Int.natCast_nonneg _
                have hp1 : (0 : Int) < (p : Int) := by omega
                have hp2 : ((p : Int) == 0) = false := beq_eq_false_iff_ne.2 (by omega)
                have hp3 : decide ((0 : Int) < (p : Int)) = true := decide_eq_true hp1
                have hp4 : decide (0 < p) = true := decide_eq_true hpos
                have HJ : Hid (p ≤ k) := Lib.hid (by omega)
                obtain ⟨Ai, ni, ci, hci, sli⟩ := HC.out y hyk
                have SLI := Lib.hid sli
                have x : w2.cell? ⟨h, o + y, none⟩ = some (.slice Ai ni ci) := by rw [B2.out.cell (p := ⟨h, o + y, none⟩) hlt]; exact hci
                have esy : st L p = L y := by rw [ey]; rfl
                have cp := str_sl sq.out
                have cl := str_sl (SLI.out.below B2.out)
                have cpd : ∀ nq, (convert 22 9 (.slice P q d')).run Try.prog (w2.drewN nq) = .ok (.string (strB (st L p))) (w2.drewN nq) := fun nq => str_sl (show Sl (w2.drewN nq) P q d' (st L p) from sq.out)
                have cld : ∀ nq, (convert 22 9 (.slice Ai ni ci)).run Try.prog (w2.drewN nq) = .ok (.string (strB (L y))) (w2.drewN nq) := fun nq => str_sl (show Sl (w2.drewN nq) Ai ni ci (L y) from SLI.out.below (bt B2.out (below_drewN _ _)))
                rw [esy] at cp cpd
                clear sli hci ey esy hpos
                go_wp2
                go_quiet (fail)
                go_wp2
                go_roundw
                case rel => exact ⟨p, y, P, q, d', rfl, by go_num, by omega, HJ.out, Lib.hid sq.out, Lib.hid (bt B2.out (below_drewN _ _)), Lib.hid ⟨PK2.out.rt, PK2.out.rb, PK2.out.ne, PK2.out.pt, PK2.out.pb⟩⟩
                case measure => simp [intOf]; omega
end Go.Proofs.Ytaidlcnfkdaijaa
