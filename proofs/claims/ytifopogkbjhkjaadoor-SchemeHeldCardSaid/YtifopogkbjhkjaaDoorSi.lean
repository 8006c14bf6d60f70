import Derived.Test.YtifopogkbjhkjaaDoorSh
namespace Go.Proofs.YtifopogkbjhkjaaDoor
open DR
open Go.ChangeShapes Go.WideShapes Go.ChangeAt Go.RowKit Go.WideMaps
set_option linter.unusedVariables false
set_option linter.unusedSimpArgs false
/-- a closed type: so many variables, and a copy of the type. -/
def ClPost (w : World) (T : TT) (m : Nat) (e : Ending) (w' : World) : Prop := ∃ Al ca A c, e = .returned (scv Al m ca T A c) ∧ TRow w' (w.heap.size ≤ ·) A T.args ∧ Below w.heap.size w w'
set_option maxRecDepth 100000 in
set_option maxHeartbeats 8000000 in
/-- Close, with no env. -/
theorem close0 {V : TT} {v : Value} {sb : Nat} {n : Int} {w : World} (hbg : bigT 7 V = false) (hg : goodT V = true) (hs : SubE w sb n) (h : TIn w any0 V v) :
    Calls Tryd.prog 14 #[.pointer (some ⟨sb, 0, none⟩), v, .slice none 0 0] w (ClPost w V (varsOf V).length) := by
  obtain ⟨i0, hi0, hz0, hz1, hz2⟩ := info_parts infoI
  have hsh : shp V = true := by have q := hg; unfold goodT at q; rw [Bool.and_eq_true] at q; exact q.2
  have HRG := Lib.hid (vars_in V [] hsh (fun _ h => by cases h))
  have hvf : (varsOf V).length ≤ 99 := by have := vars_few 6 V [] hbg hsh; unfold varsOf; simp at this; omega
  have hin := h
  obtain ⟨A, c, rfl, -⟩ := h
  have CG := Lib.hid (fun W (hW : Below w.heap.size w W) => good_any (Nat.le_refl 7) hbg (hin.later hW))
  have CA := Lib.hid (fun W (hW : Below w.heap.size w W) => apply_any (Nat.le_refl 7) hbg hg (hs.below hW) (hin.later hW))
  have CV := Lib.hid (fun W A' c' (h : TRow W any0 A' V.args) => vars_any (Nat.le_refl 7) hbg hsh (⟨A', c', rfl, h⟩ : TIn W any0 V (tv V A' c')))
  rw [hg] at CG
  have hmm := @run_makeMap Tryd.prog
  obtain ⟨vs, hvs⟩ : ∃ vs, vs = varsOf V := ⟨_, rfl⟩
  have HRG : Hid (∀ x ∈ vs, 0 ≤ x ∧ x ≤ 1999) := Lib.hid (by rw [hvs]; exact HRG.out)
  rw [← hvs] at hvf CV ⊢
  unfold tv at CG CA CV ⊢
  obtain ⟨wB, hwB⟩ : ∃ z, z = (w.alloc (.cells #[.int .i64 V.k, .string V.nm, .int .i64 V.vr, .slice A V.args.length c] 24)).alloc (.cells #[.slice none 0 0, .int .i64 0, .string ⟨#[]⟩, .int .i64 0, .slice none 0 0] SchT) := ⟨_, rfl⟩
  have BX := two_box (w := w) (.cells #[.int .i64 V.k, .string V.nm, .int .i64 V.vr, .slice A V.args.length c] 24) (.cells #[.slice none 0 0, .int .i64 0, .string ⟨#[]⟩, .int .i64 0, .slice none 0 0] SchT)
  rw [← hwB] at BX
  have HB := Lib.hid (show Below w.heap.size w wB by rw [hwB]; exact bt (below_alloc w _) (below_alloc _ _))
  have HZ := Lib.hid (show wB.heap.size = w.heap.size + 2 by rw [hwB]; simp)
  have HX := Lib.hid BX
  obtain ⟨x0, x1, x2, x3⟩ := cell4 BX.1
  have HWB := Lib.hid hwB
  clear hbg hsh hg hs hin hwB BX hvs
  go_enter Tryd.func14, Tryd.ntmps14
  go_wp2_with fail
  rw [← HWB.out]
  try go_wp2_with fail
  refine (CG.out _ HB.out).mono ?_; rintro e w1 ⟨rfl, b1⟩
  obtain ⟨w2, hw2⟩ : ∃ z, z = w1.alloc (.map #[] 0) := ⟨_, rfl⟩
  have b2 : Below wB.heap.size wB w2 := by rw [hw2]; exact bt b1 (below_alloc w1 _)
  have HM := Lib.hid (show MN w2 w1.heap.size 0 (fun _ => none) by rw [hw2]; exact mn_made w1)
  have B2 := Lib.hid (bt HB.out b2)
  have T2 := Lib.hid ((b2.block w.heap.size (by have := HZ.out; omega)).trans HX.out.1)
  have R2 := Lib.hid ((b2.block (w.heap.size + 1) (by have := HZ.out; omega)).trans HX.out.2)
  have QM := Lib.hid (show w.heap.size + 2 ≤ w1.heap.size by have := b1.size; have := HZ.out; omega)
  obtain ⟨M, hM⟩ : ∃ M, M = w1.heap.size := ⟨_, rfl⟩
  have HW2 := Lib.hid hw2
  clear b1 b2 hw2 x0 x1 x2 x3 CG
  go_wp2
  rw [← HW2.out]
  rw [← hM] at HM QM ⊢
  clear hM HW2 hmm
  go_loopw [23] (fun i wr => i = .int .i64 0 ∧ wr = w2) (fun _ _ => 0)
  case atStart => exact ⟨rfl, rfl⟩
  case round =>
    obtain ⟨rfl, rfl⟩ := hrel
    obtain ⟨z0, z1, z2, z3⟩ := cell4 T2.out
    go_wp2_with fail
    refine (CA.out _ B2.out).mono ?_; rintro e w3 ⟨A3, c3, rfl, r3, b3⟩
    obtain ⟨w4, hw4⟩ : ∃ z, z = w3.alloc (.cells #[.slice none 0 0, .int .i64 V.k, .string V.nm, .int .i64 V.vr, .slice A3 V.args.length c3] SchT) := ⟨_, rfl⟩
    have hB4 : Below w3.heap.size w3 w4 := by rw [hw4]; exact below_alloc _ _
    have B4 := Lib.hid (bt b3 hB4)
    have HC4 := Lib.hid (show w4.heap[w3.heap.size]? = some (.cells #[.slice none 0 0, .int .i64 V.k, .string V.nm, .int .i64 V.vr, .slice A3 V.args.length c3] SchT (0, 0)) by rw [hw4]; exact heap_alloc_new w3 _)
    have R4 := Lib.hid (r3.later hB4)
    have R4' := Lib.hid (r3.move (P' := fun b => wr.heap.size ≤ b ∧ b < w3.heap.size) (fun b hb hp => ⟨rfl, hp, hb⟩) (Nat.le_refl _))
    have Q34 := Lib.hid (show wr.heap.size ≤ w3.heap.size ∧ w3.heap.size < w4.heap.size from ⟨b3.size, by rw [hw4]; simp⟩)
    have HW4 := Lib.hid hw4
    have HVV := Lib.hid (CV.out w4 A3 c3 (R4.out.weak (fun _ _ _ => trivial)))
    clear b3 r3 hw4 hB4 CA CV z0 z1 z2 z3
    obtain ⟨bc, hbc⟩ : ∃ b, b = w3.heap.size := ⟨_, rfl⟩
    unfold tv
    go_wp2_with fail
    rw [← HW4.out, ← hbc]
    rw [← hbc] at HC4 Q34 R4'
    refine HVV.out.mono ?_; rintro e w5 ⟨A5, c5, rfl, o5, b5⟩
    have O5 := Lib.hid o5.out
    have HC5 := Lib.hid ((b5.out.block bc Q34.out.2).trans HC4.out)
    have Q5 := Lib.hid (show wr.heap.size ≤ bc ∧ bc < w4.heap.size ∧ w4.heap.size ≤ w5.heap.size from ⟨Q34.out.1, Q34.out.2, b5.out.size⟩)
    have BB5 := Lib.hid (show Below wr.heap.size wr w5 from bt B4.out b5.out)
    have QW := Lib.hid (show w.heap.size + 2 ≤ wr.heap.size by have := QM.out; have := HM.out.lt; omega)
    have M5 := Lib.hid (HM.out.below BB5.out)
    have T5 := Lib.hid (show TRow w5 (fun b => wr.heap.size ≤ b ∧ b < bc) A3 V.args from R4'.out.move (fun b hb hp => ⟨((show Below w3.heap.size w3 w5 from (by rw [HW4.out] at b5; exact bt (below_alloc _ _) b5.out)).block b hb), hp⟩) (by have := Q5.out; rw [hbc] at this; omega))
    have QB := Lib.hid (show w.heap.size + 2 ≤ bc ∧ M < bc ∧ bc < w5.heap.size by have := QW.out; have := Q5.out; have := HM.out.lt; omega)
    have T5 := Lib.hid (T5.out.weak (P' := fun b => w.heap.size + 2 ≤ b ∧ b < bc) (fun b _ hp => ⟨Nat.le_trans QW.out hp.1, hp.2⟩))
    have R5 := Lib.hid ((BB5.out.block (w.heap.size + 1) (by have := QW.out; omega)).trans R2.out)
    have BW5 := Lib.hid (bt B2.out BB5.out)
    obtain ⟨N, hN⟩ : ∃ N, N = vs.length := ⟨_, rfl⟩
    rw [← hN] at hvf O5 ⊢
    have HN := Lib.hid hN
    clear o5 b5 HVV hN hbc
    obtain ⟨⟨z0, z1, z2, z3, z4⟩, -⟩ := five_cells HC5.out
    go_wp2
    clear z0 z1 z2 z3 z4
    go_loopw [54] (fun i wr => ∃ (k : Nat) (Al : Option Addr) (ca : Nat), k ≤ N ∧ i = .int .i64 k ∧ Hid (wr.heap[bc]? = some (.cells #[.slice Al k ca, .int .i64 V.k, .string V.nm, .int .i64 V.vr, .slice A3 V.args.length c3] SchT (0, 0))) ∧ Hid (wr.ownsRow w5.heap.size TI 1 (.slice Al k ca) k (ivs (vs.take k))) ∧ Hid (Frm w5 wr (· = bc))) (fun i _ => N - (intOf i).toNat)
    case atStart => exact ⟨0, none, 0, by omega, by first | rfl | trivial, HC5, Lib.hid (World.ownsRow_nil _ _ _ _), Lib.hid (Frm.refl _ _)⟩
    case round =>
      obtain ⟨k, Al, ca, hk, rfl, HC, HO, FM⟩ := hrel
      have hBo := FM.out.size
      have hnb : ∀ q, (Value.slice Al k ca).ownBlock = some q → q ≠ bc := fun q hq e => by
        have := (HO.out.lt q hq).1
        have := QB.out
        omega
      by_cases hlt : k < N
      · have hlti : (k : Int) < (N : Int) := by omega
        have hlt' : k < vs.length := by rw [← HN.out]; exact hlt
        have OV := own_frm O5.out FM.out (fun q hq e => by have := (O5.out.lt q hq).1; have := Q5.out; have : q = bc := e; omega)
        obtain ⟨b, o, rfl, hb, hr⟩ : ∃ b o, A5 = some ⟨b, o, none⟩ ∧ b < wr.heap.size ∧ ∀ j (h : j < vs.length), wr.cell? ⟨b, o + j, none⟩ = some (.int .i64 vs[j]) := (own_irow OV HN.out).resolve_left (by rw [← HN.out]; omega)
        have x0 := hr k hlt'
        have hrange := HRG.out _ (List.getElem_mem hlt')
        have HT := Lib.hid (ivs_take hlt')
        obtain ⟨x, hx⟩ : ∃ x, x = vs[k] := ⟨_, rfl⟩
        rw [← hx] at x0 hrange HT
        have MW : MN wr M 0 (fun _ => none) := M5.out.frm FM.out (by show ¬ M = bc; have := QB.out; omega)
        obtain ⟨D, hown, hD, hhas, hat⟩ := MW
        have hkey := Maps.keyOf_int_mk (P := Tryd.prog) Tryd.underlying3 (wf_int (show -9223372036854775808 ≤ x by omega) (by omega))
        have hh : Maps.has D (.int .i64 x) = false := hhas x
        have CL0 : Hid (∀ cc : Int, D.atKey (.int .i64 x) (.lit (.int .i64 0)) = .lit (.int .i64 cc) → cc = 0) := Lib.hid (fun cc hcc => by
          rw [Maps.atKey_of_not_has hh] at hcc
          injection hcc with hcc; injection hcc with _ hcc; exact hcc.symm)
        have z0 := (five_cells HC.out).1.1
        have HNB := Lib.hid hnb
        have hcl : (wr.alloc (.cells #[.int .i64 x] TI)).heap[bc]? = some (.cells #[.slice Al k ca, .int .i64 V.k, .string V.nm, .int .i64 V.vr, .slice A3 V.args.length c3] SchT (0, 0)) := by
          rw [Below.heap_alloc wr _ _ (Array.getElem?_eq_some_iff.1 HC.out).1]; exact HC.out
        have HCL := Lib.hid hcl
        have z1 := (five_cells hcl).1.1
        clear hr hb hx hD hhas hat hcl hnb OV
        go_wp2_with (first
          | (at_lookup; refine wpList_lookup_own_int _ rfl _ _ 52 rfl TI TI .i64 law3 Tryd.underlying52 Tryd.underlying3 (zero3 _) M 0 D rfl hown _ _ rfl hkey ?_; intro cL hatc hwc; obtain rfl := CL0.out cL hatc; clear hatc hwc CL0)
          | (at_builtin; refine wpList_append_lies _ rfl (.tmp 63) (.tmp 65) 32 rfl w5.heap.size TI i0 (.int .i64 0) 1 8 Tryd.underlying32 hi0 hz0 hz1 hz2 rfl (by decide) (.slice Al k ca) k (ivs (vs.take k)) rfl (HO.out.alloc _) ⟨wr.heap.size, 0, none⟩ 1 1 [.int .i64 x] rfl rfl (World.news_of_block (cs := #[.int .i64 x]) (t := TI) (fr := (0, 0)) (heap_alloc_new _ _)) (by simp [Value.oneCell']) (by omega) (by unfold maxLen; omega) (by omega) (by simp; omega) (wr.heap.size + 1) (by simp) ?_; intro g cap w7 own7 gr7 at7 hlt7; have h7 : w7.heap[bc]? = some (.cells #[.slice Al k ca, .int .i64 V.k, .string V.nm, .int .i64 V.vr, .slice A3 V.args.length c3] SchT (0, 0)) := ((gr7.block bc (by simp; have := (Array.getElem?_eq_some_iff.1 HC.out).1; omega) (fun e => HNB.out bc e.symm rfl)).trans HCL.out); have z7 := (five_cells h7).1.1; have f7 := (five_cells h7).2.1)
          | fail)
        have hgne : (Value.slice (some ⟨g, 0, none⟩) (k + 1) cap).ownBlock ≠ some bc := fun e => by
          obtain ⟨cur, hc⟩ := own_type own7 e
          rw [h7] at hc; injection hc with hc; injection hc with _ hc; cases hc
        have fs : Frm w7 (w7.setCell ⟨bc, 0, none⟩ (.slice (some ⟨g, 0, none⟩) (k + 1) cap)) (· = bc) := frm_set 0 _ rfl
        have HC8 : Hid ((w7.setCell ⟨bc, 0, none⟩ (.slice (some ⟨g, 0, none⟩) (k + 1) cap)).heap[bc]? = some (.cells #[.slice (some ⟨g, 0, none⟩) (k + 1) cap, .int .i64 V.k, .string V.nm, .int .i64 V.vr, .slice A3 V.args.length c3] SchT (0, 0))) := Lib.hid (by simp [World.setCell, Array.getElem?_modify, h7])
        have HO8 : Hid ((w7.setCell ⟨bc, 0, none⟩ (.slice (some ⟨g, 0, none⟩) (k + 1) cap)).ownsRow w5.heap.size TI 1 (.slice (some ⟨g, 0, none⟩) (k + 1) cap) (k + 1) (ivs (vs.take (k + 1)))) := Lib.hid (by rw [HT.out]; exact own_frm own7 fs (fun q hq e => hgne (e ▸ hq)))
        have FM8 : Hid (Frm w5 (w7.setCell ⟨bc, 0, none⟩ (.slice (some ⟨g, 0, none⟩) (k + 1) cap)) (· = bc)) := Lib.hid (((FM.out.trans (Frm.of_below (below_alloc wr _) (Nat.le_refl _) _)).trans' (Frm.of_grown (R := fun q => (Value.slice Al k ca).ownBlock = some q) gr7 (fun q h => h)) (fun q hq h => by have := (HO.out.lt q h).1; omega)).trans fs)
        go_roundw
        case rel => exact ⟨k + 1, _, _, by omega, by go_num, HC8, HO8, FM8⟩
        case measure => simp [intOf]; omega
      · obtain rfl : k = N := by omega
        have hge : ¬ (k : Int) < (k : Int) := by omega
        have z0 := (five_cells HC.out).1.1
        have HO' : wr.ownsRow w5.heap.size TI 1 (.slice Al k ca) k (ivs vs) := by
          have e9 : vs.take k = vs := by rw [HN.out]; exact List.take_length
          have h9 := HO.out
          rw [e9] at h9; exact h9
        have SO := Lib.hid (sort_any (w := wr) (by rw [← HN.out]; omega) HO')
        have HNB := Lib.hid hnb
        have LT := Lib.hid (fun q hq => (HO.out.lt q hq).1)
        clear HO' hnb
        go_wp2_with fail
        refine SO.out.mono ?_; rintro e w9 ⟨rfl, gr9, ts, hts, own9⟩
        have h9 : w9.heap[bc]? = some (.cells #[.slice Al k ca, .int .i64 V.k, .string V.nm, .int .i64 V.vr, .slice A3 V.args.length c3] SchT (0, 0)) := (gr9.block bc (Array.getElem?_eq_some_iff.1 HC.out).1 (fun e => HNB.out bc e.symm rfl)).trans HC.out
        have hr9 : w9.heap[w.heap.size + 1]? = some (.cells #[.slice none 0 0, .int .i64 0, .string ⟨#[]⟩, .int .i64 0, .slice none 0 0] SchT (0, 0)) := by
          have q1 := QB.out
          rw [gr9.block _ (by omega) (fun e => by have := LT.out _ e.symm; omega), FM.out.block _ (by omega) (by show ¬ w.heap.size + 1 = bc; omega)]
          exact R5.out
        have B9 : Below w.heap.size w w9 := (BW5.out.trans (FM.out.below (fun q hq => by have := QB.out; have : q = bc := hq; omega) (by have := QB.out; omega))).grown gr9 (by have := QB.out; omega) (fun q hq => by have := LT.out q hq; have := QB.out; omega)
        have T9 : TRow w9 (fun b => w.heap.size + 2 ≤ b ∧ b < bc) A3 V.args := T5.out.move (fun b hb hp => ⟨(gr9.block b (by omega) (fun e => by have := LT.out _ e.symm; omega)).trans (FM.out.block b hb (by show ¬ b = bc; omega)), hp⟩) (Nat.le_trans hBo gr9.size)
        obtain ⟨⟨a0, a1, a2, a3, a4⟩, -⟩ := five_cells h9
        obtain ⟨⟨y0, y1, y2, y3, y4⟩, k0, k1, k2, k3, k4⟩ := five_cells hr9
        obtain ⟨t0, t1, t2, t3, t4⟩ := set5_cells (.slice Al k ca) (.int .i64 V.k) (.string V.nm) (.int .i64 V.vr) (.slice A3 V.args.length c3) hr9
        have M1 := Lib.hid (set5_below (.slice Al k ca) (.int .i64 V.k) (.string V.nm) (.int .i64 V.vr) (.slice A3 V.args.length c3) B9 (Nat.le_succ w.heap.size))
        have M2 := Lib.hid (T9.move (w' := set5 w9 (w.heap.size + 1) (.slice Al k ca) (.int .i64 V.k) (.string V.nm) (.int .i64 V.vr) (.slice A3 V.args.length c3)) (P' := (w.heap.size ≤ ·)) (fun b _ hp => ⟨set5_keep w9 (w.heap.size + 1) _ _ _ _ _ b (by omega), by omega⟩) (by rw [set5_size]; exact Nat.le_refl _))
        clear gr9 own9 h9 hr9 B9 T9 SO z0 hts
        go_wp2
        (try simp only [Exit.inBlock, Exit.then])
        refine bodyPost_ret (by simp [results, Tryd.results14, go_sem, t0, t1, t2, t3, t4]; try rfl) rfl ?_
        exact ⟨Al, ca, A3, c3, by rw [← HN.out]; rfl, M2.out, M1.out⟩
end Go.Proofs.YtifopogkbjhkjaaDoor
