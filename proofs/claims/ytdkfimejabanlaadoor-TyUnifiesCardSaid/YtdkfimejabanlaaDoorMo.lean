import Derived.Test.YtdkfimejabanlaaDoorMc
import Derived.Test.YtdkfimejabanlaaDoorRp
import Derived.Test.YtdkfimejabanlaaDoorSd
namespace Go.Proofs.YtdkfimejabanlaaDoor
open DR
open Go.ChangeShapes Go.WideShapes Go.ChangeAt Go.RowKit Go.WideMaps
set_option linter.unusedVariables false
set_option linter.unusedSimpArgs false
/-- a row that grows in a struct's field. -/
structure CpU (e : TypeId) (wB wr : World) (u : Nat) (v : Value) (k : Nat) (l : List TT) (xs : List Value) : Prop where
  frm : Frm wB wr (· = u)
  own : wr.ownsRow wB.heap.size e 4 v k xs
  kids : KidsT wr (fun b => wB.heap.size ≤ b ∧ v.ownBlock ≠ some b) l xs
  len : l.length = k
  ult : u < wB.heap.size
theorem cpu_step {e : TypeId} {wB wr w2 w4 : World} {u : Nat} {v v' : Value} {k c2 : Nat} {l : List TT} {xs : List Value} {T : TT} {A2 : Option Addr} (h : CpU e wB wr u v k l xs) (hb2 : Below wr.heap.size wr w2) (hr2 : TRow w2 (wr.heap.size ≤ ·) A2 T.args) (ob : Obj)
    (own4 : w4.ownsRow wB.heap.size e 4 v' (k + 1) (xs ++ kidT T A2 c2)) (gr4 : (w2.alloc ob).grownBy w4 v.ownBlock) (at4 : v'.ownBlock = v.ownBlock ∨ v'.ownBlock = some (w2.alloc ob).heap.size) :
    CpU e wB (w4.setCell ⟨u, 3, none⟩ v') u v' (k + 1) (l ++ [T]) (xs ++ kidT T A2 c2) := by
  have hv : ∀ b, v.ownBlock = some b → wB.heap.size ≤ b ∧ b < wr.heap.size := fun b hb => h.own.lt b hb
  have h1s := h.frm.size
  have h2s := hb2.size
  have h3s : (w2.alloc ob).heap.size = w2.heap.size + 1 := by simp
  have h4s := gr4.size
  have hu := h.ult
  have fs : Frm w4 (w4.setCell ⟨u, 3, none⟩ v') (· = u) := frm_set (R := (· = u)) 3 v' rfl
  have keep : ∀ b, b < w2.heap.size → v.ownBlock ≠ some b → b ≠ u → (w4.setCell ⟨u, 3, none⟩ v').heap[b]? = w2.heap[b]? := by
    intro b hb hne hbu
    rw [fs.block b (by omega) hbu, gr4.block b (by omega) (fun e => hne e.symm)]
    show (w2.heap.push ob)[b]? = _
    rw [Array.getElem?_push, if_neg (by omega)]
  have hv' : ∀ b, b < w2.heap.size → v.ownBlock ≠ some b → v'.ownBlock ≠ some b := fun b hb hne e => by
    rcases at4 with q | q
    · exact hne (q.symm.trans e)
    · rw [q] at e; injection e with e; omega
  have hsz := fs.size
  refine ⟨?_, own_frm own4 fs (fun q hq e => by have := (own4.lt q hq).1; have e2 : q = u := e; omega), KidsT.snoc ?_ ?_, by rw [List.length_append, h.len]; rfl, h.ult⟩
  · exact ((h.frm.trans (Frm.of_below (bt hb2 (below_alloc w2 ob)) (Nat.le_refl _) _)).trans' (Frm.of_grown (R := fun q => v.ownBlock = some q) gr4 (fun q h => h)) (fun q hq hb => by have := (hv q hb).1; omega)).trans fs
  · exact hr2.move (fun b hb hp => ⟨keep b hb (fun e => by have := hv b e; omega) (by omega), by omega, hv' b hb (fun e => by have := hv b e; omega)⟩) (by omega)
  · exact h.kids.move (fun b hb hp => ⟨(keep b (by omega) hp.2 (by omega)).trans (hb2.block b hb), hp.1, hv' b (by omega) hp.2⟩) (by omega)
theorem cpu_fin {e : TypeId} {wB wr : World} {u : Nat} {v : Value} {k : Nat} {l : List TT} {xs : List Value} (h : CpU e wB wr u v k l xs) : ∃ A c, v = .slice A k c ∧ TRow wr (wB.heap.size ≤ ·) A l := by
  rcases h.own.2 with ⟨q1, q2⟩ | ⟨g, cap, cur, q1, q2, q3, q4, q5, q6, q7⟩
  · refine ⟨none, 0, by rw [q1, q2], .inl (by rw [h.len, q2])⟩
  · refine ⟨_, _, q1, .inr ⟨g, 0, rfl, (Array.getElem?_eq_some_iff.1 q3).1, q2, ?_⟩⟩
    refine KidsT.row (h.kids.move (P' := (wB.heap.size ≤ ·)) (fun b _ hp => ⟨rfl, hp.1⟩) (Nat.le_refl _)) (fun j hj => ?_)
    rw [Nat.zero_add]
    have hown := h.own
    rw [q1] at hown
    exact (hown.cellAt j (by rw [← hown.1]; exact hj)).trans (List.getElem?_eq_getElem hj)
theorem ren_head {f : Int → Option Int} {g : Int → Int} (hf : ∀ x, f x = some (g x)) {V : TT} (h : shp V = true) : renT f V = .mk V.k V.nm (if V.k = 7 then g V.vr else V.vr) (V.args.map (renT f)) := by
  by_cases h7 : V.k = 7
  · obtain ⟨ha, hn⟩ := shp_var h h7
    rw [renT_var h7 (hf _), if_pos h7, h7, hn, ha]; rfl
  · rw [renT_not (fun e => h7 e.1), if_neg h7]
set_option maxRecDepth 100000 in
set_option maxHeartbeats 8000000 in
theorem moved_any (by9 : Int) (hb0 : 0 ≤ by9) (hb1 : by9 ≤ 500) : ∀ (d : Nat) (V : TT) (v : Value) (w : World), bigT d V = false → shp V = true → TIn w any0 V v → Calls Tryd.prog 32 #[v, .int .i64 by9] w (CpPost w (renT (fun x => some (x + by9)) V)) := by
  intro d
  induction d with
  | zero => intro V v w h; cases h
  | succ d ih =>
  intro V v w hbg hsh ⟨A, c, hv, hA⟩
  obtain ⟨i0, hi0, hz0, hz1, hz2⟩ := info_parts infoT
  obtain ⟨hl4, -, b3⟩ := bigT_parts hbg
  have hs2 := hsh
  rw [shp_eq, Bool.and_eq_true] at hs2
  have hhd := head_var hs2.1
  have HSHL := Lib.hid ((shpL_all _).1 hs2.2)
  subst hv
  have HI := Lib.hid ih
  have HBG := Lib.hid b3
  have HRN := Lib.hid (ren_head (f := fun x => some (x + by9)) (g := fun x => x + by9) (fun x => rfl) hsh)
  obtain ⟨RF, hRF⟩ : ∃ RF, RF = renT (fun x => some (x + by9)) := ⟨_, rfl⟩
  rw [← hRF] at HRN HI ⊢
  have HRF := Lib.hid hRF
  unfold tv
  obtain ⟨args, ha⟩ : ∃ l, l = V.args := ⟨_, rfl⟩
  have HAR := Lib.hid ha
  rw [← ha] at hA HBG HSHL hl4 HRN ⊢
  have HA := Lib.hid hA
  clear ih hbg b3 ha hA hsh hs2 hRF
  by_cases h7 : V.k = 7
  · have q7 : (V.k == 7) = true := by rw [h7]; rfl
    have wq : IntKind.i64.wrap (V.vr + by9) = V.vr + by9 := IntWalk.i64_in _ (by omega)
    have HRN := Lib.hid (show RF V = .mk V.k V.nm (V.vr + by9) (args.map RF) by rw [HRN.out, if_pos h7])
    clear h7 hhd
    as_aux_lemma =>
    obtain ⟨wB, hwB⟩ : ∃ z, z = ((w.alloc (.cells #[.int .i64 V.k, .string V.nm, .int .i64 V.vr, .slice A args.length c] 27)).alloc (.cells #[.int .i64 0, .string ⟨#[]⟩, .int .i64 0, .slice none 0 0] 27)).alloc (.cells #[.int .i64 V.k, .string V.nm, .int .i64 (V.vr + by9), .slice none 0 0] 27) := ⟨_, rfl⟩
    have HB : Hid (Below w.heap.size w wB) := Lib.hid (by rw [hwB]; exact bt (below_alloc w _) (bt (below_alloc _ _) (below_alloc _ _)))
    have HZ := Lib.hid (show wB.heap.size = w.heap.size + 3 by rw [hwB]; simp)
    have BX := two_box (w := w) (.cells #[.int .i64 V.k, .string V.nm, .int .i64 V.vr, .slice A args.length c] 27) (.cells #[.int .i64 0, .string ⟨#[]⟩, .int .i64 0, .slice none 0 0] 27)
    have HT0 := Lib.hid (show wB.heap[w.heap.size]? = some (.cells #[.int .i64 V.k, .string V.nm, .int .i64 V.vr, .slice A args.length c] 27 (0, 0)) by rw [hwB]; exact ((below_alloc _ _).block w.heap.size (by simp; omega)).trans BX.1)
    have HR0 := Lib.hid (show wB.heap[w.heap.size + 1]? = some (.cells #[.int .i64 0, .string ⟨#[]⟩, .int .i64 0, .slice none 0 0] 27 (0, 0)) by rw [hwB]; exact ((below_alloc _ _).block (w.heap.size + 1) (by simp)).trans BX.2)
    have HU0 := Lib.hid (show wB.heap[w.heap.size + 2]? = some (.cells #[.int .i64 V.k, .string V.nm, .int .i64 (V.vr + by9), .slice none 0 0] 27 (0, 0)) by
      rw [hwB]
      have := heap_alloc_new (((w.alloc (.cells #[.int .i64 V.k, .string V.nm, .int .i64 V.vr, .slice A args.length c] 27)).alloc (.cells #[.int .i64 0, .string ⟨#[]⟩, .int .i64 0, .slice none 0 0] 27))) (.cells #[.int .i64 V.k, .string V.nm, .int .i64 (V.vr + by9), .slice none 0 0] 27)
      rw [show (((w.alloc (.cells #[.int .i64 V.k, .string V.nm, .int .i64 V.vr, .slice A args.length c] 27)).alloc (.cells #[.int .i64 0, .string ⟨#[]⟩, .int .i64 0, .slice none 0 0] 27))).heap.size = w.heap.size + 2 by simp] at this
      exact this)
    have HWB := Lib.hid hwB
    clear hwB BX
    go_enter Tryd.func32, Tryd.ntmps32
    go_wp2
    try rw [← HWB.out]
    go_loopw [6] (fun i wr => ∃ (k : Nat) (v : Value) (xs : List Value), k ≤ args.length ∧ i = .int .i64 k ∧ Hid (CpU 27 wB wr (w.heap.size + 2) v k ((args.take k).map RF) xs) ∧ Hid (wr.heap[w.heap.size + 2]? = some (.cells #[.int .i64 V.k, .string V.nm, .int .i64 (V.vr + by9), v] 27 (0, 0)))) (fun i _ => args.length - (intOf i).toNat)
    case atStart => exact ⟨0, .slice none 0 0, [], by omega, by first | rfl | trivial, Lib.hid (by rw [List.take_zero]; exact ⟨Frm.refl _ _, World.ownsRow_nil _ _ _ _, rfl, rfl, by rw [HZ.out]; omega⟩), HU0⟩
    case round =>
      obtain ⟨k, v, xs, hk, rfl, HS, HU⟩ := hrel
      obtain ⟨Ar, cr, rfl⟩ := vform HS.out.own
      have hz := HZ.out
      have hBr : Below w.heap.size w wr := HB.out.trans (HS.out.frm.below (fun q hq => by have : q = w.heap.size + 2 := hq; omega) (by omega))
      have HTB := Lib.hid ((HS.out.frm.block w.heap.size (by omega) (by show ¬ w.heap.size = w.heap.size + 2; omega)).trans HT0.out)
      have HRB := Lib.hid ((HS.out.frm.block (w.heap.size + 1) (by omega) (by show ¬ w.heap.size + 1 = w.heap.size + 2; omega)).trans HR0.out)
      have HSZ := Lib.hid (show w.heap.size + 3 ≤ wr.heap.size by have := HS.out.frm.size; omega)
      obtain ⟨e0, e1, e2, e3⟩ := cells4 HTB.out
      obtain ⟨d0, d1, d2, d3⟩ := cells4 HU.out
      by_cases hlt : k < args.length
      · have hlti : (k : Int) < (args.length : Int) := by omega
        obtain ⟨b, o, rfl, hb, hr⟩ := HA.out.at (by omega)
        obtain ⟨A', c', x0, x1, x2, x3, hin⟩ := hr wr hBr k hlt
        have hbl : b < wr.heap.size := Nat.lt_of_lt_of_le hb hBr.size
        have CALL := Lib.hid (fun W (hW : Below wr.heap.size wr W) => HI.out args[k] _ W (HBG.out _ (List.getElem_mem hlt)) (HSHL.out _ (List.getElem_mem hlt)) (hin.later hW))
        have HTK : Hid ((args.take (k + 1)).map RF = (args.take k).map RF ++ [RF args[k]]) := Lib.hid (by rw [List.take_succ_eq_append_getElem hlt, List.map_append]; rfl)
        obtain ⟨T, hT⟩ : ∃ T, T = RF args[k] := ⟨_, rfl⟩
        obtain ⟨E, hE⟩ : ∃ E, E = args[k] := ⟨_, rfl⟩
        rw [← hT] at CALL HTK
        rw [← hE] at x0 x1 x2 x3 CALL
        unfold tv at CALL
        clear hr hin hb HI hT hE
        go_wp2_with fail
        refine wp_region_D [10, 12] (fun w' => Below wr.heap.size wr w') (by kernel_rfl) (bdr wr) (fun hHeld => ?_)
        refine WDt 0 { dst := some 29, op := .fieldAddr 27 (.tmp 5) 3, type := 0, pos := _, after := #[], guard := none } (v := ?va0) rfl (by kernel_rfl) (fun _ _ _ h => h) (Or.inl ⟨by rfl, ?hya0⟩) hHeld ?_
        case hya0 => (intro wz hSw; (try dsimp only at hSw); go_simp; try with_reducible rfl)
        (try simp only [putz])
        refine WDt 1 { dst := some 30, op := .load 25 (.tmp 29), type := 25, pos := _, after := #[{ on := 0, ground := .data }], guard := none } (v := ?va1) rfl (by kernel_rfl) (fun _ _ _ h => h) (Or.inl ⟨by rfl, ?hya1⟩) hHeld ?_
        case hya1 => (intro wz hSw; (try dsimp only at hSw); have q0 := (hSw.cell (p := ⟨w.heap.size + 2, 3, none⟩) (by have := HSZ.out; show w.heap.size + 2 < _; omega)).trans d3; go_simp; try with_reducible rfl)
        (try simp only [putz])
        refine WDt 2 { dst := some 31, op := .fieldAddr 27 (.tmp 2) 3, type := 0, pos := _, after := #[], guard := none } (v := ?va2) rfl (by kernel_rfl) (fun _ _ _ h => h) (Or.inl ⟨by rfl, ?hya2⟩) hHeld ?_
        case hya2 => (intro wz hSw; (try dsimp only at hSw); go_simp; try with_reducible rfl)
        (try simp only [putz])
        refine WDt 3 { dst := some 32, op := .load 25 (.tmp 31), type := 25, pos := _, after := #[{ on := 2, ground := .data }], guard := none } (v := ?va3) rfl (by kernel_rfl) (fun _ _ _ h => h) (Or.inl ⟨by rfl, ?hya3⟩) hHeld ?_
        case hya3 => (intro wz hSw; (try dsimp only at hSw); have q0 := (hSw.cell (p := ⟨w.heap.size, 3, none⟩) (by have := HSZ.out; show w.heap.size < _; omega)).trans e3; go_simp; try with_reducible rfl)
        (try simp only [putz])
        refine WDt 4 { dst := some 33, op := .move (.tmp 6), type := 3, pos := _, after := #[], guard := none } (v := ?va4) rfl (by kernel_rfl) (fun _ _ _ h => h) (Or.inl ⟨by rfl, ?hya4⟩) hHeld ?_
        case hya4 => (intro wz hSw; (try dsimp only at hSw); go_simp; try with_reducible rfl)
        (try simp only [putz])
        refine WDt 5 { dst := some 34, op := .indexAddr 25 (.tmp 32) (.tmp 33), type := 0, pos := _, after := #[{ on := 3, ground := .data }, { on := 4, ground := .data }], guard := none } (v := ?va5) rfl (by kernel_rfl) (fun _ _ _ h => h) (Or.inl ⟨by rfl, ?hya5⟩) hHeld ?_
        case hya5 => (intro wz hSw; (try dsimp only at hSw); go_simp; try with_reducible rfl)
        (try simp only [putz])
        refine WDt 6 { dst := some 35, op := .load 27 (.tmp 34), type := 27, pos := _, after := #[{ on := 5, ground := .data }], guard := none } (v := ?va6) rfl (by kernel_rfl) (fun _ _ _ h => h) (Or.inl ⟨by rfl, ?hya6⟩) hHeld ?_
        case hya6 => (intro wz hSw; (try dsimp only at hSw); have q0 := (hSw.cell (p := ⟨b, _, none⟩) hbl).trans x0; have q1 := (hSw.cell (p := ⟨b, _, none⟩) hbl).trans x1; have q2 := (hSw.cell (p := ⟨b, _, none⟩) hbl).trans x2; have q3 := (hSw.cell (p := ⟨b, _, none⟩) hbl).trans x3; go_simp; try with_reducible rfl)
        (try simp only [putz])
        refine WDt 7 { dst := some 36, op := .move (.tmp 1), type := 3, pos := _, after := #[], guard := none } (v := ?va7) rfl (by kernel_rfl) (fun _ _ _ h => h) (Or.inl ⟨by rfl, ?hya7⟩) hHeld ?_
        case hya7 => (intro wz hSw; (try dsimp only at hSw); go_simp; try with_reducible rfl)
        (try simp only [putz])
        have hHs0 := hHeld.size
        refine WD_ready (rs := [8]) (by kernel_rfl) (by simp) ?_
        refine AllD.cons (o := _) rfl (fun K hK => ?_) AllD.nil
        rw [if_pos (by rfl)]
        go_simp
        refine (CALL.out _ hHeld).mono ?_; rintro e w2 ⟨A2, c2, rfl, hr2, hb2⟩
        unfold tv
        try go_wp2_with fail
        refine hK.out _ _ (bt hHeld hb2) (fun hHeld => ?_)
        clear hK K
        (try simp only [putz])
        have R2 := Lib.hid (hr2.weak (P' := (wr.heap.size ≤ ·)) (fun b _ h => Nat.le_trans hHs0 h))
        have B2 := Lib.hid hHeld
        clear hHeld hr2 hb2
        refine WD_ready (rs := [9]) (by kernel_rfl) (by simp) ?_
        refine AllD.cons (o := _) rfl (fun K hK => ?_) AllD.nil
        rw [if_pos (by rfl)]
        go_simp
        refine hK.out _ _ (bt B2.out (below_alloc w2 _)) (fun hHeld => ?_)
        clear hK K
        (try simp only [putz])
        clear hHeld
        obtain ⟨w3, hw3⟩ : ∃ z, z = w2.alloc (.cells #[.int .i64 T.k, .string T.nm, .int .i64 T.vr, .slice A2 T.args.length c2] 27) := ⟨_, rfl⟩
        rw [← hw3]
        have N3 : Hid (w3.heap[w2.heap.size]? = some (.cells #[.int .i64 T.k, .string T.nm, .int .i64 T.vr, .slice A2 T.args.length c2] 27 (0, 0))) := Lib.hid (by rw [hw3]; exact heap_alloc_new w2 _)
        have B3 := Lib.hid (show Below wr.heap.size wr w3 by rw [hw3]; exact bt B2.out (below_alloc w2 _))
        have O3 := Lib.hid (own_bl HS.out.own B3.out)
        have U3 := Lib.hid ((B3.out.block (w.heap.size + 2) (by have := HSZ.out; omega)).trans HU.out)
        have Q3 := Lib.hid (show wr.heap.size ≤ w2.heap.size ∧ w2.heap.size < w3.heap.size ∧ wB.heap.size ≤ wr.heap.size from ⟨B2.out.size, by rw [hw3]; simp, HS.out.frm.size⟩)
        have hq3 := Q3.out
        have HW3 := Lib.hid hw3
        clear hw3
        refine WD_ready (rs := [10]) (by kernel_rfl) (by simp) ?_
        refine AllD.last (o := _) rfl (by kernel_rfl) (fun K hK => ?_) AllD.nil
        refine step_append_lies _ (by rfl) (.tmp 30) (.tmp 38) 25 rfl wB.heap.size 27 i0 (.agg #[.int .i64 0, .string .empty, .int .i64 0, .slice none 0 0]) 4 56 Tryd.underlying25 hi0 hz0 hz1 hz2 rfl (by decide) (.slice Ar k cr) k xs rfl O3.out ⟨w2.heap.size, 0, none⟩ 1 1 (kidT T A2 c2) rfl rfl (World.news_of_block (cs := #[.int .i64 T.k, .string T.nm, .int .i64 T.vr, .slice A2 T.args.length c2]) (t := 27) (fr := (0, 0)) N3.out) (kid_one _ _ _) (by omega) (by unfold maxLen; omega) (by omega) (by omega) _ rfl ?_
        intro g cap w4 own4 gr4 at4 hlt4
        refine hK.out _ _ ?_
        clear hK K
        (try simp only [putz])
        have hub : (Value.slice Ar k cr).ownBlock ≠ some (w.heap.size + 2) := fun e => by have h1 := (O3.out.lt _ e).1; have h2 := HZ.out; omega
        have U4 := Lib.hid ((gr4.block (w.heap.size + 2) (Array.getElem?_eq_some_iff.1 U3.out).1 (fun e => hub e.symm)).trans U3.out)
        have ST5 := Lib.hid (show CpU 27 wB (w4.setCell ⟨w.heap.size + 2, 3, none⟩ (.slice (some ⟨g, 0, none⟩) (k + 1) cap)) (w.heap.size + 2) (.slice (some ⟨g, 0, none⟩) (k + 1) cap) (k + 1) ((args.take (k + 1)).map RF) (xs ++ kidT T A2 c2) by rw [HTK.out]; rw [HW3.out] at gr4 at4; exact cpu_step HS.out B2.out R2.out _ own4 gr4 (by rcases at4 with e | e; exact .inl e.symm; right; rw [e]; rfl))
        have HU5 := Lib.hid (set_last (.slice (some ⟨g, 0, none⟩) (k + 1) cap) U4.out)
        obtain ⟨u0, u1, u2, u3⟩ := cells4 U4.out
        obtain ⟨v0, v1, v2, v3⟩ := froz4 U4.out
        clear own4 gr4 at4 hlt4
        refine WD_takeAny (i := 11) (oi := { dst := some 40, op := .fieldAddr 27 (.tmp 5) 3, type := 0, pos := _, after := #[{ on := 0, ground := .phase }, { on := 1, ground := .phase }, { on := 2, ground := .phase }, { on := 3, ground := .phase }, { on := 4, ground := .phase }, { on := 5, ground := .phase }, { on := 6, ground := .phase }, { on := 7, ground := .phase }, { on := 8, ground := .phase }, { on := 9, ground := .phase }, { on := 10, ground := .phase }], guard := none }) (v := ?va11) rfl (by kernel_rfl) (by kernel_rfl) (by kernel_rfl) (by kernel_rfl) (fun _ _ _ h => h) (Or.inl ⟨by rfl, ?hya11⟩) ?_
        case hya11 => (intro wz _; go_simp; try with_reducible rfl)
        (try simp only [putz])
        refine WD_ready (rs := [12]) (by kernel_rfl) (by simp) ?_
        refine AllD.last (o := _) rfl (by kernel_rfl) (fun K hK => ?_) AllD.nil
        rw [if_pos (by rfl)]
        go_simp
        refine hK.out _ _ ?_
        clear hK K
        (try simp only [putz])
        refine WD_done (by kernel_rfl) ?_ _
        go_wp2
        go_roundw
        case rel => exact ⟨k + 1, _, _, by omega, by go_num, ST5, HU5⟩
        case measure => simp [intOf]; omega
      · obtain rfl : k = args.length := by omega
        have hge : ¬ (args.length : Int) < (args.length : Int) := by omega
        obtain ⟨A', c', hv, hrow⟩ := cpu_fin HS.out
        injection hv with hv1 _ hv2
        subst hv1 hv2
        rw [List.take_length] at hrow
        have HROW := Lib.hid hrow
        have hrb := HRB.out
        obtain ⟨y0, y1, y2, y3⟩ := cells4 hrb
        obtain ⟨k0, k1, k2, k3⟩ := froz4 hrb
        obtain ⟨t0, t1, t2, t3⟩ := cells4 (cells_all (.int .i64 V.k) (.string V.nm) (.int .i64 (V.vr + by9)) (.slice Ar args.length cr) hrb)
        have FR := Lib.hid (frm4 wr (w.heap.size + 1) (.int .i64 V.k) (.string V.nm) (.int .i64 (V.vr + by9)) (.slice Ar args.length cr))
        have HBW := Lib.hid hBr
        clear hrow hBr hrb
        go_wp2
        (try simp only [Exit.inBlock, Exit.then])
        refine bodyPost_ret (by simp [results, Tryd.results32, go_sem, t0, t1, t2, t3]; try rfl) rfl ?_
        exact ⟨Ar, cr, (by rw [HRN.out]; unfold tv; simp [TT.k, TT.nm, TT.vr, TT.args]), (show args.map RF = (RF V).args by rw [HRN.out]; rfl) ▸ HROW.out.move (fun b hb (hp : wB.heap.size ≤ b) => ⟨FR.out.block b hb (by show ¬ b = w.heap.size + 1; omega), by omega⟩) FR.out.size, HBW.out.trans (FR.out.below (fun q hq => by have : q = w.heap.size + 1 := hq; omega) (by have := HSZ.out; omega))⟩
  · have q7 : (V.k == 7) = false := beq_eq_false_iff_ne.2 h7
    have HRN := Lib.hid (show RF V = .mk V.k V.nm V.vr (args.map RF) by rw [HRN.out, if_neg h7])
    clear h7 hhd
    as_aux_lemma =>
    obtain ⟨wB, hwB⟩ : ∃ z, z = ((w.alloc (.cells #[.int .i64 V.k, .string V.nm, .int .i64 V.vr, .slice A args.length c] 27)).alloc (.cells #[.int .i64 0, .string ⟨#[]⟩, .int .i64 0, .slice none 0 0] 27)).alloc (.cells #[.int .i64 V.k, .string V.nm, .int .i64 V.vr, .slice none 0 0] 27) := ⟨_, rfl⟩
    have HB : Hid (Below w.heap.size w wB) := Lib.hid (by rw [hwB]; exact bt (below_alloc w _) (bt (below_alloc _ _) (below_alloc _ _)))
    have HZ := Lib.hid (show wB.heap.size = w.heap.size + 3 by rw [hwB]; simp)
    have BX := two_box (w := w) (.cells #[.int .i64 V.k, .string V.nm, .int .i64 V.vr, .slice A args.length c] 27) (.cells #[.int .i64 0, .string ⟨#[]⟩, .int .i64 0, .slice none 0 0] 27)
    have HT0 := Lib.hid (show wB.heap[w.heap.size]? = some (.cells #[.int .i64 V.k, .string V.nm, .int .i64 V.vr, .slice A args.length c] 27 (0, 0)) by rw [hwB]; exact ((below_alloc _ _).block w.heap.size (by simp; omega)).trans BX.1)
    have HR0 := Lib.hid (show wB.heap[w.heap.size + 1]? = some (.cells #[.int .i64 0, .string ⟨#[]⟩, .int .i64 0, .slice none 0 0] 27 (0, 0)) by rw [hwB]; exact ((below_alloc _ _).block (w.heap.size + 1) (by simp)).trans BX.2)
    have HU0 := Lib.hid (show wB.heap[w.heap.size + 2]? = some (.cells #[.int .i64 V.k, .string V.nm, .int .i64 V.vr, .slice none 0 0] 27 (0, 0)) by
      rw [hwB]
      have := heap_alloc_new (((w.alloc (.cells #[.int .i64 V.k, .string V.nm, .int .i64 V.vr, .slice A args.length c] 27)).alloc (.cells #[.int .i64 0, .string ⟨#[]⟩, .int .i64 0, .slice none 0 0] 27))) (.cells #[.int .i64 V.k, .string V.nm, .int .i64 V.vr, .slice none 0 0] 27)
      rw [show (((w.alloc (.cells #[.int .i64 V.k, .string V.nm, .int .i64 V.vr, .slice A args.length c] 27)).alloc (.cells #[.int .i64 0, .string ⟨#[]⟩, .int .i64 0, .slice none 0 0] 27))).heap.size = w.heap.size + 2 by simp] at this
      exact this)
    have HWB := Lib.hid hwB
    clear hwB BX
    go_enter Tryd.func32, Tryd.ntmps32
    go_wp2
    try rw [← HWB.out]
    go_loopw [6] (fun i wr => ∃ (k : Nat) (v : Value) (xs : List Value), k ≤ args.length ∧ i = .int .i64 k ∧ Hid (CpU 27 wB wr (w.heap.size + 2) v k ((args.take k).map RF) xs) ∧ Hid (wr.heap[w.heap.size + 2]? = some (.cells #[.int .i64 V.k, .string V.nm, .int .i64 V.vr, v] 27 (0, 0)))) (fun i _ => args.length - (intOf i).toNat)
    case atStart => exact ⟨0, .slice none 0 0, [], by omega, by first | rfl | trivial, Lib.hid (by rw [List.take_zero]; exact ⟨Frm.refl _ _, World.ownsRow_nil _ _ _ _, rfl, rfl, by rw [HZ.out]; omega⟩), HU0⟩
    case round =>
      obtain ⟨k, v, xs, hk, rfl, HS, HU⟩ := hrel
      obtain ⟨Ar, cr, rfl⟩ := vform HS.out.own
      have hz := HZ.out
      have hBr : Below w.heap.size w wr := HB.out.trans (HS.out.frm.below (fun q hq => by have : q = w.heap.size + 2 := hq; omega) (by omega))
      have HTB := Lib.hid ((HS.out.frm.block w.heap.size (by omega) (by show ¬ w.heap.size = w.heap.size + 2; omega)).trans HT0.out)
      have HRB := Lib.hid ((HS.out.frm.block (w.heap.size + 1) (by omega) (by show ¬ w.heap.size + 1 = w.heap.size + 2; omega)).trans HR0.out)
      have HSZ := Lib.hid (show w.heap.size + 3 ≤ wr.heap.size by have := HS.out.frm.size; omega)
      obtain ⟨e0, e1, e2, e3⟩ := cells4 HTB.out
      obtain ⟨d0, d1, d2, d3⟩ := cells4 HU.out
      by_cases hlt : k < args.length
      · have hlti : (k : Int) < (args.length : Int) := by omega
        obtain ⟨b, o, rfl, hb, hr⟩ := HA.out.at (by omega)
        obtain ⟨A', c', x0, x1, x2, x3, hin⟩ := hr wr hBr k hlt
        have hbl : b < wr.heap.size := Nat.lt_of_lt_of_le hb hBr.size
        have CALL := Lib.hid (fun W (hW : Below wr.heap.size wr W) => HI.out args[k] _ W (HBG.out _ (List.getElem_mem hlt)) (HSHL.out _ (List.getElem_mem hlt)) (hin.later hW))
        have HTK : Hid ((args.take (k + 1)).map RF = (args.take k).map RF ++ [RF args[k]]) := Lib.hid (by rw [List.take_succ_eq_append_getElem hlt, List.map_append]; rfl)
        obtain ⟨T, hT⟩ : ∃ T, T = RF args[k] := ⟨_, rfl⟩
        obtain ⟨E, hE⟩ : ∃ E, E = args[k] := ⟨_, rfl⟩
        rw [← hT] at CALL HTK
        rw [← hE] at x0 x1 x2 x3 CALL
        unfold tv at CALL
        clear hr hin hb HI hT hE
        go_wp2_with fail
        refine wp_region_D [10, 12] (fun w' => Below wr.heap.size wr w') (by kernel_rfl) (bdr wr) (fun hHeld => ?_)
        refine WDt 0 { dst := some 29, op := .fieldAddr 27 (.tmp 5) 3, type := 0, pos := _, after := #[], guard := none } (v := ?vb0) rfl (by kernel_rfl) (fun _ _ _ h => h) (Or.inl ⟨by rfl, ?hyb0⟩) hHeld ?_
        case hyb0 => (intro wz hSw; (try dsimp only at hSw); go_simp; try with_reducible rfl)
        (try simp only [putz])
        refine WDt 1 { dst := some 30, op := .load 25 (.tmp 29), type := 25, pos := _, after := #[{ on := 0, ground := .data }], guard := none } (v := ?vb1) rfl (by kernel_rfl) (fun _ _ _ h => h) (Or.inl ⟨by rfl, ?hyb1⟩) hHeld ?_
        case hyb1 => (intro wz hSw; (try dsimp only at hSw); have q0 := (hSw.cell (p := ⟨w.heap.size + 2, 3, none⟩) (by have := HSZ.out; show w.heap.size + 2 < _; omega)).trans d3; go_simp; try with_reducible rfl)
        (try simp only [putz])
        refine WDt 2 { dst := some 31, op := .fieldAddr 27 (.tmp 2) 3, type := 0, pos := _, after := #[], guard := none } (v := ?vb2) rfl (by kernel_rfl) (fun _ _ _ h => h) (Or.inl ⟨by rfl, ?hyb2⟩) hHeld ?_
        case hyb2 => (intro wz hSw; (try dsimp only at hSw); go_simp; try with_reducible rfl)
        (try simp only [putz])
        refine WDt 3 { dst := some 32, op := .load 25 (.tmp 31), type := 25, pos := _, after := #[{ on := 2, ground := .data }], guard := none } (v := ?vb3) rfl (by kernel_rfl) (fun _ _ _ h => h) (Or.inl ⟨by rfl, ?hyb3⟩) hHeld ?_
        case hyb3 => (intro wz hSw; (try dsimp only at hSw); have q0 := (hSw.cell (p := ⟨w.heap.size, 3, none⟩) (by have := HSZ.out; show w.heap.size < _; omega)).trans e3; go_simp; try with_reducible rfl)
        (try simp only [putz])
        refine WDt 4 { dst := some 33, op := .move (.tmp 6), type := 3, pos := _, after := #[], guard := none } (v := ?vb4) rfl (by kernel_rfl) (fun _ _ _ h => h) (Or.inl ⟨by rfl, ?hyb4⟩) hHeld ?_
        case hyb4 => (intro wz hSw; (try dsimp only at hSw); go_simp; try with_reducible rfl)
        (try simp only [putz])
        refine WDt 5 { dst := some 34, op := .indexAddr 25 (.tmp 32) (.tmp 33), type := 0, pos := _, after := #[{ on := 3, ground := .data }, { on := 4, ground := .data }], guard := none } (v := ?vb5) rfl (by kernel_rfl) (fun _ _ _ h => h) (Or.inl ⟨by rfl, ?hyb5⟩) hHeld ?_
        case hyb5 => (intro wz hSw; (try dsimp only at hSw); go_simp; try with_reducible rfl)
        (try simp only [putz])
        refine WDt 6 { dst := some 35, op := .load 27 (.tmp 34), type := 27, pos := _, after := #[{ on := 5, ground := .data }], guard := none } (v := ?vb6) rfl (by kernel_rfl) (fun _ _ _ h => h) (Or.inl ⟨by rfl, ?hyb6⟩) hHeld ?_
        case hyb6 => (intro wz hSw; (try dsimp only at hSw); have q0 := (hSw.cell (p := ⟨b, _, none⟩) hbl).trans x0; have q1 := (hSw.cell (p := ⟨b, _, none⟩) hbl).trans x1; have q2 := (hSw.cell (p := ⟨b, _, none⟩) hbl).trans x2; have q3 := (hSw.cell (p := ⟨b, _, none⟩) hbl).trans x3; go_simp; try with_reducible rfl)
        (try simp only [putz])
        refine WDt 7 { dst := some 36, op := .move (.tmp 1), type := 3, pos := _, after := #[], guard := none } (v := ?vb7) rfl (by kernel_rfl) (fun _ _ _ h => h) (Or.inl ⟨by rfl, ?hyb7⟩) hHeld ?_
        case hyb7 => (intro wz hSw; (try dsimp only at hSw); go_simp; try with_reducible rfl)
        (try simp only [putz])
        have hHs0 := hHeld.size
        refine WD_ready (rs := [8]) (by kernel_rfl) (by simp) ?_
        refine AllD.cons (o := _) rfl (fun K hK => ?_) AllD.nil
        rw [if_pos (by rfl)]
        go_simp
        refine (CALL.out _ hHeld).mono ?_; rintro e w2 ⟨A2, c2, rfl, hr2, hb2⟩
        unfold tv
        try go_wp2_with fail
        refine hK.out _ _ (bt hHeld hb2) (fun hHeld => ?_)
        clear hK K
        (try simp only [putz])
        have R2 := Lib.hid (hr2.weak (P' := (wr.heap.size ≤ ·)) (fun b _ h => Nat.le_trans hHs0 h))
        have B2 := Lib.hid hHeld
        clear hHeld hr2 hb2
        refine WD_ready (rs := [9]) (by kernel_rfl) (by simp) ?_
        refine AllD.cons (o := _) rfl (fun K hK => ?_) AllD.nil
        rw [if_pos (by rfl)]
        go_simp
        refine hK.out _ _ (bt B2.out (below_alloc w2 _)) (fun hHeld => ?_)
        clear hK K
        (try simp only [putz])
        clear hHeld
        obtain ⟨w3, hw3⟩ : ∃ z, z = w2.alloc (.cells #[.int .i64 T.k, .string T.nm, .int .i64 T.vr, .slice A2 T.args.length c2] 27) := ⟨_, rfl⟩
        rw [← hw3]
        have N3 : Hid (w3.heap[w2.heap.size]? = some (.cells #[.int .i64 T.k, .string T.nm, .int .i64 T.vr, .slice A2 T.args.length c2] 27 (0, 0))) := Lib.hid (by rw [hw3]; exact heap_alloc_new w2 _)
        have B3 := Lib.hid (show Below wr.heap.size wr w3 by rw [hw3]; exact bt B2.out (below_alloc w2 _))
        have O3 := Lib.hid (own_bl HS.out.own B3.out)
        have U3 := Lib.hid ((B3.out.block (w.heap.size + 2) (by have := HSZ.out; omega)).trans HU.out)
        have Q3 := Lib.hid (show wr.heap.size ≤ w2.heap.size ∧ w2.heap.size < w3.heap.size ∧ wB.heap.size ≤ wr.heap.size from ⟨B2.out.size, by rw [hw3]; simp, HS.out.frm.size⟩)
        have hq3 := Q3.out
        have HW3 := Lib.hid hw3
        clear hw3
        refine WD_ready (rs := [10]) (by kernel_rfl) (by simp) ?_
        refine AllD.last (o := _) rfl (by kernel_rfl) (fun K hK => ?_) AllD.nil
        refine step_append_lies _ (by rfl) (.tmp 30) (.tmp 38) 25 rfl wB.heap.size 27 i0 (.agg #[.int .i64 0, .string .empty, .int .i64 0, .slice none 0 0]) 4 56 Tryd.underlying25 hi0 hz0 hz1 hz2 rfl (by decide) (.slice Ar k cr) k xs rfl O3.out ⟨w2.heap.size, 0, none⟩ 1 1 (kidT T A2 c2) rfl rfl (World.news_of_block (cs := #[.int .i64 T.k, .string T.nm, .int .i64 T.vr, .slice A2 T.args.length c2]) (t := 27) (fr := (0, 0)) N3.out) (kid_one _ _ _) (by omega) (by unfold maxLen; omega) (by omega) (by omega) _ rfl ?_
        intro g cap w4 own4 gr4 at4 hlt4
        refine hK.out _ _ ?_
        clear hK K
        (try simp only [putz])
        have hub : (Value.slice Ar k cr).ownBlock ≠ some (w.heap.size + 2) := fun e => by have h1 := (O3.out.lt _ e).1; have h2 := HZ.out; omega
        have U4 := Lib.hid ((gr4.block (w.heap.size + 2) (Array.getElem?_eq_some_iff.1 U3.out).1 (fun e => hub e.symm)).trans U3.out)
        have ST5 := Lib.hid (show CpU 27 wB (w4.setCell ⟨w.heap.size + 2, 3, none⟩ (.slice (some ⟨g, 0, none⟩) (k + 1) cap)) (w.heap.size + 2) (.slice (some ⟨g, 0, none⟩) (k + 1) cap) (k + 1) ((args.take (k + 1)).map RF) (xs ++ kidT T A2 c2) by rw [HTK.out]; rw [HW3.out] at gr4 at4; exact cpu_step HS.out B2.out R2.out _ own4 gr4 (by rcases at4 with e | e; exact .inl e.symm; right; rw [e]; rfl))
        have HU5 := Lib.hid (set_last (.slice (some ⟨g, 0, none⟩) (k + 1) cap) U4.out)
        obtain ⟨u0, u1, u2, u3⟩ := cells4 U4.out
        obtain ⟨v0, v1, v2, v3⟩ := froz4 U4.out
        clear own4 gr4 at4 hlt4
        refine WD_takeAny (i := 11) (oi := { dst := some 40, op := .fieldAddr 27 (.tmp 5) 3, type := 0, pos := _, after := #[{ on := 0, ground := .phase }, { on := 1, ground := .phase }, { on := 2, ground := .phase }, { on := 3, ground := .phase }, { on := 4, ground := .phase }, { on := 5, ground := .phase }, { on := 6, ground := .phase }, { on := 7, ground := .phase }, { on := 8, ground := .phase }, { on := 9, ground := .phase }, { on := 10, ground := .phase }], guard := none }) (v := ?vb11) rfl (by kernel_rfl) (by kernel_rfl) (by kernel_rfl) (by kernel_rfl) (fun _ _ _ h => h) (Or.inl ⟨by rfl, ?hyb11⟩) ?_
        case hyb11 => (intro wz _; go_simp; try with_reducible rfl)
        (try simp only [putz])
        refine WD_ready (rs := [12]) (by kernel_rfl) (by simp) ?_
        refine AllD.last (o := _) rfl (by kernel_rfl) (fun K hK => ?_) AllD.nil
        rw [if_pos (by rfl)]
        go_simp
        refine hK.out _ _ ?_
        clear hK K
        (try simp only [putz])
        refine WD_done (by kernel_rfl) ?_ _
        go_wp2
        go_roundw
        case rel => exact ⟨k + 1, _, _, by omega, by go_num, ST5, HU5⟩
        case measure => simp [intOf]; omega
      · obtain rfl : k = args.length := by omega
        have hge : ¬ (args.length : Int) < (args.length : Int) := by omega
        obtain ⟨A', c', hv, hrow⟩ := cpu_fin HS.out
        injection hv with hv1 _ hv2
        subst hv1 hv2
        rw [List.take_length] at hrow
        have HROW := Lib.hid hrow
        have hrb := HRB.out
        obtain ⟨y0, y1, y2, y3⟩ := cells4 hrb
        obtain ⟨k0, k1, k2, k3⟩ := froz4 hrb
        obtain ⟨t0, t1, t2, t3⟩ := cells4 (cells_all (.int .i64 V.k) (.string V.nm) (.int .i64 V.vr) (.slice Ar args.length cr) hrb)
        have FR := Lib.hid (frm4 wr (w.heap.size + 1) (.int .i64 V.k) (.string V.nm) (.int .i64 V.vr) (.slice Ar args.length cr))
        have HBW := Lib.hid hBr
        clear hrow hBr hrb
        go_wp2
        (try simp only [Exit.inBlock, Exit.then])
        refine bodyPost_ret (by simp [results, Tryd.results32, go_sem, t0, t1, t2, t3]; try rfl) rfl ?_
        exact ⟨Ar, cr, (by rw [HRN.out]; unfold tv; simp [TT.k, TT.nm, TT.vr, TT.args]), (show args.map RF = (RF V).args by rw [HRN.out]; rfl) ▸ HROW.out.move (fun b hb (hp : wB.heap.size ≤ b) => ⟨FR.out.block b hb (by show ¬ b = w.heap.size + 1; omega), by omega⟩) FR.out.size, HBW.out.trans (FR.out.below (fun q hq => by have : q = w.heap.size + 1 := hq; omega) (by have := HSZ.out; omega))⟩
end Go.Proofs.YtdkfimejabanlaaDoor
