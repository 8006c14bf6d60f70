import Derived.Test.YtknpgmbniohcnaaMo
import Derived.Test.YtknpgmbniohcnaaFc
namespace Go.Proofs.Ytknpgmbniohcnaa
open Go.ChangeShapes Go.WideShapes Go.ChangeAt Go.RowKit
set_option linter.unusedVariables false
set_option linter.unusedSimpArgs false
theorem rr_frm {w w' : World} {H k : Nat} (e : w'.cell? ⟨H, 1, none⟩ = w.cell? ⟨H, 1, none⟩) (h : RR w' H k) : RR w H k := by
  rcases h with h | ⟨n, c, h⟩
  · exact .inl h
  · exact .inr ⟨n, c, e.symm.trans h⟩
structure R2 (w w1 wr : World) (B H : Nat) (m : Hm) (s : CS) (vt vf vp : Value) (fr pl : List Int) (v8 : Value) (n : Nat) (outs : List Int) : Prop where
  rc : RC2 wr B H w1.heap.size m s vt vf vp fr pl
  own : wr.ownsRow w.heap.size 27 1 v8 n (wd outs)
  bel : Below w.heap.size w wr
  g8 : ∀ k, v8.ownBlock = some k → k < w1.heap.size
  rr : ∀ k, RR wr H k → k < w.heap.size
  le : w.heap.size ≤ w1.heap.size
theorem R2.move {w w1 wr w' : World} {B H n : Nat} {m : Hm} {s s' : CS} {vt vf vp vt' vf' vp' v8 : Value} {fr pl fr' pl' outs : List Int} (r : R2 w w1 wr B H m s vt vf vp fr pl v8 n outs) (h : RC2 w' B H w1.heap.size m s' vt' vf' vp' fr' pl') (hb : Below w1.heap.size wr w') : R2 w w1 w' B H m s' vt' vf' vp' fr' pl' v8 n outs := by
  have hH := r.rr H (.inl rfl)
  refine ⟨h, own_frm r.own (R := fun k => w1.heap.size ≤ k) ⟨hb.os, hb.tape, hb.output, hb.size, fun i hi hr => hb.block i (by omega)⟩ (fun k hk hr => by have := r.g8 k hk; omega), r.bel.trans (hb.mono r.le), r.g8, fun k hk => r.rr k (rr_frm (hb.cell (p := ⟨H, 1, none⟩) (by have := r.le; show H < w1.heap.size; omega)) hk), r.le⟩
theorem R2.store8 {w w1 wr : World} {B H n G c k : Nat} {m : Hm} {s : CS} {vt vf vp : Value} {fr pl outs : List Int} (r : R2 w w1 wr B H m s vt vf vp fr pl (.slice (some ⟨G, 0, none⟩) n c) n outs) (v : Int) : R2 w w1 (wr.setCell ⟨G, k, none⟩ (.int .u64 v)) B H m s vt vf vp fr pl (.slice (some ⟨G, 0, none⟩) n c) n (outs.set k v) := by
  have f : Frm wr (wr.setCell ⟨G, k, none⟩ (.int .u64 v)) (fun b => b = G) := frm_set k _ rfl
  have hG := r.g8 G rfl
  have hG2 := (r.own.lt G rfl).1
  have hH := r.rr H (.inl rfl)
  have hHl := r.rc.rh.lt
  have nH : ¬ H = G := by omega
  refine ⟨⟨r.rc.rh.frm f (fun b hb e => by have := r.rr b hb; omega), own_frm r.rc.ot f (fun b hb e => by have := (r.rc.ot.lt b hb).1; omega), own_frm r.rc.of f (fun b hb e => by have := (r.rc.of.lt b hb).1; omega), own_frm r.rc.op f (fun b hb e => by have := (r.rc.op.lt b hb).1; omega), r.rc.sep, fun b hb => r.rc.hlt b (rr_frm (frm_cell f hHl nH) hb), by simpa [World.setCell] using r.rc.hB, r.rc.rel, r.rc.inv, r.rc.len⟩, ?_, r.bel.trans (f.below (fun b hb => by omega) r.bel.size), r.g8, fun b hb => r.rr b (rr_frm (frm_cell f hHl nH) hb), r.le⟩
  rw [show wd (outs.set k v) = (wd outs).set k (.int .u64 v) from by simp [wd, List.map_set]]
  exact (r.own.stored k _).1
theorem R2.setW {w w1 wr : World} {B H n nt g c p : Nat} {m : Hm} {s : CS} {vf vp v8 : Value} {fr pl outs : List Int} (r : R2 w w1 wr B H m s (.slice (some ⟨g, 0, none⟩) nt c) vf vp fr pl v8 n outs) {v : Int} (hI : CInv m ⟨s.T.setW p v, s.mv⟩) : R2 w w1 (wr.setCell ⟨g, p, none⟩ (.int .u64 v)) B H m ⟨s.T.setW p v, s.mv⟩ (.slice (some ⟨g, 0, none⟩) nt c) vf vp fr pl v8 n outs := by
  have f : Frm wr (wr.setCell ⟨g, p, none⟩ (.int .u64 v)) (fun b => b = g) := frm_set p _ rfl
  have hg := (r.rc.ot.lt g rfl).1
  have hH := r.rr H (.inl rfl)
  have hle := r.le
  have hHl := r.rc.rh.lt
  have nH : ¬ H = g := by omega
  have hnt : s.T.ws.length = nt := by have := r.rc.ot; rcases this.2 with ⟨e, _⟩ | ⟨_, _, _, e, _⟩; · cases e
                                      · injection e with _ e _; exact e.symm
  refine ⟨⟨r.rc.rh.frm f (fun b hb e => by have := r.rr b hb; omega), ?_, own_frm r.rc.of f (fun b hb e => own_own_ne r.rc.of r.rc.ot (by decide) b hb (by rw [e]; rfl)), own_frm r.rc.op f (fun b hb e => own_own_ne r.rc.op r.rc.ot (by decide) b hb (by rw [e]; rfl)), r.rc.sep, fun b hb => r.rc.hlt b (rr_frm (frm_cell f hHl nH) hb), by simpa [World.setCell] using r.rc.hB, r.rc.rel, hI, by simpa [Hm.setW] using r.rc.len⟩, own_frm r.own f (fun b hb e => by have := r.g8 b hb; omega), r.bel.trans (f.below (fun b hb => by omega) r.bel.size), r.g8, fun b hb => r.rr b (rr_frm (frm_cell f hHl nH) hb), r.le⟩
  have o := r.rc.ot
  rw [hnt] at o
  have z := (o.stored p (.int .u64 v)).1
  simp only [Hm.setW, List.length_set]
  rw [hnt]
  rwa [show wd (s.T.ws.set p v) = (wd s.T.ws).set p (.int .u64 v) from by simp [wd, List.map_set]]
theorem set_drop {l xs : List Int} {k : Nat} {v : Int} (hl : l.length = k) (hk : k < xs.length) : (l ++ xs.drop k).set k v = (l ++ [v]) ++ xs.drop (k + 1) := by
  subst hl
  rw [List.set_append_right _ _ (Nat.le_refl _), Nat.sub_self, List.drop_eq_getElem_cons hk, List.set_cons_zero, List.append_assoc]
  rfl
theorem r2_init {w w1 : World} {B H n : Nat} {m : Hm} {v8 : Value} {xs : List Int} (h : RH w B H m) (hb : Below w.heap.size w w1) (own : w1.ownsRow w.heap.size 27 1 v8 n (wd xs)) : R2 w w1 w1 B H m (s0 m) (.slice none 0 0) (.slice none 0 0) (.slice none 0 0) [] [] v8 n xs := by
  refine ⟨⟨h.below hb, World.ownsRow_nil _ _ _ _, World.ownsRow_nil _ _ _ _, World.ownsRow_nil _ _ _ _, fun k hk => by simp [Value.ownBlock] at hk, fun k hk => ?_, Nat.le_refl _, ⟨rfl, fun a _ => by simp, fun a hne => ?_, fun j hj => by simp at hj⟩, cinv_s0 h.full.toOk, by simp [s0]⟩, own, hb, fun k hk => (own.lt k hk).2, fun k hk => h.rlt (rr_frm (hb.cell (p := ⟨H, 1, none⟩) h.lt) hk), hb.size⟩
  · exact Nat.lt_of_lt_of_le (h.rlt (rr_frm (hb.cell (p := ⟨H, 1, none⟩) h.lt) hk)) hb.size
  · exfalso; apply hne
    simp only [s0]
    rw [List.getD_eq_getElem?_getD, List.getElem?_replicate]; split <;> rfl
theorem r2_fin {w w1 wr : World} {B H n nt ct : Nat} {At : Option Addr} {m : Hm} {s : CS} {vf vp v8 : Value} {fr pl outs : List Int} {t : Int} (h : RH w B H m) (hB : B ≤ w.heap.size) (r : R2 w w1 wr B H m s (.slice At nt ct) vf vp fr pl v8 n outs) (hF : Full ⟨m.room, t, s.T.ws, s.T.st⟩) : RH ((wr.setCell ⟨H, 1, none⟩ (.slice At nt ct)).setCell ⟨H, 2, none⟩ (.int .i64 t)) B H ⟨m.room, t, s.T.ws, s.T.st⟩ ∧ ((wr.setCell ⟨H, 1, none⟩ (.slice At nt ct)).setCell ⟨H, 2, none⟩ (.int .i64 t)).ownsRow w.heap.size 27 1 v8 n (wd outs) ∧ Frm w ((wr.setCell ⟨H, 1, none⟩ (.slice At nt ct)).setCell ⟨H, 2, none⟩ (.int .i64 t)) (fun k => k = H) := by
  obtain ⟨T, A, c, t1, h1, h2⟩ := r.rc.rh.at_
  have f : Frm wr ((wr.setCell ⟨H, 1, none⟩ (.slice At nt ct)).setCell ⟨H, 2, none⟩ (.int .i64 t)) (fun k => k = H) := (frm_set (R := fun k => k = H) 1 _ rfl).trans (frm_set 2 _ rfl)
  have hH := r.rr H (.inl rfl)
  have hle := r.le
  have hnt : s.T.ws.length = nt := by have := r.rc.ot; rcases this.2 with ⟨e, e0⟩ | ⟨_, _, _, e, _⟩; · injection e with _ e _; omega
                                      · injection e with _ e _; exact e.symm
  have hot := own_frm r.rc.ot f (fun k hk e => by have := (r.rc.ot.lt k hk).1; omega)
  refine ⟨⟨hF, Nat.le_trans (Nat.le_trans hB r.bel.size) f.size, T, At, ct, t1, ?_, ?_⟩, own_frm r.own f (fun k hk e => by have := (r.own.lt k hk).1; omega), ⟨f.os.trans r.bel.os, f.tape.trans r.bel.tape, f.output.trans r.bel.output, Nat.le_trans r.bel.size f.size, fun i hi hr => (f.block i (Nat.lt_of_lt_of_le hi r.bel.size) hr).trans (r.bel.block i hi)⟩⟩
  · rw [set_heap _ (set_heap _ h1)]
    simp [hnt]
  · have z : ((wr.setCell ⟨H, 1, none⟩ (.slice At nt ct)).setCell ⟨H, 2, none⟩ (.int .i64 t)).ownsRow w1.heap.size 27 1 (.slice At nt ct) s.T.ws.length (wd s.T.ws) := hot
    rw [show (Hm.mk m.room t s.T.ws s.T.st).ws.length = nt from hnt]
    rw [hnt] at z
    exact own_mono z (by omega)
set_option maxRecDepth 100000 in
set_option maxHeartbeats 16000000 in
theorem rcollect_any {w : World} {B H n c : Nat} {m : Hm} {A : Option Addr} {xs : List Int} (h : RH w B H m) (hB : B ≤ w.heap.size) (hu : InU w A n c xs) (hn : n ≤ 60000) (ht : m.turns < 9223372036854775807) :
    Calls Try.prog 26 #[.pointer (some ⟨H, 0, none⟩), .slice A n c] w fun e w' => ∃ v, e = .returned v ∧ Hid (RH w' B H (colM m xs) ∧ w'.ownsRow w.heap.size 27 1 v n (wd (colR m xs)) ∧ Frm w w' (fun k => k = H)) := by
  obtain ⟨i0, hi0, hz0, hz1, hz2⟩ := info_parts info27
  have HR := Lib.hid h
  have HU := Lib.hid hu
  have HBB := Lib.hid hB
  have INX := Lib.hid (hu.below (below_alloc w (.cells #[] 27)))
  have hlx : xs.length = n := hu.1
  have HLX := Lib.hid hlx
  have HT := Lib.hid ht
  have HMl := h.full.lt
  obtain ⟨N, hN⟩ : ∃ N, N = m.ws.length := ⟨_, rfl⟩
  rw [← hN] at HMl
  have HN := Lib.hid hN
  clear h hu hB hlx ht hN
  go_enter Try.func26, Try.ntmps26
  go_wp2_with (at_builtin; refine wpList_append_sl _ rfl (.tmp 17) (.tmp 18) 45 rfl w.heap.size 27 i0 (.int .u64 0) 1 8 Try.underlying45 hi0 hz0 hz1 hz2 rfl (by decide) (.slice (some ⟨w.heap.size, 0, none⟩) 0 0) 0 [] rfl (own_empty w 27) A n c (wd xs) rfl (by rw [wd_len, HLX.out]; omega) INX.out.2.1 (inU_news INX.out) (one_wd _) (by unfold maxLen; omega) (by omega) ?s1 ?_)
  case s1 => show w.heap.size ≤ (w.heap.push _).size; simp
  intro v8 w1 own1 gr1 at1
  have B1 := Lib.hid (grown_below (below_alloc w (.cells #[] 27)) (own_empty w 27) (Nat.le_refl _) gr1)
  have OW1 : Hid (w1.ownsRow w.heap.size 27 1 v8 n (wd xs)) := Lib.hid (by first | exact own1 | simpa using own1)
  obtain ⟨A8, c8, rfl⟩ := vform OW1.out
  have ST : Hid (R2 w w1 w1 B H m (rootsF m (s0 m) (xs.take 0)).1 (.slice none 0 0) (.slice none 0 0) (.slice none 0 0) [] [] (.slice A8 n c8) n ((rootsF m (s0 m) (xs.take 0)).2 ++ xs.drop 0)) := Lib.hid (by
    have z := r2_init HR.out B1.out OW1.out
    simpa [rootsF] using z)
  clear own1 gr1 at1 B1 OW1 INX
  go_wp2
  go_loopw [5, 6, 7, 10] (fun t f p i wr => ∃ (k : Nat) (fr pl : List Int), i = .int .i64 k ∧ k ≤ n ∧ Hid (R2 w w1 wr B H m (rootsF m (s0 m) (xs.take k)).1 t f p fr pl (.slice A8 n c8) n ((rootsF m (s0 m) (xs.take k)).2 ++ xs.drop k))) (fun _ _ _ i _ => n - (intOf i).toNat)
  case atStart => exact ⟨0, [], [], rfl, by omega, ST⟩
  case round =>
    obtain ⟨k, fr, pl, rfl, hk, HR2⟩ := hrel
    clear ST
    obtain ⟨At, ct, rfl⟩ := vform HR2.out.rc.ot
    obtain ⟨Af, cf, rfl⟩ := vform HR2.out.rc.of
    obtain ⟨Ap, cp, rfl⟩ := vform HR2.out.rc.op
    have hlr : (rootsF m (s0 m) (xs.take k)).2.length = k := by rw [roots_len, List.length_take_of_le (by have := HLX.out; omega)]
    have HLR := Lib.hid hlr
    obtain ⟨s, hs⟩ : ∃ s, s = (rootsF m (s0 m) (xs.take k)).1 := ⟨_, rfl⟩
    obtain ⟨os, hos⟩ : ∃ os, os = (rootsF m (s0 m) (xs.take k)).2 := ⟨_, rfl⟩
    rw [← hs] at HR2 ⊢
    rw [← hos] at HR2 hlr
    have HS := Lib.hid (And.intro hs hos)
    obtain ⟨nt, hnt⟩ : ∃ nt, nt = s.T.ws.length := ⟨_, rfl⟩
    obtain ⟨nf, hnf⟩ : ∃ nf, nf = fr.length := ⟨_, rfl⟩
    rw [← hnt, ← hnf] at HR2 ⊢
    have HNT := Lib.hid (And.intro hnt hnf)
    clear hs hos hnt hnf
    by_cases hkn : k < n
    · have hkx : k < xs.length := by have := HLX.out; omega
      have hkni : (k : Int) < (n : Int) := by omega
      have hux := HU.out.2.2.1 _ (List.getElem_mem hkx)
      have hol := HR2.out.own.1
      obtain ⟨G, hG⟩ : ∃ G, A8 = some ⟨G, 0, none⟩ := by
        rcases HR2.out.own.2 with ⟨e, e0⟩ | ⟨g, cap, cur, e, _⟩
        · omega
        · injection e with e _ _; exact ⟨g, e⟩
      subst hG
      have hc8 : wr.cell? ⟨G, k, none⟩ = some (.int .u64 xs[k]) := by
        rw [HR2.out.own.cellAt k (by omega), wd_at _ k (by rw [List.length_append, hlr, List.length_drop]; omega)]
        congr 2
        rw [List.getElem_append_right (by omega)]
        simp [hlr]
      obtain ⟨x, hx⟩ : ∃ x, x = xs[k] := ⟨_, rfl⟩
      rw [← hx] at hc8 hux
      have HX := Lib.hid hx
      have MV := Lib.hid (rmove_any HR2.out.rc HNT.out.1.symm HNT.out.2.symm x hux)
      clear hx hol
      go_wp2_with fail
      refine MV.out.mono ?_; rintro e w2 ⟨vt, vf, vp, fr', pl', rfl, hrc, hbb⟩
      have HR3 := Lib.hid (HR2.out.move hrc.out hbb.out)
      have fz : w2.frozen? ⟨G, k, none⟩ = false := HR3.out.own.frozenAt k
      obtain ⟨y, hy⟩ : ∃ y, w2.cell? ⟨G, k, none⟩ = some y := by
        have := HR3.out.own.1
        exact ⟨_, (HR3.out.own.cellAt k (by omega)).trans (List.getElem?_eq_getElem (by omega))⟩
      obtain ⟨v, hv⟩ : ∃ v, v = moveV m s x := ⟨_, rfl⟩
      rw [← hv]
      have HV := Lib.hid hv
      clear hv MV hrc hbb hc8 HR2
      go_wp2
      go_roundw
      case rel =>
        refine ⟨k + 1, fr', pl', by go_num, by omega, Lib.hid ?_⟩
        have z := HR3.out.store8 (k := k) v
        rw [set_drop hlr hkx] at z
        rw [roots_take hkx, ← HX.out]
        simp only [rootStep]
        rw [← HS.out.1, ← HS.out.2, ← HV.out]
        exact z
      case measure => simp [intOf]; omega
    · obtain rfl : n = k := by omega
      have hkni : ¬ (n : Int) < (n : Int) := by omega
      have et : xs.take n = xs := List.take_of_length_le (by have := HLX.out; omega)
      have ed : xs.drop n = [] := List.drop_of_length_le (by have := HLX.out; omega)
      have HS2 : Hid (s = (rootsF m (s0 m) xs).1 ∧ os = colR m xs) := Lib.hid (by have z := HS.out; rw [et] at z; exact z)
      have HR3 : Hid (R2 w w1 wr B H m s (.slice At nt ct) (.slice Af nf cf) (.slice Ap nf cp) fr pl (.slice A8 n c8) n (colR m xs)) := Lib.hid (by have z := HR2.out; rw [ed, List.append_nil, HS2.out.2] at z; exact z)
      have GD0 : Hid (Gd m s 0) := Lib.hid (by rw [HS2.out.1]; exact gd_roots HR.out.full (gd_s0 HR.out.full) xs HU.out.2.2.1)
      have ST2 : Hid (scanF m (m.ws.length - 0) 0 s = colS m xs) := Lib.hid (by rw [HS2.out.1]; rfl)
      clear HR2 HS HS2 et ed hlr HLR hkn hk hkni
      have STT := Lib.hid (show (0 : Nat) ≤ nt from Nat.zero_le _)
      go_wp2
      go_loopw [5, 6, 7, 9] (fun t f p i wr => ∃ (d : Nat) (s : CS) (fr pl : List Int), i = .int .i64 d ∧ Hid (R2 w w1 wr B H m s t f p fr pl (.slice A8 n c8) n (colR m xs)) ∧ Hid (Gd m s d) ∧ Hid (d ≤ s.T.ws.length ∧ (d = s.T.ws.length ∨ s.T.st.getD d false = true)) ∧ Hid (scanF m (m.ws.length - d) d s = colS m xs)) (fun _ _ _ i _ => N - (intOf i).toNat)
      case atStart =>
        refine ⟨0, s, fr, pl, rfl, HR3, GD0, Lib.hid ⟨Nat.zero_le _, ?_⟩, ST2⟩
        exact GD0.out.tight.zero.imp (fun e => e.symm) id
      case round =>
        obtain ⟨d, s, fr, pl, rfl, HR4, GD, HD, HSC⟩ := hrel
        clear HR3 GD0 ST2 HNT STT
        obtain ⟨At, ct, rfl⟩ := vform HR4.out.rc.ot
        obtain ⟨Af, cf, rfl⟩ := vform HR4.out.rc.of
        obtain ⟨Ap, cp, rfl⟩ := vform HR4.out.rc.op
        have hleN := scan_len HR.out.full.toOk GD.out.inv
        obtain ⟨nt, hnt⟩ : ∃ nt, nt = s.T.ws.length := ⟨_, rfl⟩
        obtain ⟨nf, hnf⟩ : ∃ nf, nf = fr.length := ⟨_, rfl⟩
        rw [← hnt, ← hnf] at HR4 ⊢
        rw [← hnt] at hleN
        have HNT := Lib.hid (And.intro hnt hnf)
        have hntN : nt ≤ N := by have := HN.out; omega
        by_cases hd : d < nt
        · have hdl : d < s.T.ws.length := by omega
          have hst : s.T.st.getD d false = true := HD.out.2.resolve_left (by omega)
          obtain ⟨o1, o2, o3⟩ := GD.out.inv.tok.snd d hdl hst
          have hnn := splS_nn (GD.out.inv.tok.wf _ (List.getElem_mem hdl)).1
          rw [← getD_at hdl] at hnn
          obtain ⟨sz, hsz⟩ : ∃ sz : Nat, splS (s.T.ws.getD d 0) = (sz : Int) := ⟨(splS (s.T.ws.getD d 0)).toNat, by omega⟩
          rw [hsz] at o2 o3 hnn
          rw [Int.toNat_natCast] at o2 o3
          have o2' : d + 1 + sz ≤ nt := by omega
          obtain ⟨g, hg⟩ : ∃ g, At = some ⟨g, 0, none⟩ := by
            rcases HR4.out.rc.ot.2 with ⟨e, e0⟩ | ⟨g, cap, cur, e, _⟩
            · omega
            · injection e with e _ _; exact ⟨g, e⟩
          subst hg
          have hcd : wr.cell? ⟨g, d, none⟩ = some (.int .u64 (s.T.ws.getD d 0)) := by
            have z := HR4.out.rc.ot
            rw [← hnt] at z
            rw [z.cellAt d (by omega), wd_at _ d hdl, getD_at hdl]
          have hux : U64 (s.T.ws.getD d 0) := by rw [getD_at hdl]; exact GD.out.inv.tok.wf _ (List.getElem_mem hdl)
          obtain ⟨hd_, hhd⟩ : ∃ hd_, hd_ = s.T.ws.getD d 0 := ⟨_, rfl⟩
          rw [← hhd] at hcd hux
          have SP := Lib.hid (rsplit_any hd_ hux.1 hux.2 wr)
          have hsz' : splS hd_ = (sz : Int) := by rw [hhd]; exact hsz
          rw [hsz'] at SP
          have hdi : (d : Int) < (nt : Int) := by omega
          have esc : scanS m s d = s := by unfold scanS; rw [if_pos hst]
          have GD1 : Hid (Gd m s (d + 1)) := Lib.hid (by have z := gd_scan HR.out.full GD.out hdl; rw [esc] at z; exact z)
          have HSC1 : Hid (scanF m (m.ws.length - (d + 1)) (d + 1) s = colS m xs) := Lib.hid (by
            have z := scanF_step (F := m) (n := m.ws.length) hdl (by omega)
            rw [esc] at z
            exact z.symm.trans HSC.out)
          have HHD : Hid (s.T.st.getD d false = true ∧ splS (s.T.ws.getD d 0) = (sz : Int)) := Lib.hid ⟨hst, hsz⟩
          have hszb : sz ≤ 65535 := by omega
          clear hhd hux hsz' hsz hst o1 o2 o3 esc hnt hnf GD HSC hdl hleN
          go_wp2_with fail
          refine SP.out.mono ?_; rintro e w2 ⟨rfl, rfl⟩
          clear SP hcd
          obtain ⟨w3, hw3⟩ : ∃ w3, w3 = wr := ⟨_, rfl⟩
          subst hw3
          go_wp2
          go_loopw [5, 6, 7, 15] (fun t f p i wr => ∃ (j : Nat) (s : CS) (fr pl : List Int), i = .int .i64 j ∧ 1 ≤ j ∧ j ≤ sz + 1 ∧ Hid (R2 w w1 wr B H m s t f p fr pl (.slice A8 n c8) n (colR m xs)) ∧ Hid (Gd m s (d + j)) ∧ Hid (d < s.T.ws.length ∧ s.T.st.getD d false = true ∧ splS (s.T.ws.getD d 0) = (sz : Int)) ∧ Hid (scanF m (m.ws.length - (d + j)) (d + j) s = colS m xs)) (fun _ _ _ i _ => sz + 1 - (intOf i).toNat)
          case atStart => exact ⟨1, s, fr, pl, rfl, by omega, by omega, HR4, GD1, Lib.hid ⟨by have := HNT.out.1; omega, HHD.out.1, HHD.out.2⟩, HSC1⟩
          case round =>
            obtain ⟨j, s, fr, pl, rfl, hj1, hj2, HR5, GD5, HH5, HS5⟩ := hrel
            clear HR4 GD1 HHD HSC1 HNT HD
            obtain ⟨At, ct, rfl⟩ := vform HR5.out.rc.ot
            obtain ⟨Af, cf, rfl⟩ := vform HR5.out.rc.of
            obtain ⟨Ap, cp, rfl⟩ := vform HR5.out.rc.op
            have hleN := scan_len HR.out.full.toOk GD5.out.inv
            obtain ⟨o1, o2, o3⟩ := GD5.out.inv.tok.snd d HH5.out.1 HH5.out.2.1
            rw [HH5.out.2.2, Int.toNat_natCast] at o2 o3
            obtain ⟨nt, hnt⟩ : ∃ nt, nt = s.T.ws.length := ⟨_, rfl⟩
            obtain ⟨nf, hnf⟩ : ∃ nf, nf = fr.length := ⟨_, rfl⟩
            rw [← hnt, ← hnf] at HR5 ⊢
            rw [← hnt] at o2 hleN
            have HNT := Lib.hid (And.intro hnt hnf)
            have hntN : nt ≤ N := by have := HN.out; omega
            by_cases hjs : j ≤ sz
            · have hp : d + j < nt := by omega
              have hpl : d + j < s.T.ws.length := by omega
              have hpst : s.T.st.getD (d + j) false = false := o3 (d + j) (by omega) (by omega)
              obtain ⟨g, hg⟩ : ∃ g, At = some ⟨g, 0, none⟩ := by
                rcases HR5.out.rc.ot.2 with ⟨e, e0⟩ | ⟨g, cap, cur, e, _⟩
                · omega
                · injection e with e _ _; exact ⟨g, e⟩
              subst hg
              have hcd : wr.cell? ⟨g, d + j, none⟩ = some (.int .u64 (s.T.ws.getD (d + j) 0)) := by
                have z := HR5.out.rc.ot
                rw [← hnt] at z
                rw [z.cellAt (d + j) (by omega), wd_at _ _ hpl, getD_at hpl]
              have hux : U64 (s.T.ws.getD (d + j) 0) := by rw [getD_at hpl]; exact GD5.out.inv.tok.wf _ (List.getElem_mem hpl)
              obtain ⟨x, hx⟩ : ∃ x, x = s.T.ws.getD (d + j) 0 := ⟨_, rfl⟩
              rw [← hx] at hcd hux
              have HX := Lib.hid hx
              have hjsi : (j : Int) ≤ (sz : Int) := by omega
              have hdj : IntKind.i64.wrap ((d : Int) + (j : Int)) = (d : Int) + (j : Int) := IntWalk.i64_in _ (by omega)
              have hpi : (d : Int) + (j : Int) < (nt : Int) := by omega
              have hpn : ((d : Int) + (j : Int)).toNat = d + j := by omega
              have hp0 : 0 ≤ (d : Int) + (j : Int) := by omega
              have MV := Lib.hid (rmove_any HR5.out.rc HNT.out.1.symm HNT.out.2.symm x hux)
              have MST := Lib.hid (moveS_st (F := m) x GD5.out.inv.tok.len hpl)
              have MSD := Lib.hid (moveS_st (F := m) x GD5.out.inv.tok.len HH5.out.1)
              have ESC : Hid (scanS m s (d + j) = ⟨(moveS m s x).T.setW (d + j) (moveV m s x), (moveS m s x).mv⟩) := Lib.hid (by unfold scanS; rw [if_neg (by rw [hpst]; decide), ← hx])
              have GD6 : Hid (Gd m (scanS m s (d + j)) (d + (j + 1))) := Lib.hid (gd_scan HR.out.full GD5.out hpl)
              have HS6 : Hid (scanF m (m.ws.length - (d + (j + 1))) (d + (j + 1)) (scanS m s (d + j)) = colS m xs) := Lib.hid ((scanF_step (F := m) (n := m.ws.length) hpl (by omega)).symm.trans HS5.out)
              clear hx hux hpst o1 o2 o3 hnt hnf hpl hleN
              go_wp2_with fail
              refine MV.out.mono ?_; rintro e w4 ⟨vt, vf, vp, fr', pl', rfl, hrc, hbb⟩
              have HR6 := Lib.hid (HR5.out.move hrc.out hbb.out)
              obtain ⟨At6, ct6, rfl⟩ := vform HR6.out.rc.ot
              obtain ⟨nt6, hnt6⟩ : ∃ nt6, nt6 = (moveS m s x).T.ws.length := ⟨_, rfl⟩
              have hp6 : d + j < nt6 := by have := MST.out.2.2; have := HNT.out.1; omega
              rw [← hnt6] at HR6 ⊢
              obtain ⟨g6, hg6⟩ : ∃ g, At6 = some ⟨g, 0, none⟩ := by
                rcases HR6.out.rc.ot.2 with ⟨e, e0⟩ | ⟨g, cap, cur, e, _⟩
                · omega
                · injection e with e _ _; exact ⟨g, e⟩
              subst hg6
              have hz6 : w4.ownsRow w1.heap.size 27 1 (.slice (some ⟨g6, 0, none⟩) nt6 ct6) nt6 (wd (moveS m s x).T.ws) := by have z := HR6.out.rc.ot; rwa [← hnt6] at z
              have fz : w4.frozen? ⟨g6, d + j, none⟩ = false := hz6.frozenAt (d + j)
              obtain ⟨y, hy⟩ : ∃ y, w4.cell? ⟨g6, d + j, none⟩ = some y := by
                have := hz6.1
                exact ⟨_, (hz6.cellAt (d + j) (by omega)).trans (List.getElem?_eq_getElem (by omega))⟩
              have hpi6 : (d : Int) + (j : Int) < (nt6 : Int) := by omega
              obtain ⟨v, hv⟩ : ∃ v, v = moveV m s x := ⟨_, rfl⟩
              rw [← hv]
              have HV := Lib.hid hv
              have HNT6 := Lib.hid hnt6
              clear hv MV hrc hbb hcd HR5 hz6 hnt6
              go_wp2
              go_roundw
              case rel =>
                have z := HR6.out.setW (p := d + j) (v := v) (by
                  have h1 := GD6.out.inv
                  rw [ESC.out, ← HV.out] at h1; exact h1)
                have e6 : scanS m s (d + j) = ⟨(moveS m s x).T.setW (d + j) v, (moveS m s x).mv⟩ := by rw [ESC.out, HV.out]
                refine ⟨j + 1, scanS m s (d + j), fr', pl', by go_num, by omega, by omega, Lib.hid ?_, GD6, Lib.hid ⟨?_, ?_, ?_⟩, HS6⟩
                · rw [e6]; exact z
                · rw [e6]; simp only [Hm.setW, List.length_set]; have := MSD.out.2.2; have := HH5.out.1; omega
                · rw [e6]; exact MSD.out.1.trans HH5.out.2.1
                · rw [e6]
                  simp only [Hm.setW]
                  rw [getD_set_ne _ _ _ _ (by omega), MSD.out.2.1]; exact HH5.out.2.2
              case measure => simp [intOf]; omega
            · obtain rfl : j = sz + 1 := by omega
              have hjsi : ¬ ((sz + 1 : Nat) : Int) ≤ (sz : Int) := by omega
              have hjsi2 : ¬ (sz : Int) + 1 ≤ (sz : Int) := by omega
              have e1 : IntKind.i64.wrap ((d : Int) + (sz : Int)) = (d : Int) + (sz : Int) := IntWalk.i64_in _ (by omega)
              have e2 : IntKind.i64.wrap ((d : Int) + (sz : Int) + 1) = (d : Int) + (sz : Int) + 1 := IntWalk.i64_in _ (by omega)
              have TN : Hid (d + (sz + 1) ≤ nt ∧ (d + (sz + 1) = s.T.ws.length ∨ s.T.st.getD (d + (sz + 1)) false = true)) := Lib.hid (by
                have z := GD5.out.tight.next d HH5.out.1 HH5.out.2.1
                have hs : szN s.T.ws d = sz := by unfold szN; rw [HH5.out.2.2]; rfl
                rw [hs, show d + 1 + sz = d + (sz + 1) from by omega] at z
                exact ⟨by omega, z⟩)
              clear o1 o2 o3 hleN hnt hnf
              go_wp2
              go_roundw
              case rel => exact ⟨d + (sz + 1), s, fr, pl, by push_cast; go_num, HR5, GD5, Lib.hid ⟨by rw [← HNT.out.1]; exact TN.out.1, TN.out.2⟩, HS5⟩
              case measure => have := TN.out.1; simp [intOf]; omega
        · have hdn : ¬ (d : Int) < (nt : Int) := by omega
          have hfin : s = colS m xs := (scanF_done (by omega)).symm.trans HSC.out
          have FUL := Lib.hid (full_col HR.out.full HU.out.2.2.1)
          obtain ⟨A0, c0, f0, f1, f2, hin, fz, own⟩ := HR4.out.rc.rh.cells
          have fz1 := fz 1; have fz2 := fz 2
          have hwr : IntKind.i64.wrap (m.turns + 1) = m.turns + 1 := IntWalk.i64_in _ (by have := HR.out.full.t0; have := HT.out; omega)
          have hcT : colT m.turns = m.turns + 1 := if_pos HT.out
          have FF : Hid (Full ⟨m.room, m.turns + 1, s.T.ws, s.T.st⟩) := Lib.hid (by have z := FUL.out; unfold colM at z; rw [hcT, ← hfin] at z; exact z)
          have EC : Hid (colM m xs = ⟨m.room, m.turns + 1, s.T.ws, s.T.st⟩) := Lib.hid (by unfold colM; rw [hcT, ← hfin])
          have HRF := Lib.hid (r2_fin HR.out HBB.out HR4.out FF.out)
          clear hfin hcT hnt hnf hin fz own hleN
          go_wp2
          go_ret
          refine ⟨_, rfl, Lib.hid ?_⟩
          rw [EC.out]
          exact ⟨HRF.out.1, HRF.out.2.1, HRF.out.2.2⟩
end Go.Proofs.Ytknpgmbniohcnaa
