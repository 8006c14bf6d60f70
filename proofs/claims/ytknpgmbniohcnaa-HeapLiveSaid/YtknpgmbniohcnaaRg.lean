import Derived.Test.YtknpgmbniohcnaaRh
namespace Go.Proofs.Ytknpgmbniohcnaa
open Go.ChangeShapes Go.WideShapes Go.ChangeAt Go.RowKit
set_option linter.unusedVariables false
set_option maxRecDepth 100000 in
set_option maxHeartbeats 4000000 in
theorem rword_any {w : World} {B H : Nat} {m : Hm} (h : RH w B H m) (x : Int) (hx : U64 x) : Calls Try.prog 44 #[.pointer (some ⟨H, 0, none⟩), .int .u64 x] w fun e w' => e = .returned (.bool (fitsB m x)) ∧ w = w' := by
  have TH := Lib.hid (thing_any h x hx)
  obtain ⟨hx0, hx1⟩ := hx
  obtain ⟨a, ha⟩ : ∃ a, a = findV m x := ⟨_, rfl⟩
  obtain ⟨b, hb⟩ : ∃ b, b = thN m x := ⟨_, rfl⟩
  rw [← ha, ← hb] at TH
  unfold fitsB
  obtain ⟨f, hf⟩ : ∃ f, f = findB m x := ⟨_, rfl⟩
  rw [← hf] at TH ⊢
  clear ha hb hf h
  by_cases h1 : x % 2 = 1
  · have h4 : (x % 2 == 1) = true := by rw [h1]; rfl
    go_enter Try.func44, Try.ntmps44
    go_wp2_with fail
    refine TH.out.mono ?_; rintro e w1 ⟨rfl, rfl⟩
    go_wp2
    go_ret
    exact ⟨by rw [h4]; rfl, rfl⟩
  · have h4 : (x % 2 == 1) = false := beq_eq_false_iff_ne.2 h1
    go_enter Try.func44, Try.ntmps44
    go_wp2_with fail
    refine TH.out.mono ?_; rintro e w1 ⟨rfl, rfl⟩
    go_wp2
    go_ret
    exact ⟨by rw [h4]; rfl, rfl⟩
theorem thN_of {m : Hm} {p : Int} (h : findB m p = true) : thN m p = splS (m.ws.getD (findV m p).toNat 0) := by
  unfold thN findV; rw [if_pos h, if_pos h]
set_option maxRecDepth 100000 in
set_option maxHeartbeats 4000000 in
theorem rget_any {w : World} {B H : Nat} {m : Hm} (h : RH w B H m) (p i : Int) (hp : U64 p) (hi : I64 i) :
    Calls Try.prog 27 #[.pointer (some ⟨H, 0, none⟩), .int .u64 p, .int .i64 i] w fun e w' => e = .returned (.tuple #[.int .u64 (getR m p i).1, .int .i64 (getR m p i).2]) ∧ w = w' := by
  have TH := Lib.hid (thing_any h p hp)
  obtain ⟨hi0, hi1⟩ := hi
  cases hb : findB m p
  · have e : getR m p i = (0, 4) := by unfold getR placeR; rw [hb]; rfl
    rw [e]
    rw [hb] at TH
    obtain ⟨a, ha⟩ : ∃ a, a = findV m p := ⟨_, rfl⟩
    obtain ⟨b, hb⟩ : ∃ b, b = thN m p := ⟨_, rfl⟩
    rw [← ha, ← hb] at TH
    clear h e ha hb
    go_enter Try.func27, Try.ntmps27
    go_wp2_with fail
    refine TH.out.mono ?_; rintro e w1 ⟨rfl, rfl⟩
    go_wp2
    go_ret2
    exact ⟨rfl, rfl⟩
  have hN := thN_of hb
  obtain ⟨q1, q2, q3, q4⟩ := findB_lt hb
  obtain ⟨a, ha⟩ : ∃ a : Nat, atV p = (a : Int) := ⟨(atV p).toNat, by have := atV_nn hp.1; omega⟩
  rw [q2, ha, Int.toNat_natCast] at hN
  rw [ha, Int.toNat_natCast] at q3 q4
  have hsn := h.full.snd a q3 q4
  rw [hb, q2, ha, hN] at TH
  have hnn := splS_nn (h.full.wf _ (List.getElem_mem q3)).1
  rw [← getD_at q3] at hnn
  obtain ⟨sz, hsz⟩ : ∃ sz : Nat, splS (m.ws.getD a 0) = (sz : Int) := ⟨(splS (m.ws.getD a 0)).toNat, by omega⟩
  have hP : placeR m p i = if i < 0 ∨ (sz : Int) ≤ i then (0, 1) else ((a : Int) + 1 + i, 0) := by
    unfold placeR; rw [hb, if_neg (by decide), q2, ha, Int.toNat_natCast, hsz]
  rw [hsz] at TH hsn hnn
  have hlt := h.full.lt
  have hsm : a + 1 + sz ≤ m.ws.length := by have := hsn.2.1; rwa [Int.toNat_natCast] at this
  by_cases hi : i < 0
  · have e : getR m p i = (0, 1) := by unfold getR; rw [hP.trans (if_pos (.inl hi))]; rfl
    have dd := decide_eq_true hi
    rw [e]
    clear h e hP hN q1 q2 q3 q4 ha hsn hsz
    go_enter Try.func27, Try.ntmps27
    go_wp2_with fail
    refine TH.out.mono ?_; rintro e w1 ⟨rfl, rfl⟩
    go_wp2
    go_ret2
    exact ⟨rfl, rfl⟩
  have dd := decide_eq_false hi
  by_cases hi2 : (sz : Int) ≤ i
  · have e : getR m p i = (0, 1) := by unfold getR; rw [hP.trans (if_pos (.inr hi2))]; rfl
    have dd2 := decide_eq_true hi2
    rw [e]
    clear h e hP hN q1 q2 q3 q4 ha hsn hsz
    go_enter Try.func27, Try.ntmps27
    go_wp2_with fail
    refine TH.out.mono ?_; rintro e w1 ⟨rfl, rfl⟩
    go_wp2
    go_ret2
    exact ⟨rfl, rfl⟩
  have dd2 := decide_eq_false hi2
  obtain ⟨k, rfl⟩ : ∃ k : Nat, i = (k : Int) := ⟨i.toNat, by omega⟩
  have e : getR m p k = (m.ws.getD (a + 1 + k) 0, 0) := by
    unfold getR
    rw [hP.trans (if_neg (by omega)), if_neg (by simp)]
    show (m.ws.getD (((a : Int) + 1 + (k : Int)).toNat) 0, (0 : Int)) = _
    rw [show ((a : Int) + 1 + (k : Int)).toNat = a + 1 + k from by omega]
  have hk : a + 1 + k < m.ws.length := by omega
  rw [e, getD_at hk]
  obtain ⟨A, c, f0, f1, f2, hin, fz, own⟩ := h.cells
  obtain ⟨b, off, rfl, hbl, hc⟩ := hin.at (by omega)
  have hck := hc _ hk
  obtain ⟨x, hx⟩ : ∃ x, x = m.ws[a + 1 + k] := ⟨_, rfl⟩
  rw [← hx] at hck ⊢
  obtain ⟨L, hL⟩ : ∃ L, L = m.ws.length := ⟨_, rfl⟩
  rw [← hL] at f1 hk hlt
  have w1_ : IntKind.i64.wrap ((a : Int) + 1) = (a : Int) + 1 := IntWalk.i64_in _ (by omega)
  have w2_ : IntKind.i64.wrap ((a : Int) + 1 + (k : Int)) = (a : Int) + 1 + (k : Int) := IntWalk.i64_in _ (by omega)
  have hkn : (a : Int) + 1 + (k : Int) < (L : Int) := by omega
  have hck2 : w.cell? ⟨b, off + (a + 1 + k), none⟩ = some (.int .u64 x) := hck
  have htn : ((a : Int) + 1 + (k : Int)).toNat = a + 1 + k := by omega
  have hnn0 : 0 ≤ (a : Int) + 1 + (k : Int) := by omega
  clear h e hP hN q1 q2 q3 q4 ha hsn hsz hin own hc hx f0 f2 fz hL
  go_enter Try.func27, Try.ntmps27
  go_wp2_with fail
  refine TH.out.mono ?_; rintro e w1 ⟨rfl, rfl⟩
  go_wp2
  go_ret2
  exact ⟨rfl, rfl⟩
theorem res28 {tmps : Array Value} {W : World} {a b c d : Value} (h4 : tmps.getD 4 undef = a) (h5 : tmps.getD 5 undef = b) (h6 : tmps.getD 6 undef = c) (h7 : tmps.getD 7 undef = d) :
    (results Try.f28 tmps).run Try.prog W = .ok (.tuple #[a, b, c, d]) W := by
  simp only [Array.getD_eq_getD_getElem?] at h4 h5 h6 h7
  simp [results, Try.f28, go_sem, h4, h5, h6, h7]
set_option maxRecDepth 100000 in
set_option maxHeartbeats 4000000 in
theorem rhead_of {w : World} {B H : Nat} {m : Hm} (h : RH w B H m) (p : Int) (hp : U64 p) :
    Calls Try.prog 28 #[.pointer (some ⟨H, 0, none⟩), .int .u64 p] w fun e w' => e = .returned (.tuple #[.int .i64 (headR m p).1, .int .i64 (headR m p).2.1, .int .i64 (headR m p).2.2.1, .int .i64 (headR m p).2.2.2]) ∧ w = w' := by
  have TH := Lib.hid (thing_any h p hp)
  cases hb : findB m p
  · have e : headR m p = (0, 0, 0, 4) := by unfold headR; rw [hb]; rfl
    rw [e]
    rw [hb] at TH
    obtain ⟨a, ha⟩ : ∃ a, a = findV m p := ⟨_, rfl⟩
    obtain ⟨b, hb⟩ : ∃ b, b = thN m p := ⟨_, rfl⟩
    rw [← ha, ← hb] at TH
    clear h e ha hb
    go_enter Try.func28, Try.ntmps28
    go_wp2_with fail
    refine TH.out.mono ?_; rintro e w1 ⟨rfl, rfl⟩
    go_wp2
    exact bodyPost_ret (res28 rfl rfl rfl rfl) rfl ⟨rfl, rfl⟩
  obtain ⟨q1, q2, q3, q4⟩ := findB_lt hb
  obtain ⟨a, ha⟩ : ∃ a : Nat, atV p = (a : Int) := ⟨(atV p).toNat, by have := atV_nn hp.1; omega⟩
  rw [ha, Int.toNat_natCast] at q3 q4
  have e : headR m p = (splK (m.ws.getD a 0), splT (m.ws.getD a 0), splS (m.ws.getD a 0), 0) := by
    unfold headR; rw [hb, if_pos rfl, q2, ha, Int.toNat_natCast]
  rw [e]
  rw [hb, q2, ha] at TH
  obtain ⟨b1, hb1⟩ : ∃ b, b = thN m p := ⟨_, rfl⟩
  rw [← hb1] at TH
  obtain ⟨A, c, f0, f1, f2, hin, fz, own⟩ := h.cells
  obtain ⟨b, off, rfl, hbl, hc⟩ := hin.at (by omega)
  have hck := hc _ q3
  have hux := h.full.wf _ (List.getElem_mem q3)
  have hlt := h.full.lt
  rw [getD_at q3]
  obtain ⟨x, hx⟩ : ∃ x, x = m.ws[a] := ⟨_, rfl⟩
  rw [← hx] at hck hux ⊢
  obtain ⟨L, hL⟩ : ∃ L, L = m.ws.length := ⟨_, rfl⟩
  rw [← hL] at f1 q3 hlt
  have SP := Lib.hid (rsplit_any x hux.1 hux.2 w)
  have hkn : (a : Int) < (L : Int) := by omega
  clear h e q1 q2 q4 ha hin own hc hx f0 f2 fz hL hb1 hb hux
  go_enter Try.func28, Try.ntmps28
  go_wp2_with fail
  refine TH.out.mono ?_; rintro e w1 ⟨rfl, rfl⟩
  go_wp2_with fail
  refine SP.out.mono ?_; rintro e w1 ⟨rfl, rfl⟩
  go_wp2
  exact bodyPost_ret (res28 rfl rfl rfl rfl) rfl ⟨rfl, rfl⟩
theorem full_set {m : Hm} (h : Full m) {p i x : Int} (hp : U64 p) (hx : U64 x) : Full (setM m p i x) := by
  unfold setM
  split
  · rename_i he
    have hpl : (placeR m p i).2 = 0 := by
      unfold setE at he
      split at he
      · exact he
      · rename_i h3; simpa using h3
    have hf : fitsB m x = true := by
      cases hf : fitsB m x
      · unfold setE at he
        rw [if_neg (by rw [hpl]; decide), if_pos hf] at he; cases he
      · rfl
    obtain ⟨k, hk, hkl, _⟩ := place_lt h.toOk hp hpl
    have hfree := place_free h.toOk hp hpl
    rw [hk, Int.toNat_natCast] at hfree ⊢
    have mono : ∀ {y}, fitsB m y = true → fitsB (m.setW k x) y = true := fun hy => fits_mono (m := m) (m' := m.setW k x) (fun i _ => rfl) (by simp [Hm.setW]) hy
    refine ⟨setW_ok h.toOk hx hfree, ⟨?_, fun a ha hst => ?_⟩, fun j hj hst => ?_⟩
    · simp only [Hm.setW, List.length_set]; exact h.tight.zero
    · simp only [Hm.setW, List.length_set] at ha hst ⊢
      have hne : a ≠ k := fun e => by rw [e, hfree] at hst; cases hst
      have e : szN (m.ws.set k x) a = szN m.ws a := by unfold szN; rw [getD_set_ne _ _ _ _ hne]
      rw [e]
      exact h.tight.next a ha hst
    · simp only [Hm.setW, List.length_set] at hj hst ⊢
      by_cases hjk : j = k
      · subst hjk
        rw [getD_set_same _ _ _ hj]; exact mono hf
      · rw [getD_set_ne _ _ _ _ hjk]; exact mono (h.fit j hj hst)
  · exact h
theorem RH.setW {w : World} {B H : Nat} {m : Hm} (h : RH w B H m) {g n c i : Nat} {v : Int} (hg : w.cell? ⟨H, 1, none⟩ = some (.slice (some ⟨g, 0, none⟩) n c)) (hF : Full (m.setW i v)) :
    RH (w.setCell ⟨g, i, none⟩ (.int .u64 v)) B H (m.setW i v) ∧ Frm w (w.setCell ⟨g, i, none⟩ (.int .u64 v)) (RR w H) := by
  obtain ⟨T, A, c', t, h1, h2⟩ := h.at_
  have e1 : w.cell? ⟨H, 1, none⟩ = some (.slice A m.ws.length c') := by simp [World.cell?, h1]
  rw [e1] at hg; injection hg with hg; injection hg with hA hn hc
  subst hA hn hc
  have hgH : g ≠ H := fun e => row_ne h2 h1 t (by simp [Value.ownBlock, e])
  have f : Frm w (w.setCell ⟨g, i, none⟩ (.int .u64 v)) (fun k => k = g) := frm_set i _ rfl
  have fh : (w.setCell ⟨g, i, none⟩ (.int .u64 v)).heap[H]? = w.heap[H]? := f.block H h.lt (fun e => hgH e.symm)
  refine ⟨⟨hF, by simpa [World.setCell] using h.hB, T, some ⟨g, 0, none⟩, c', t, ?_, ?_⟩, f.mono fun k _ e => ?_⟩
  · simp only [Hm.setW, List.length_set]; exact fh.trans h1
  · have := (h2.stored i (.int .u64 v)).1
    simp only [Hm.setW, List.length_set]
    rwa [show wd (m.ws.set i v) = (wd m.ws).set i (.int .u64 v) from by simp [wd, List.map_set]]
  · subst e; exact .inr ⟨_, _, e1⟩
theorem RH.frz {w : World} {B H g n c : Nat} {m : Hm} (h : RH w B H m) (hg : w.cell? ⟨H, 1, none⟩ = some (.slice (some ⟨g, 0, none⟩) n c)) (i : Nat) : w.frozen? ⟨g, i, none⟩ = false := by
  obtain ⟨T, A, c', t, h1, h2⟩ := h.at_
  have e1 : w.cell? ⟨H, 1, none⟩ = some (.slice A m.ws.length c') := by simp [World.cell?, h1]
  rw [e1] at hg; injection hg with hg; injection hg with hA _ _
  subst hA
  exact h2.frozenAt i
set_option maxRecDepth 100000 in
set_option maxHeartbeats 4000000 in
theorem rset_any {w : World} {B H : Nat} {m : Hm} (h : RH w B H m) (p i x : Int) (hp : U64 p) (hi : I64 i) (hx : U64 x) :
    Calls Try.prog 23 #[.pointer (some ⟨H, 0, none⟩), .int .u64 p, .int .i64 i, .int .u64 x] w fun e w' => e = .returned (.int .i64 (setE m p i x)) ∧ Hid (RH w' B H (setM m p i x)) ∧ Hid (Frm w w' (RR w H)) := by
  have TH := Lib.hid (thing_any h p hp)
  have WD := Lib.hid (rword_any h x hx)
  have HR := Lib.hid h
  obtain ⟨hi0, hi1⟩ := hi
  cases hb : findB m p
  · have e : setE m p i x = 4 := by unfold setE placeR; rw [hb]; rfl
    have e2 : setM m p i x = m := by unfold setM; rw [e]; rfl
    rw [e, e2]
    rw [hb] at TH
    obtain ⟨a, ha⟩ : ∃ a, a = findV m p := ⟨_, rfl⟩
    obtain ⟨b, hb⟩ : ∃ b, b = thN m p := ⟨_, rfl⟩
    rw [← ha, ← hb] at TH
    clear h e e2 ha hb hx WD
    go_enter Try.func23, Try.ntmps23
    go_wp2_with fail
    refine TH.out.mono ?_; rintro e w1 ⟨rfl, rfl⟩
    go_wp2
    go_ret
    exact ⟨rfl, HR, Lib.hid (Frm.refl _ _)⟩
  have hN := thN_of hb
  obtain ⟨q1, q2, q3, q4⟩ := findB_lt hb
  obtain ⟨a, ha⟩ : ∃ a : Nat, atV p = (a : Int) := ⟨(atV p).toNat, by have := atV_nn hp.1; omega⟩
  rw [q2, ha, Int.toNat_natCast] at hN
  rw [ha, Int.toNat_natCast] at q3 q4
  have hsn := h.full.snd a q3 q4
  rw [hb, q2, ha, hN] at TH
  have hnn := splS_nn (h.full.wf _ (List.getElem_mem q3)).1
  rw [← getD_at q3] at hnn
  obtain ⟨sz, hsz⟩ : ∃ sz : Nat, splS (m.ws.getD a 0) = (sz : Int) := ⟨(splS (m.ws.getD a 0)).toNat, by omega⟩
  have hP : placeR m p i = if i < 0 ∨ (sz : Int) ≤ i then (0, 1) else ((a : Int) + 1 + i, 0) := by
    unfold placeR; rw [hb, if_neg (by decide), q2, ha, Int.toNat_natCast, hsz]
  rw [hsz] at TH hsn hnn
  have hlt := h.full.lt
  have hsm : a + 1 + sz ≤ m.ws.length := by have := hsn.2.1; rwa [Int.toNat_natCast] at this
  by_cases hi : i < 0
  · have e : setE m p i x = 1 := by unfold setE; rw [hP.trans (if_pos (.inl hi))]; rfl
    have e2 : setM m p i x = m := by unfold setM; rw [e]; rfl
    have dd := decide_eq_true hi
    rw [e, e2]
    clear h e e2 hP hN q1 q2 q3 q4 ha hsn hsz hx WD
    go_enter Try.func23, Try.ntmps23
    go_wp2_with fail
    refine TH.out.mono ?_; rintro e w1 ⟨rfl, rfl⟩
    go_wp2
    go_ret
    exact ⟨rfl, HR, Lib.hid (Frm.refl _ _)⟩
  have dd := decide_eq_false hi
  by_cases hi2 : (sz : Int) ≤ i
  · have e : setE m p i x = 1 := by unfold setE; rw [hP.trans (if_pos (.inr hi2))]; rfl
    have e2 : setM m p i x = m := by unfold setM; rw [e]; rfl
    have dd2 := decide_eq_true hi2
    rw [e, e2]
    clear h e e2 hP hN q1 q2 q3 q4 ha hsn hsz hx WD
    go_enter Try.func23, Try.ntmps23
    go_wp2_with fail
    refine TH.out.mono ?_; rintro e w1 ⟨rfl, rfl⟩
    go_wp2
    go_ret
    exact ⟨rfl, HR, Lib.hid (Frm.refl _ _)⟩
  have dd2 := decide_eq_false hi2
  obtain ⟨k, rfl⟩ : ∃ k : Nat, i = (k : Int) := ⟨i.toNat, by omega⟩
  have hPk := hP.trans (if_neg (by omega))
  cases hf : fitsB m x
  · have e : setE m p k x = 1 := by unfold setE; rw [hPk, hf]; rfl
    have e2 : setM m p k x = m := by unfold setM; rw [e]; rfl
    rw [e, e2]
    rw [hf] at WD
    clear h e e2 hP hPk hN q1 q2 q3 q4 ha hsn hsz hx
    go_enter Try.func23, Try.ntmps23
    go_wp2_with fail
    refine TH.out.mono ?_; rintro e w1 ⟨rfl, rfl⟩
    go_wp2_with fail
    refine WD.out.mono ?_; rintro e w1 ⟨rfl, rfl⟩
    go_wp2
    go_ret
    exact ⟨rfl, HR, Lib.hid (Frm.refl _ _)⟩
  have e : setE m p k x = 0 := by unfold setE; rw [hPk, hf]; rfl
  have e2 : setM m p k x = m.setW (a + 1 + k) x := by
    unfold setM
    rw [e, if_pos rfl, hPk]
    show m.setW (((a : Int) + 1 + (k : Int)).toNat) x = _
    rw [show ((a : Int) + 1 + (k : Int)).toNat = a + 1 + k from by omega]
  have HFS := Lib.hid (full_set h.full (p := p) (i := k) hp hx)
  rw [e2] at HFS
  rw [e, e2]
  rw [hf] at WD
  have hk : a + 1 + k < m.ws.length := by omega
  obtain ⟨A, c, f0, f1, f2, hin, fz, own⟩ := h.cells
  obtain ⟨b, off, rfl, hbl, hc⟩ := hin.at (by omega)
  have hoff : off = 0 := by
    rcases own.2 with ⟨e, _⟩ | ⟨g, cap, cur, e, _⟩
    · cases e
    · injection e with e; injection e with e; injection e with _ e
  subst hoff
  have F1 := Lib.hid f1
  have hfz := h.frz f1 (a + 1 + k)
  obtain ⟨y, hck⟩ : ∃ y, w.cell? ⟨b, a + 1 + k, none⟩ = some y := ⟨_, by have := hc _ hk; rwa [Nat.zero_add] at this⟩
  obtain ⟨L, hL⟩ : ∃ L, L = m.ws.length := ⟨_, rfl⟩
  rw [← hL] at f1 hk hlt
  have w1_ : IntKind.i64.wrap ((a : Int) + 1) = (a : Int) + 1 := IntWalk.i64_in _ (by omega)
  have w2_ : IntKind.i64.wrap ((a : Int) + 1 + (k : Int)) = (a : Int) + 1 + (k : Int) := IntWalk.i64_in _ (by omega)
  have hkn : (a : Int) + 1 + (k : Int) < (L : Int) := by omega
  have htn : ((a : Int) + 1 + (k : Int)).toNat = a + 1 + k := by omega
  have hnn0 : 0 ≤ (a : Int) + 1 + (k : Int) := by omega
  clear h e e2 hP hPk hN q1 q2 q3 q4 ha hsn hsz hin own hc f0 f2 fz hL hx
  go_enter Try.func23, Try.ntmps23
  go_wp2_with fail
  refine TH.out.mono ?_; rintro e w1 ⟨rfl, rfl⟩
  go_wp2_with fail
  refine WD.out.mono ?_; rintro e w1 ⟨rfl, rfl⟩
  go_wp2
  go_ret
  have z := HR.out.setW (i := a + 1 + k) F1.out HFS.out
  exact ⟨rfl, Lib.hid z.1, Lib.hid z.2⟩
end Go.Proofs.Ytknpgmbniohcnaa
