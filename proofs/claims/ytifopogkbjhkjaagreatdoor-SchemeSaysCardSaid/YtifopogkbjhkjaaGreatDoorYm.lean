import Derived.Test.YtifopogkbjhkjaaGreatDoorYk
namespace Go.Proofs.YtifopogkbjhkjaaGreatDoor
open DR
open Go.ChangeShapes Go.WideShapes Go.ChangeAt Go.RowKit Go.WideMaps
set_option linter.unusedVariables false
set_option linter.unusedSimpArgs false
theorem own_cell {w : World} {B e s n g j : Nat} {v : Value} {xs : List Value} (h : w.ownsRow B e s v n xs) (hg : v.ownBlock = some g) (hj : j < n * s) : (∃ y, w.cell? ⟨g, j, none⟩ = some y) ∧ w.frozen? ⟨g, j, none⟩ = false := by
  rcases h.2 with ⟨rfl, _⟩ | ⟨g', cap, cur, rfl, e2, e3, e4, e5, e6, e7⟩
  · cases hg
  · simp only [Value.ownBlock] at hg
    injection hg with hg
    subst hg
    have : j < cur.size := by rw [e6]; exact Nat.lt_of_lt_of_le hj (Nat.mul_le_mul_right _ e4)
    exact ⟨⟨cur[j], by simp [World.cell?, e3, this]⟩, by simp [World.frozen?, e3]⟩
theorem sub_frz {w : World} {S : Nat} {a b : Value} {t : TypeId} (h : w.heap[S]? = some (.cells #[a, b] t (0, 0))) (j : Nat) : w.frozen? ⟨S, j, none⟩ = false := by simp [World.frozen?, h]
theorem size_alloc (w : World) (o : Obj) : (w.alloc o).heap.size = w.heap.size + 1 := by simp
theorem UM_ne {w : World} {K Pr : Nat → Prop} {B ub sb g n' c : Nat} {n : Int} {u : US} {sv : Value} {xs : List Value} (h : UM w K Pr B ub sb n u (.slice (some ⟨g, 0, none⟩) n' c) sv xs) : g ≠ sb := h.sub.rne g rfl
def StPost (K Pr : Nat → Prop) (B ub sb : Nat) (n : Int) (u : US) (w : World) (e : Ending) (w' : World) : Prop := e = .returned (.tuple #[]) ∧ (∃ rv sv xs, UM w' K Pr B ub sb n u rv sv xs) ∧ Frm w w' (Tn Pr B)
def LpS (K Pr : Nat → Prop) (B ub sb : Nat) (n : Int) (u : US) (m : Nat) (wA : World) (p : Nat) (gk : Nat) (wr : World) : Prop := ∃ (k : Nat) (rv sv : Value) (xs : List Value), k ≤ m + 1 - u.st.length ∧ m + 1 - u.st.length - k ≤ gk ∧ Hid (UM wr K Pr B ub sb n ⟨u.st ++ List.replicate k zeroT, u.set⟩ rv sv xs) ∧ Hid (Frm wA wr (Tn Pr B)) ∧ Hid (rv.ownBlock ≠ some p ∧ wr.heap[p]? = wA.heap[p]?)
theorem push_same (l : List TT) (k : Nat) : l ++ List.replicate k zeroT ++ [zeroT] = l ++ List.replicate (k + 1) zeroT := by
  rw [List.append_assoc, List.replicate_succ']
theorem set_last_same (l : List TT) (x : Nat) (hx : x = l.length) : (l ++ [zeroT]).set x zeroT = l ++ [zeroT] := by
  subst hx
  rw [List.set_append_right _ _ (Nat.le_refl _)]; simp
theorem kid_zero_news {w : World} {b : Nat} (h : w.heap[b]? = some (.cells #[.int .i64 0, .string ⟨#[]⟩, .int .i64 0, .slice none 0 0] TT24 (0, 0))) : ∀ j u, (kidT zeroT none 0)[j]? = some u → w.cell? ((⟨b, 0, none⟩ : Addr).add j) = some u :=
  kid_news (T := zeroT) (A := none) (c := 0) h
/-- a row that a place more is written to. -/
theorem lp_push {K Pr : Nat → Prop} {B ub sb m p k L rc g cap : Nat} {n : Int} {u : US} {sv : Value} {xs : List Value} {rA : Option Addr} {wA wr w3 w4 : World} (hL : L = u.st.length + k) (HM : UM wr K Pr B ub sb n ⟨u.st ++ List.replicate k zeroT, u.set⟩ (.slice rA L rc) sv xs) (hB : B ≤ wr.heap.size) (hp : p < wr.heap.size) (HF : Frm wA wr (Tn Pr B)) (HNP : (Value.slice rA L rc).ownBlock ≠ some p ∧ wr.heap[p]? = wA.heap[p]?) (hps : p ≠ sb)
    (B3 : Below wr.heap.size wr w3) (own4 : w4.ownsRow B TT24 4 (.slice (some ⟨g, 0, none⟩) (L + 1) cap) (L + 1) (xs ++ kidT zeroT none 0)) (gr4 : w3.grownBy w4 (Value.slice rA L rc).ownBlock) (at4 : (Value.slice rA L rc).ownBlock = some g ∨ g = w3.heap.size) :
    UM (w4.setCell ⟨sb, 1, none⟩ (.slice (some ⟨g, 0, none⟩) (L + 1) cap)) K Pr B ub sb n ⟨u.st ++ List.replicate (k + 1) zeroT, u.set⟩ (.slice (some ⟨g, 0, none⟩) (L + 1) cap) sv (xs ++ kidT zeroT none 0) ∧ Frm wA (w4.setCell ⟨sb, 1, none⟩ (.slice (some ⟨g, 0, none⟩) (L + 1) cap)) (Tn Pr B) ∧ (g ≠ p ∧ (w4.setCell ⟨sb, 1, none⟩ (.slice (some ⟨g, 0, none⟩) (L + 1) cap)).heap[p]? = wA.heap[p]?) := by
  have hlen : (u.st ++ List.replicate k zeroT).length = L := by rw [hL]; simp
  have hs := B3.size
  obtain ⟨h1, f⟩ := HM.push (v' := .slice (some ⟨g, 0, none⟩) (L + 1) cap) hB B3 (by rw [show (US.st ⟨u.st ++ List.replicate k zeroT, u.set⟩) = u.st ++ List.replicate k zeroT from rfl, hlen]; exact own4) gr4 (by
    rcases at4 with e | e
    · exact .inl e.symm
    · right; rw [← e]; rfl)
  have e2 : (US.mk (u.st ++ List.replicate k zeroT ++ [zeroT]) u.set) = ⟨u.st ++ List.replicate (k + 1) zeroT, u.set⟩ := by rw [push_same]
  rw [show (US.mk ((US.st ⟨u.st ++ List.replicate k zeroT, u.set⟩) ++ [zeroT]) (US.set ⟨u.st ++ List.replicate k zeroT, u.set⟩)) = ⟨u.st ++ List.replicate (k + 1) zeroT, u.set⟩ from e2] at h1
  refine ⟨h1, HF.trans (HM.fine f), fun e => ?_, (f.block p hp (fun e => ?_)).trans HNP.2⟩
  · rcases at4 with q | q
    · rw [e] at q; exact HNP.1 q
    · omega
  · rcases e with e | e
    · exact hps e
    · exact HNP.1 e
/-- the zero type once more. -/
theorem lp_zero {K Pr : Nat → Prop} {B ub sb m p k L g cap : Nat} {n : Int} {u : US} {sv : Value} {xs : List Value} {wA wr : World} (hL : L = u.st.length + k) (HM : UM wr K Pr B ub sb n ⟨u.st ++ List.replicate (k + 1) zeroT, u.set⟩ (.slice (some ⟨g, 0, none⟩) (L + 1) cap) sv xs) (hp : p < wr.heap.size) (HF : Frm wA wr (Tn Pr B)) (HNP : g ≠ p ∧ wr.heap[p]? = wA.heap[p]?) :
    UM ((((wr.setCell ⟨g, L * 4, none⟩ (.int .i64 0)).setCell ⟨g, L * 4 + 1, none⟩ (.string ⟨#[]⟩)).setCell ⟨g, L * 4 + 2, none⟩ (.int .i64 0)).setCell ⟨g, L * 4 + 3, none⟩ (.slice none 0 0)) K Pr B ub sb n ⟨u.st ++ List.replicate (k + 1) zeroT, u.set⟩ (.slice (some ⟨g, 0, none⟩) (L + 1) cap) sv (setK xs L zeroT none 0) ∧ Frm wA ((((wr.setCell ⟨g, L * 4, none⟩ (.int .i64 0)).setCell ⟨g, L * 4 + 1, none⟩ (.string ⟨#[]⟩)).setCell ⟨g, L * 4 + 2, none⟩ (.int .i64 0)).setCell ⟨g, L * 4 + 3, none⟩ (.slice none 0 0)) (Tn Pr B) ∧ (g ≠ p ∧ ((((wr.setCell ⟨g, L * 4, none⟩ (.int .i64 0)).setCell ⟨g, L * 4 + 1, none⟩ (.string ⟨#[]⟩)).setCell ⟨g, L * 4 + 2, none⟩ (.int .i64 0)).setCell ⟨g, L * 4 + 3, none⟩ (.slice none 0 0)).heap[p]? = wA.heap[p]?) := by
  have hlen : (u.st ++ List.replicate (k + 1) zeroT).length = L + 1 := by rw [hL]; simp; omega
  obtain ⟨h1, f⟩ := HM.put (t := zeroT) (A := none) (c := 0) (cap := cap) (g := g) L (by show L < (u.st ++ List.replicate (k + 1) zeroT).length; omega) (.inl rfl) (by show _ = Value.slice _ (u.st ++ List.replicate (k + 1) zeroT).length _; rw [hlen]) (L * 4) rfl
  have e2 : (u.st ++ List.replicate (k + 1) zeroT).set L zeroT = u.st ++ List.replicate (k + 1) zeroT := by
    rw [← push_same]; exact set_last_same _ _ (by rw [hL]; simp)
  rw [show (US.mk ((US.st ⟨u.st ++ List.replicate (k + 1) zeroT, u.set⟩).set L zeroT) (US.set ⟨u.st ++ List.replicate (k + 1) zeroT, u.set⟩)) = ⟨u.st ++ List.replicate (k + 1) zeroT, u.set⟩ by show US.mk ((u.st ++ List.replicate (k + 1) zeroT).set L zeroT) u.set = _; rw [e2]] at h1
  exact ⟨h1, HF.trans (HM.fine2 f), HNP.1, (f.block p hp (fun e => by injection e with e; exact HNP.1 e)).trans HNP.2⟩
set_option maxRecDepth 100000 in
set_option maxHeartbeats 8000000 in
theorem stand_any {K Pr : Nat → Prop} {B ub sb : Nat} {n v : Int} {u : US} {rv0 sv0 : Value} {xs0 : List Value} {t : TT} {x : Value} {w : World} (h : UM w K Pr B ub sb n u rv0 sv0 xs0) (hB : B ≤ w.heap.size) (hv0 : 0 ≤ v) (hv1 : v ≤ 1999) (hl : u.st.length ≤ 2000) (hs : u.set.length ≤ 2000) (ht : TIn w K t x) :
    Calls Tryz.prog 49 #[.pointer (some ⟨ub, 0, none⟩), .int .i64 v, x] w (StPost K Pr B ub sb n (standU u v t) w) := by
  obtain ⟨m, rfl⟩ : ∃ m : Nat, v = m := ⟨v.toNat, by omega⟩
  obtain ⟨i0, hi0, hz0, hz1, hz2⟩ := info_parts infoT
  obtain ⟨A, c, hx, hA⟩ := ht
  subst hx
  unfold tv
  obtain ⟨wA, hwA⟩ : ∃ z, z = w.alloc (.cells #[.int .i64 t.k, .string t.nm, .int .i64 t.vr, .slice A t.args.length c] 24) := ⟨_, rfl⟩
  have BA := Lib.hid (show Below w.heap.size w wA by rw [hwA]; exact below_alloc w _)
  have HX := Lib.hid (show wA.heap[w.heap.size]? = some (.cells #[.int .i64 t.k, .string t.nm, .int .i64 t.vr, .slice A t.args.length c] 24 (0, 0)) by rw [hwA]; exact heap_alloc_new w _)
  have HZ := Lib.hid (show wA.heap.size = w.heap.size + 1 by rw [hwA]; simp)
  have HA := Lib.hid (hA.later BA.out)
  have HU := Lib.hid (h.later BA.out)
  have HWA := Lib.hid hwA
  have HB := Lib.hid hB
  have HKP := Lib.hid (h.sub.kp)
  have HFA := Lib.hid (Frm.of_below BA.out (Nat.le_refl _) (Tn Pr B))
  have HSL := Lib.hid h.sub.slt
  have HNB := Lib.hid (show rv0.ownBlock ≠ some w.heap.size from fun e => by have := (h.sub.row.lt _ e).2; omega)
  clear hwA h hA hB
  go_enter Tryz.func49, Tryz.ntmps49
  go_wp2
  try rw [← HWA.out]
  go_loopg [] (m + 1 - u.st.length) (fun gk wr => LpS K Pr B ub sb n u m wA w.heap.size gk wr)
  case atStart => exact ⟨0, rv0, sv0, xs0, by omega, by omega, Lib.hid (by rw [show u.st ++ List.replicate 0 zeroT = u.st by simp]; exact HU.out), Lib.hid (Frm.refl _ _), Lib.hid ⟨HNB.out, rfl⟩⟩
  case round =>
    obtain ⟨k, rv, sv, xs, hk, hgk, HM, HF, HNP⟩ := hrel
    obtain ⟨L, hL⟩ : ∃ L, L = u.st.length + k := ⟨_, rfl⟩
    have HLEN := Lib.hid (show (US.st ⟨u.st ++ List.replicate k zeroT, u.set⟩).length = L by rw [hL]; simp)
    have HLK := Lib.hid hL
    have hl3 : L ≤ 2000 := by omega
    obtain ⟨rA, rc, hrv, -⟩ := HM.out.sub.trow
    rw [HLEN.out] at hrv
    subst hrv
    have U0 := Lib.hid (sub_cell HM.out.ubc).1
    have S1 := Lib.hid (sub_cell HM.out.sub.sbc).2
    have USZ := Lib.hid (show ub < wr.heap.size ∧ sb < wr.heap.size from ⟨HM.out.ult, HM.out.sub.slt⟩)
    have ROW := Lib.hid HM.out.sub.row
    rw [HLEN.out] at ROW
    have WSZ := Lib.hid (show w.heap.size < wr.heap.size ∧ B ≤ wr.heap.size by have := HF.out.size; have := HZ.out; have := HB.out; omega)
    have HPS := Lib.hid (show w.heap.size ≠ sb by have := HSL.out; omega)
    have u0 := U0.out
    have s1 := S1.out
    by_cases hle : L ≤ m
    · have dle := decide_eq_true (show (L : Int) ≤ (m : Int) by omega)
      clear hL
      go_wp2_with fail
      refine wp_region_D [1, 2, 3] (fun w' => True) (by kernel_rfl) (trivial) (fun hHeld => ?_)
      refine WD_ready (rs := [0]) (by kernel_rfl) (by simp) ?_
      refine AllD.cons (o := _) rfl (fun K hK => ?_) AllD.nil
      rw [if_pos (by rfl)]
      go_simp
      refine hK.out _ _ (trivial) (fun hHeld => ?_)
      clear hK K
      (try simp only [putz])
      refine WD_ready (rs := [1, 2]) (by kernel_rfl) (by simp) ?_
      refine AllD.last (o := _) rfl (by kernel_rfl) (fun K hK => ?_) (AllD.last (o := _) rfl (by kernel_rfl) (fun K hK => ?_) AllD.nil)
      focus
        rw [if_pos (by rfl)]
        go_simp
        refine hK.out _ _ ?_
        clear hK K
        (try simp only [putz])
        refine WD_ready (rs := [2]) (by kernel_rfl) (by simp) ?_
        refine AllD.last (o := _) rfl (by kernel_rfl) (fun K hK => ?_) AllD.nil
        rw [if_pos (by rfl)]
        go_simp
        refine hK.out _ _ ?_
        clear hK K
        (try simp only [putz])
        refine WD_ready (rs := [3]) (by kernel_rfl) (by simp) ?_
        refine AllD.last (o := _) rfl (by kernel_rfl) (fun K hK => ?_) AllD.nil
        rw [if_pos (by rfl)]
        go_simp
        refine hK.out _ _ ?_
        clear hK K
        (try simp only [putz])
        refine WD_done (by kernel_rfl) ?_ _
        obtain ⟨wC, hwC⟩ : ∃ z, z = (wr.alloc (.cells #[.bool false] 4)).drew := ⟨_, rfl⟩
        rw [← hwC]
        have BC := Lib.hid (show Below wr.heap.size wr wC by rw [hwC]; exact (below_alloc wr _).drew)
        have HWC := Lib.hid hwC
        clear hwC
        have v0 := (BC.out.cell (p := ⟨ub, 0, none⟩) USZ.out.1).trans u0
        have v1 := (BC.out.cell (p := ⟨sb, 1, none⟩) USZ.out.2).trans s1
        have VZ := Lib.hid (show ub < wC.heap.size ∧ sb < wC.heap.size ∧ B ≤ wC.heap.size by have := BC.out.size; have := USZ.out; have := WSZ.out; omega)
        clear u0 s1
        go_wp2_with fail
      rotate_left
      focus
        rw [if_pos (by rfl)]
        go_simp
        refine hK.out _ _ ?_
        clear hK K
        (try simp only [putz])
        refine WD_ready (rs := [1]) (by kernel_rfl) (by simp) ?_
        refine AllD.last (o := _) rfl (by kernel_rfl) (fun K hK => ?_) AllD.nil
        rw [if_pos (by rfl)]
        go_simp
        refine hK.out _ _ ?_
        clear hK K
        (try simp only [putz])
        refine WD_ready (rs := [3]) (by kernel_rfl) (by simp) ?_
        refine AllD.last (o := _) rfl (by kernel_rfl) (fun K hK => ?_) AllD.nil
        rw [if_pos (by rfl)]
        go_simp
        refine hK.out _ _ ?_
        clear hK K
        (try simp only [putz])
        refine WD_done (by kernel_rfl) ?_ _
        obtain ⟨wC, hwC⟩ : ∃ z, z = (wr.alloc (.cells #[.bool true] 4)).drew := ⟨_, rfl⟩
        rw [← hwC]
        have BC := Lib.hid (show Below wr.heap.size wr wC by rw [hwC]; exact (below_alloc wr _).drew)
        have HWC := Lib.hid hwC
        clear hwC
        have v0 := (BC.out.cell (p := ⟨ub, 0, none⟩) USZ.out.1).trans u0
        have v1 := (BC.out.cell (p := ⟨sb, 1, none⟩) USZ.out.2).trans s1
        have VZ := Lib.hid (show ub < wC.heap.size ∧ sb < wC.heap.size ∧ B ≤ wC.heap.size by have := BC.out.size; have := USZ.out; have := WSZ.out; omega)
        clear u0 s1
        skip
      rotate_left
      · skip
        refine wp_region_D [16] (fun w' => w'.cell? ⟨ub, 0, none⟩ = some (.pointer (some ⟨sb, 0, none⟩)) ∧ w'.cell? ⟨sb, 1, none⟩ = some (.slice rA L rc)) (by kernel_rfl) (⟨v0, v1⟩) (fun hHeld => ?_)
        refine WDs 0 ⟨some 32, .move (.tmp 0), 84, _, #[], none⟩ ?vb0 ?hyb0 hHeld ?_
        case hyb0 => (intro wz hSw; (try dsimp only at hSw); have z0 := hSw.1; have z1 := hSw.2; go_simp; try with_reducible rfl)
        (try simp only [putz])
        refine WDs 1 ⟨some 33, .nilCheck (.tmp 32), 0, _, #[⟨0, .data⟩], none⟩ ?vb1 ?hyb1 hHeld ?_
        case hyb1 => (intro wz hSw; (try dsimp only at hSw); have z0 := hSw.1; have z1 := hSw.2; go_simp; try with_reducible rfl)
        (try simp only [putz])
        refine WDs 2 ⟨some 34, .fieldAddr 67 (.tmp 33) 0, 0, _, #[⟨1, .data⟩], none⟩ ?vb2 ?hyb2 hHeld ?_
        case hyb2 => (intro wz hSw; (try dsimp only at hSw); have z0 := hSw.1; have z1 := hSw.2; go_simp; try with_reducible rfl)
        (try simp only [putz])
        refine WDs 3 ⟨some 35, .load 31 (.tmp 34), 31, _, #[⟨2, .data⟩], none⟩ ?vb3 ?hyb3 hHeld ?_
        case hyb3 => (intro wz hSw; (try dsimp only at hSw); have z0 := hSw.1; have z1 := hSw.2; go_simp; try with_reducible rfl)
        (try simp only [putz])
        refine WDs 4 ⟨some 36, .move (.tmp 0), 84, _, #[], none⟩ ?vb4 ?hyb4 hHeld ?_
        case hyb4 => (intro wz hSw; (try dsimp only at hSw); have z0 := hSw.1; have z1 := hSw.2; go_simp; try with_reducible rfl)
        (try simp only [putz])
        refine WDs 5 ⟨some 37, .nilCheck (.tmp 36), 0, _, #[⟨4, .data⟩], none⟩ ?vb5 ?hyb5 hHeld ?_
        case hyb5 => (intro wz hSw; (try dsimp only at hSw); have z0 := hSw.1; have z1 := hSw.2; go_simp; try with_reducible rfl)
        (try simp only [putz])
        refine WDs 6 ⟨some 38, .fieldAddr 67 (.tmp 37) 0, 0, _, #[⟨5, .data⟩], none⟩ ?vb6 ?hyb6 hHeld ?_
        case hyb6 => (intro wz hSw; (try dsimp only at hSw); have z0 := hSw.1; have z1 := hSw.2; go_simp; try with_reducible rfl)
        (try simp only [putz])
        refine WDs 7 ⟨some 39, .load 31 (.tmp 38), 31, _, #[⟨6, .data⟩], none⟩ ?vb7 ?hyb7 hHeld ?_
        case hyb7 => (intro wz hSw; (try dsimp only at hSw); have z0 := hSw.1; have z1 := hSw.2; go_simp; try with_reducible rfl)
        (try simp only [putz])
        refine WDs 8 ⟨some 40, .nilCheck (.tmp 39), 0, _, #[⟨7, .data⟩], none⟩ ?vb8 ?hyb8 hHeld ?_
        case hyb8 => (intro wz hSw; (try dsimp only at hSw); have z0 := hSw.1; have z1 := hSw.2; go_simp; try with_reducible rfl)
        (try simp only [putz])
        refine WDs 9 ⟨some 41, .fieldAddr 65 (.tmp 40) 1, 0, _, #[⟨8, .data⟩], none⟩ ?vb9 ?hyb9 hHeld ?_
        case hyb9 => (intro wz hSw; (try dsimp only at hSw); have z0 := hSw.1; have z1 := hSw.2; go_simp; try with_reducible rfl)
        (try simp only [putz])
        refine WDs 10 ⟨some 42, .load 22 (.tmp 41), 22, _, #[⟨9, .data⟩], none⟩ ?vb10 ?hyb10 hHeld ?_
        case hyb10 => (intro wz hSw; (try dsimp only at hSw); have z0 := hSw.1; have z1 := hSw.2; go_simp; try with_reducible rfl)
        (try simp only [putz])
        refine WDs 11 ⟨some 43, .build 24 #[], 24, _, #[], none⟩ ?vb11 ?hyb11 hHeld ?_
        case hyb11 => (intro wz hSw; (try dsimp only at hSw); have z0 := hSw.1; have z1 := hSw.2; go_simp; try with_reducible rfl)
        (try simp only [putz])
        refine WD_ready (rs := [12]) (by kernel_rfl) (by simp) ?_
        refine AllD.cons (o := _) rfl (fun K hK => ?_) AllD.nil
        rw [if_pos (by rfl)]
        go_simp
        refine hK.out _ _ (⟨((below_alloc wC _).cell (p := ⟨ub, 0, none⟩) VZ.out.1).trans v0, ((below_alloc wC _).cell (p := ⟨sb, 1, none⟩) VZ.out.2.1).trans v1⟩) (fun hHeld => ?_)
        clear hK K
        (try simp only [putz])
        clear hHeld
        obtain ⟨w3, hw3⟩ : ∃ z, z = (wC.alloc (.cells #[.int .i64 0, .string ⟨#[]⟩, .int .i64 0, .slice none 0 0] 24)).drew := ⟨_, rfl⟩
        rw [← hw3]
        have N3 : Hid (w3.heap[wC.heap.size]? = some (.cells #[.int .i64 0, .string ⟨#[]⟩, .int .i64 0, .slice none 0 0] 24 (0, 0))) := Lib.hid (by rw [hw3]; exact heap_alloc_new wC _)
        have B3 := Lib.hid (show Below wC.heap.size wC w3 by rw [hw3]; exact (below_alloc wC _).drew)
        have O3 := Lib.hid (own_bl (own_bl ROW.out BC.out) B3.out)
        have Q3 := Lib.hid (show B ≤ w3.heap.size by have := B3.out.size; have := VZ.out; omega)
        have hq3 := Q3.out
        have frz3 : ∀ j, w3.frozen? ⟨sb, j, none⟩ = false := fun j => (World.frozen?_of_block ((bt BC.out B3.out).block sb USZ.out.2)).trans (sub_frz HM.out.sub.sbc j)
        have c3u := (B3.out.cell (p := ⟨ub, 0, none⟩) VZ.out.1).trans v0
        have c3 := (B3.out.cell (p := ⟨sb, 1, none⟩) VZ.out.2.1).trans v1
        clear hw3
        refine WD_ready (rs := [13]) (by kernel_rfl) (by simp) ?_
        refine AllD.cons (o := _) rfl (fun K hK => ?_) AllD.nil
        refine step_append_lies _ (by rfl) (.tmp 42) (.tmp 44) 22 rfl B 24 i0 (.agg #[.int .i64 0, .string .empty, .int .i64 0, .slice none 0 0]) 4 56 Tryz.underlying22 hi0 hz0 hz1 hz2 rfl (by decide) (.slice rA L rc) L xs rfl O3.out ⟨wC.heap.size, 0, none⟩ 1 1 (kidT zeroT none 0) rfl rfl (kid_zero_news N3.out) (kid_one zeroT none 0) (by omega) (by unfold maxLen; omega) (by omega) hq3 _ rfl ?_
        intro g cap w4 own4 gr4 at4 hlt4
        have hsz3 := B3.out.size
        have c4 := gr4.cell c3 (fun e => HM.out.sub.rne sb e.symm rfl)
        have c5 := gr4.cell c3u (fun e => (HM.out.apart.2.1 ub e.symm).1 rfl)
        refine hK.out _ _ (⟨c5, c4⟩) (fun hHeld => ?_)
        clear hK K
        (try simp only [putz])
        have f4 : w4.frozen? ⟨sb, 1, none⟩ = false := (World.frozen?_of_block (gr4.block sb (by have := VZ.out; omega) (fun e => HM.out.sub.rne sb e.symm rfl))).trans (frz3 _)
        have PU := Lib.hid (lp_push (m := m) HLK.out HM.out WSZ.out.2 WSZ.out.1 HF.out HNP.out HPS.out (BC.out.trans (B3.out.mono BC.out.size)) own4 gr4 at4)
        clear own4 gr4 at4 hlt4 O3 N3 B3
        refine WDs 14 ⟨some 46, .nilCheck (.tmp 35), 0, _, #[⟨3, .data⟩, ⟨0, .phase⟩, ⟨1, .phase⟩, ⟨2, .phase⟩, ⟨3, .phase⟩, ⟨4, .phase⟩, ⟨5, .phase⟩, ⟨6, .phase⟩, ⟨7, .phase⟩, ⟨8, .phase⟩, ⟨9, .phase⟩, ⟨10, .phase⟩, ⟨11, .phase⟩, ⟨12, .phase⟩, ⟨13, .phase⟩], none⟩ ?vb14 ?hyb14 hHeld ?_
        case hyb14 => (intro wz hSw; (try dsimp only at hSw); go_simp; try with_reducible rfl)
        (try simp only [putz])
        refine WDs 15 ⟨some 47, .fieldAddr 65 (.tmp 46) 1, 0, _, #[⟨14, .data⟩, ⟨0, .phase⟩, ⟨1, .phase⟩, ⟨2, .phase⟩, ⟨3, .phase⟩, ⟨4, .phase⟩, ⟨5, .phase⟩, ⟨6, .phase⟩, ⟨7, .phase⟩, ⟨8, .phase⟩, ⟨9, .phase⟩, ⟨10, .phase⟩, ⟨11, .phase⟩, ⟨12, .phase⟩, ⟨13, .phase⟩], none⟩ ?vb15 ?hyb15 hHeld ?_
        case hyb15 => (intro wz hSw; (try dsimp only at hSw); go_simp; try with_reducible rfl)
        (try simp only [putz])
        refine WD_ready (rs := [16]) (by kernel_rfl) (by simp) ?_
        refine AllD.last (o := _) rfl (by kernel_rfl) (fun K hK => ?_) AllD.nil
        rw [if_pos (by rfl)]
        go_simp
        refine hK.out _ _ ?_
        clear hK K
        (try simp only [putz])
        refine WD_done (by kernel_rfl) ?_ _
        have hL2 := HLK.out
        go_wp2
        go_roundg (m + 1 - u.st.length - (k + 1))
        case measure => omega
        case rel => exact ⟨k + 1, _, _, _, by omega, Nat.le_refl _, Lib.hid PU.out.1, Lib.hid PU.out.2.1, Lib.hid ⟨fun e => by injection e with e; exact PU.out.2.2.1 e, PU.out.2.2.2⟩⟩
      · have OC := Lib.hid (own_bl ROW.out BC.out)
        have FC := Lib.hid (show ∀ j, (wC.alloc (.cells #[.int .i64 0, .string ⟨#[]⟩, .int .i64 0, .slice none 0 0] 24)).frozen? ⟨sb, j, none⟩ = false from fun j => (World.frozen?_of_block ((bt BC.out (below_alloc wC _)).block sb USZ.out.2)).trans (sub_frz HM.out.sub.sbc j))
        have hlti : (L : Int) < ((L + 1 : Nat) : Int) := by omega
        go_wp2_with (at_builtin; refine wpList_append_lies _ rfl (.tmp 24) (.tmp 27) 22 rfl B TT24 i0 (.agg #[.int .i64 0, .string .empty, .int .i64 0, .slice none 0 0]) 4 56 Tryz.underlying22 hi0 hz0 hz1 hz2 rfl (by decide) (.slice rA L rc) L xs rfl (OC.out.alloc _) ⟨wC.heap.size, 0, none⟩ 1 1 (kidT zeroT none 0) rfl rfl (kid_zero_news (heap_alloc_new wC _)) (kid_one zeroT none 0) (by omega) (by unfold maxLen; omega) (by omega) (by have := VZ.out; simp; omega) (wC.heap.size + 1) (by simp) ?_; intro g cap w4 own4 gr4 at4 hlt4; have PU := Lib.hid (lp_push (m := m) HLK.out HM.out WSZ.out.2 WSZ.out.1 HF.out HNP.out HPS.out (bt BC.out (below_alloc wC _)) own4 gr4 (at4.imp_right (fun e => e.trans (size_alloc _ _).symm))); have c4 := gr4.cell (((below_alloc wC _).cell (p := ⟨sb, 1, none⟩) VZ.out.2.1).trans v1) (fun e => HM.out.sub.rne sb e.symm rfl); have f4 : w4.frozen? ⟨sb, 1, none⟩ = false := (World.frozen?_of_block (gr4.block sb (by have := VZ.out; simp; omega) (fun e => HM.out.sub.rne sb e.symm rfl))).trans (FC.out _); obtain ⟨⟨y0, o0⟩, f0⟩ := own_cell own4 rfl (show L * 4 < (L + 1) * 4 by omega); obtain ⟨⟨y1, o1⟩, f1⟩ := own_cell own4 rfl (show L * 4 + 1 < (L + 1) * 4 by omega); obtain ⟨⟨y2, o2⟩, f2⟩ := own_cell own4 rfl (show L * 4 + 2 < (L + 1) * 4 by omega); obtain ⟨⟨y3, o3⟩, f3⟩ := own_cell own4 rfl (show L * 4 + 3 < (L + 1) * 4 by omega); have hgs : g ≠ sb := fun e => UM_ne PU.out.1 e; have hgs' : sb ≠ g := fun e => hgs e.symm; have PZ := Lib.hid (lp_zero (m := m) HLK.out PU.out.1 (Nat.lt_of_lt_of_le WSZ.out.1 (by have := gr4.size; have := BC.out.size; simp [World.setCell] at *; omega)) PU.out.2.1 PU.out.2.2); clear own4 gr4 at4 hlt4)
        have hL2 := HLK.out
        go_wp2
        go_roundg (m + 1 - u.st.length - (k + 1))
        case measure => omega
        case rel => exact ⟨k + 1, _, _, _, by omega, Nat.le_refl _, Lib.hid PZ.out.1, Lib.hid PZ.out.2.1, Lib.hid ⟨fun e => by injection e with e; exact PZ.out.2.2.1 e, PZ.out.2.2.2⟩⟩
    · have dle := decide_eq_false (show ¬ (L : Int) ≤ (m : Int) by omega)
      have hk2 : k = m + 1 - u.st.length := by omega
      clear hL
      have HX2 := Lib.hid (HNP.out.2.trans HX.out)
      have HA2 := Lib.hid (HA.out.tn HKP.out HF.out)
      have hmL : m < L := by omega
      obtain ⟨g, rfl⟩ : ∃ g, rA = some ⟨g, 0, none⟩ := by
        rcases ROW.out.2 with ⟨e, e2⟩ | ⟨g, cap, cur, e, _⟩
        · omega
        · injection e with e; exact ⟨g, e⟩
      have hmLi : (m : Int) < (L : Int) := by omega
      obtain ⟨⟨y0, o0⟩, f0⟩ := own_cell ROW.out rfl (show m * 4 < L * 4 by omega)
      obtain ⟨⟨y1, o1⟩, f1⟩ := own_cell ROW.out rfl (show m * 4 + 1 < L * 4 by omega)
      obtain ⟨⟨y2, o2⟩, f2⟩ := own_cell ROW.out rfl (show m * 4 + 2 < L * 4 by omega)
      obtain ⟨⟨y3, o3⟩, f3⟩ := own_cell ROW.out rfl (show m * 4 + 3 < L * 4 by omega)
      go_wp2_with fail
      refine wp_region_D [10] (fun w' => w'.cell? ⟨ub, 0, none⟩ = some (.pointer (some ⟨sb, 0, none⟩)) ∧ w'.cell? ⟨sb, 1, none⟩ = some (.slice (some ⟨g, 0, none⟩) L rc) ∧ w'.heap[w.heap.size]? = some (.cells #[.int .i64 t.k, .string t.nm, .int .i64 t.vr, .slice A t.args.length c] 24 (0, 0))) (by kernel_rfl) (⟨U0.out, S1.out, HX2.out⟩) (fun hHeld => ?_)
      refine WDs 0 ⟨some 48, .move (.tmp 0), 84, _, #[], none⟩ ?ve0 ?hye0 hHeld ?_
      case hye0 => (intro wz hSw; (try dsimp only at hSw); have z0 := hSw.1; have z1 := hSw.2.1; have zc := cells4 hSw.2.2; have z2 := zc.1; have z3 := zc.2.1; have z4 := zc.2.2.1; have z5 := zc.2.2.2; clear zc; go_simp; try with_reducible rfl)
      (try simp only [putz])
      refine WDs 1 ⟨some 49, .nilCheck (.tmp 48), 0, _, #[⟨0, .data⟩], none⟩ ?ve1 ?hye1 hHeld ?_
      case hye1 => (intro wz hSw; (try dsimp only at hSw); have z0 := hSw.1; have z1 := hSw.2.1; have zc := cells4 hSw.2.2; have z2 := zc.1; have z3 := zc.2.1; have z4 := zc.2.2.1; have z5 := zc.2.2.2; clear zc; go_simp; try with_reducible rfl)
      (try simp only [putz])
      refine WDs 2 ⟨some 50, .fieldAddr 67 (.tmp 49) 0, 0, _, #[⟨1, .data⟩], none⟩ ?ve2 ?hye2 hHeld ?_
      case hye2 => (intro wz hSw; (try dsimp only at hSw); have z0 := hSw.1; have z1 := hSw.2.1; have zc := cells4 hSw.2.2; have z2 := zc.1; have z3 := zc.2.1; have z4 := zc.2.2.1; have z5 := zc.2.2.2; clear zc; go_simp; try with_reducible rfl)
      (try simp only [putz])
      refine WDs 3 ⟨some 51, .load 31 (.tmp 50), 31, _, #[⟨2, .data⟩], none⟩ ?ve3 ?hye3 hHeld ?_
      case hye3 => (intro wz hSw; (try dsimp only at hSw); have z0 := hSw.1; have z1 := hSw.2.1; have zc := cells4 hSw.2.2; have z2 := zc.1; have z3 := zc.2.1; have z4 := zc.2.2.1; have z5 := zc.2.2.2; clear zc; go_simp; try with_reducible rfl)
      (try simp only [putz])
      refine WDs 4 ⟨some 52, .nilCheck (.tmp 51), 0, _, #[⟨3, .data⟩], none⟩ ?ve4 ?hye4 hHeld ?_
      case hye4 => (intro wz hSw; (try dsimp only at hSw); have z0 := hSw.1; have z1 := hSw.2.1; have zc := cells4 hSw.2.2; have z2 := zc.1; have z3 := zc.2.1; have z4 := zc.2.2.1; have z5 := zc.2.2.2; clear zc; go_simp; try with_reducible rfl)
      (try simp only [putz])
      refine WDs 5 ⟨some 53, .fieldAddr 65 (.tmp 52) 1, 0, _, #[⟨4, .data⟩], none⟩ ?ve5 ?hye5 hHeld ?_
      case hye5 => (intro wz hSw; (try dsimp only at hSw); have z0 := hSw.1; have z1 := hSw.2.1; have zc := cells4 hSw.2.2; have z2 := zc.1; have z3 := zc.2.1; have z4 := zc.2.2.1; have z5 := zc.2.2.2; clear zc; go_simp; try with_reducible rfl)
      (try simp only [putz])
      refine WDs 6 ⟨some 54, .load 22 (.tmp 53), 22, _, #[⟨5, .data⟩], none⟩ ?ve6 ?hye6 hHeld ?_
      case hye6 => (intro wz hSw; (try dsimp only at hSw); have z0 := hSw.1; have z1 := hSw.2.1; have zc := cells4 hSw.2.2; have z2 := zc.1; have z3 := zc.2.1; have z4 := zc.2.2.1; have z5 := zc.2.2.2; clear zc; go_simp; try with_reducible rfl)
      (try simp only [putz])
      refine WDs 7 ⟨some 55, .move (.tmp 1), 3, _, #[], none⟩ ?ve7 ?hye7 hHeld ?_
      case hye7 => (intro wz hSw; (try dsimp only at hSw); have z0 := hSw.1; have z1 := hSw.2.1; have zc := cells4 hSw.2.2; have z2 := zc.1; have z3 := zc.2.1; have z4 := zc.2.2.1; have z5 := zc.2.2.2; clear zc; go_simp; try with_reducible rfl)
      (try simp only [putz])
      refine WDs 8 ⟨some 56, .load 24 (.tmp 5), 24, _, #[], none⟩ ?ve8 ?hye8 hHeld ?_
      case hye8 => (intro wz hSw; (try dsimp only at hSw); have z0 := hSw.1; have z1 := hSw.2.1; have zc := cells4 hSw.2.2; have z2 := zc.1; have z3 := zc.2.1; have z4 := zc.2.2.1; have z5 := zc.2.2.2; clear zc; go_simp; try with_reducible rfl)
      (try simp only [putz])
      refine WDs 9 ⟨some 57, .indexAddr 22 (.tmp 54) (.tmp 55), 0, _, #[⟨6, .data⟩, ⟨7, .data⟩, ⟨0, .phase⟩, ⟨1, .phase⟩, ⟨2, .phase⟩, ⟨3, .phase⟩, ⟨4, .phase⟩, ⟨5, .phase⟩, ⟨6, .phase⟩, ⟨7, .phase⟩, ⟨8, .phase⟩], none⟩ ?ve9 ?hye9 hHeld ?_
      case hye9 => (intro wz hSw; (try dsimp only at hSw); have z0 := hSw.1; have z1 := hSw.2.1; have zc := cells4 hSw.2.2; have z2 := zc.1; have z3 := zc.2.1; have z4 := zc.2.2.1; have z5 := zc.2.2.2; clear zc; go_simp; try with_reducible rfl)
      (try simp only [putz])
      refine WD_ready (rs := [10]) (by kernel_rfl) (by simp) ?_
      refine AllD.last (o := _) rfl (by kernel_rfl) (fun K hK => ?_) AllD.nil
      rw [if_pos (by rfl)]
      go_simp
      refine hK.out _ _ ?_
      clear hK K
      (try simp only [putz])
      refine WD_done (by kernel_rfl) ?_ _
      have PP := HM.out.put (t := t) (A := A) (c := c) (cap := rc) (g := g) m (by rw [HLEN.out]; exact hmL) HA2.out (by rw [HLEN.out]) (m * 4) rfl
      rw [show US.mk ((US.st ⟨u.st ++ List.replicate k zeroT, u.set⟩).set m t) (US.set ⟨u.st ++ List.replicate k zeroT, u.set⟩) = ⟨bindS u.st m t, u.set⟩ by show US.mk ((u.st ++ List.replicate k zeroT).set m t) u.set = _; rw [hk2]; rfl] at PP
      have FP := HM.out.fine2 PP.2
      obtain ⟨wP, hwP⟩ : ∃ z, z = ((((wr.setCell ⟨g, m * 4, none⟩ (.int .i64 t.k)).setCell ⟨g, m * 4 + 1, none⟩ (.string t.nm)).setCell ⟨g, m * 4 + 2, none⟩ (.int .i64 t.vr)).setCell ⟨g, m * 4 + 3, none⟩ (.slice A t.args.length c)).drew := ⟨_, rfl⟩
      rw [← hwP]
      have FW := Lib.hid (show Frm w wP (Tn Pr B) by
        have f := (HFA.out.trans HF.out).trans FP
        rw [hwP]; exact ⟨f.os, f.tape, f.output, f.size, f.block⟩)
      have UP := Lib.hid (show UM wP K Pr B ub sb n ⟨bindS u.st m t, u.set⟩ (.slice (some ⟨g, 0, none⟩) L rc) sv (setK xs m t A c) by rw [hwP]; exact PP.1.later (bdr _))
      clear PP FP hwP f0 f1 f2 f3 o0 o1 o2 o3 hHeld u0 s1
      obtain ⟨i1, hi1, hw0, hw1, hw2⟩ := info_parts infoIn
      obtain ⟨N, hN⟩ : ∃ N, N = u.set.length := ⟨_, rfl⟩
      have SR := Lib.hid UP.out.srow
      rw [show (US.set ⟨bindS u.st m t, u.set⟩) = u.set from rfl, ← hN] at SR
      have NH := Lib.hid hN
      have hN2 : N ≤ 2000 := by omega
      clear hN
      obtain ⟨sA, sc, rfl⟩ := vform SR.out
      have d1 := (sub_cell UP.out.ubc).2
      have HPZ := Lib.hid (show ub < wP.heap.size ∧ B ≤ wP.heap.size from ⟨UP.out.ult, by have := FW.out.size; have := HB.out; omega⟩)
      go_wp2_with (at_builtin; refine wpList_append_lies _ rfl (.tmp 62) (.tmp 64) 26 rfl B 3 i1 (.int .i64 0) 1 8 Tryz.underlying26 hi1 hw0 hw1 hw2 rfl (by decide) (.slice sA N sc) N (u.set.map (fun x => Value.int .i64 x)) rfl (SR.out.alloc _) ⟨wP.heap.size, 0, none⟩ 1 1 [.int .i64 m] rfl rfl (World.news_of_block (cs := #[.int .i64 m]) (t := 3) (fr := (0, 0)) (heap_alloc_new _ _)) (by simp [Value.oneCell']) (by omega) (by unfold maxLen; omega) (by omega) (by have := HPZ.out; simp; omega) (wP.heap.size + 1) (by simp) ?_; intro g2 cap2 w5 own5 gr5 at5 hlt5; have PN := Lib.hid (UP.out.note (v := m) (below_alloc wP _) (by rw [show (US.set ⟨bindS u.st m t, u.set⟩) = u.set from rfl, ← NH.out]; exact own5) gr5 (by rcases at5 with e | e; exact .inl e.symm; right; rw [e]; simp [Value.ownBlock])); have d2 := gr5.cell (((below_alloc wP _).cell (p := ⟨ub, 1, none⟩) HPZ.out.1).trans d1) (fun e => (UP.out.apart.2.2 ub e.symm).1 rfl); have d3 : w5.frozen? ⟨ub, 1, none⟩ = false := (World.frozen?_of_block (gr5.block ub (by have := HPZ.out; simp; omega) (fun e => (UP.out.apart.2.2 ub e.symm).1 rfl))).trans ((World.frozen?_of_block ((below_alloc wP _).block ub HPZ.out.1)).trans (sub_frz UP.out.ubc 1)); clear own5 gr5 at5 hlt5)
      have PQ := Lib.hid (show StPost K Pr B ub sb n (standU u (m : Int) t) w (.returned (.tuple #[])) (w5.setCell ⟨ub, 1, none⟩ (.slice (some ⟨g2, 0, none⟩) (N + 1) cap2)) from ⟨rfl, ⟨_, _, _, by unfold standU; rw [Int.toNat_natCast]; exact PN.out.1⟩, FW.out.trans PN.out.2⟩)
      clear PN
      go_wp2
      (try simp only [Exit.inBlock, Exit.then])
      refine bodyPost_end (results_none rfl _ _ _) rfl ?_
      exact PQ.out
end Go.Proofs.YtifopogkbjhkjaaGreatDoor
namespace Go.Proofs.YtifopogkbjhkjaaGreatDoor
open DR
open Go.ChangeShapes Go.WideShapes Go.ChangeAt Go.RowKit Go.WideMaps
set_option linter.unusedVariables false
set_option linter.unusedSimpArgs false
theorem SubW.toQ {w : World} {K Pr : Nat → Prop} {B sb : Nat} {n : Int} {St : List TT} {rv : Value} {xs : List Value} (h : SubW w K Pr B sb n St rv xs) : SubQ w K sb n St := by
  obtain ⟨A, c, h1, h2⟩ := h.trow
  refine ⟨A, c, by rw [← h1]; exact h.sbc, ?_⟩
  rcases h2 with h2 | ⟨g, h2, h3, h4⟩
  · exact .inl h2
  · exact .inr ⟨g, 0, h2, h3, h4⟩
theorem resolve_okW {K Pr : Nat → Prop} {B sb : Nat} {n : Int} {St : List TT} {rv : Value} {xs : List Value} {rk : Int → Nat} (hst : StOk St rk) {V : TT} {A : Option Addr} {c : Nat} {w : World} (hsh : shp V = true) (hV : TRow w K A V.args) (hs : SubW w K Pr B sb n St rv xs) :
    Calls Tryz.prog 47 #[.pointer (some ⟨sb, 0, none⟩), tv V A c] w fun e w' => ∃ A' c', e = .returned (tv (resF St V) A' c') ∧ TRow w' K A' (resF St V).args ∧ Below w.heap.size w w' := by
  refine (resolve_anyQ (m := rkT rk) (fun t ht => rk_step hst ht) (fun t ht _ => (shp_head (hst.shp _ ht.2)).1) (fun _ => (shp_head hsh).1) hV hs.toQ).mono ?_
  rintro e w' ⟨T, A', c', rfl, hr, hT, -, hb⟩
  obtain rfl := res_fun hT (resF_res hst V)
  exact ⟨A', c', rfl, hr.later hb, hb⟩
def BdPost (K Pr : Nat → Prop) (B ub sb : Nat) (n : Int) (w : World) (q : Int × US) (e : Ending) (w' : World) : Prop := e = .returned (.int .i64 q.1) ∧ (∃ rv sv xs, UM w' K Pr B ub sb n q.2 rv sv xs) ∧ Frm w w' (Tn Pr B)
open Classical in
set_option maxRecDepth 100000 in
set_option maxHeartbeats 4000000 in
theorem bind_any {K Pr : Nat → Prop} {B ub sb : Nat} {n v : Int} {u : US} {rv sv : Value} {xs : List Value} {rk : Int → Nat} (hst : StOk u.st rk) {t : TT} {x : Value} {w : World} (h : UM w K Pr B ub sb n u rv sv xs) (hB : B ≤ w.heap.size) (hv0 : 0 ≤ v) (hv1 : v ≤ 1999) (hs : u.set.length ≤ 2000) (hsh : shp t = true) (ht : TIn w K t x) :
    Calls Tryz.prog 50 #[.pointer (some ⟨ub, 0, none⟩), .int .i64 v, x] w (BdPost K Pr B ub sb n w (if Occ u.st v t then (5, u) else (0, standU u v t))) := by
  obtain ⟨A, c, hx, hA⟩ := ht
  subst hx
  unfold tv
  obtain ⟨wA, hwA⟩ : ∃ z, z = w.alloc (.cells #[.int .i64 t.k, .string t.nm, .int .i64 t.vr, .slice A t.args.length c] 24) := ⟨_, rfl⟩
  have BA := Lib.hid (show Below w.heap.size w wA by rw [hwA]; exact below_alloc w _)
  have HX := Lib.hid (show wA.heap[w.heap.size]? = some (.cells #[.int .i64 t.k, .string t.nm, .int .i64 t.vr, .slice A t.args.length c] 24 (0, 0)) by rw [hwA]; exact heap_alloc_new w _)
  have HZ := Lib.hid (show wA.heap.size = w.heap.size + 1 by rw [hwA]; simp)
  have OC := Lib.hid (occurs_ok (v := v) hst t hsh (tv t A c) wA ⟨A, c, rfl, (hA.later BA.out).weak (fun _ _ _ => trivial)⟩ (h.later BA.out).uread)
  have ST := Lib.hid (fun W (hW : Below w.heap.size w W) => stand_any (h.later hW) (Nat.le_trans hB hW.size) hv0 hv1 hst.len hs ⟨A, c, rfl, hA.later hW⟩)
  unfold tv at OC ST
  have HU := Lib.hid h
  have HWA := Lib.hid hwA
  obtain ⟨x0, x1, x2, x3⟩ := cells4 HX.out
  by_cases ho : Occ u.st v t
  · rw [if_pos ho]
    rw [decide_eq_true ho] at OC
    clear hwA h hA hst ho ST
    go_enter Tryz.func50, Tryz.ntmps50
    go_wp2_with fail
    try rw [← HWA.out]
    refine OC.out.mono ?_; rintro e w1 ⟨rfl, hb1⟩
    have B1 := Lib.hid (bt BA.out hb1)
    clear hb1 OC
    go_wp2
    go_ret
    exact ⟨rfl, ⟨_, _, _, HU.out.later B1.out⟩, Frm.of_below B1.out (Nat.le_refl _) _⟩
  · rw [if_neg ho]
    rw [decide_eq_false ho] at OC
    clear hwA h hA hst ho
    go_enter Tryz.func50, Tryz.ntmps50
    go_wp2_with fail
    try rw [← HWA.out]
    refine OC.out.mono ?_; rintro e w1 ⟨rfl, hb1⟩
    have B1 := Lib.hid (bt BA.out hb1)
    have y := cells4 ((hb1.block w.heap.size (by have := HZ.out; omega)).trans HX.out)
    obtain ⟨y0, y1, y2, y3⟩ := y
    clear hb1 OC x0 x1 x2 x3
    go_wp2_with fail
    refine (ST.out _ B1.out).mono ?_; rintro e w2 ⟨rfl, hu2, f2⟩
    have U2 := Lib.hid hu2
    have F2 := Lib.hid ((Frm.of_below B1.out (Nat.le_refl _) (Tn Pr B)).trans f2)
    clear hu2 f2 ST
    go_wp2
    go_ret
    exact ⟨rfl, U2.out, F2.out⟩
end Go.Proofs.YtifopogkbjhkjaaGreatDoor
