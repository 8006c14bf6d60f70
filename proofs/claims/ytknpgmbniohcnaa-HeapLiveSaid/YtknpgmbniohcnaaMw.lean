import Derived.Test.YtknpgmbniohcnaaMv
import Derived.Deep.RegionHeld3
namespace Go.Proofs.Ytknpgmbniohcnaa
open Go.ChangeShapes Go.WideShapes Go.ChangeAt Go.RowKit
set_option linter.unusedVariables false
def il (l : List Int) : List Value := l.map (.int .i64)
theorem il_len (l : List Int) : (il l).length = l.length := by simp [il]
theorem il_at (l : List Int) (j : Nat) (h : j < l.length) : (il l)[j]? = some (.int .i64 l[j]) := by simp [il, List.getElem?_eq_getElem h]
theorem il_set (l : List Int) (a : Nat) (v : Int) : il (l.set a v) = (il l).set a (.int .i64 v) := by simp [il, List.map_set]
/-- the copier on its way. -/
structure CpX (w : World) (H o Bf Bt C M : Nat) (F T : Hm) (mv : List Int) : Prop where
  fr : HpAt w Bf H o F
  to : HpAt w Bt C 1 T
  c0 : w.cell? ⟨C, 0, none⟩ = some (.pointer (some ⟨H, o, none⟩))
  c5 : ∃ cm, w.cell? ⟨C, 5, none⟩ = some (.slice (some ⟨M, 0, none⟩) mv.length cm) ∧ w.ownsRow 0 3 1 (.slice (some ⟨M, 0, none⟩) mv.length cm) mv.length (il mv)
  sep : ∀ k, HR w H o k → k < Bt ∧ k ≠ C ∧ k ≠ M
  cb : C < Bt ∧ M < Bt ∧ C ≠ M
structure CpAt (w : World) (H o Bf Bt C M : Nat) (F : Hm) (s : CS) : Prop extends CpX w H o Bf Bt C M F s.T s.mv where
  inv : CInv F s
def RC (Bt C M : Nat) (k : Nat) : Prop := k = C ∨ k = M ∨ Bt ≤ k
theorem HR_eq {w w' : World} {H o k : Nat} (h2 : w'.cell? ⟨H, o + 2, none⟩ = w.cell? ⟨H, o + 2, none⟩) (h3 : w'.cell? ⟨H, o + 3, none⟩ = w.cell? ⟨H, o + 3, none⟩) (h : HR w' H o k) : HR w H o k := by
  rcases h with h | ⟨n, c, h⟩ | ⟨n, c, h⟩
  · exact .inl h
  · exact .inr (.inl ⟨n, c, h2.symm.trans h⟩)
  · exact .inr (.inr ⟨n, c, h3.symm.trans h⟩)
theorem frm_cell {w w' : World} {R : Nat → Prop} (f : Frm w w' R) {b i : Nat} (hb : b < w.heap.size) (hr : ¬ R b) : w'.cell? ⟨b, i, none⟩ = w.cell? ⟨b, i, none⟩ := World.cell?_of_block (f.block b hb hr)
theorem CpX.below {w w' : World} {H o Bf Bt C M : Nat} {F T : Hm} {mv : List Int} (h : CpX w H o Bf Bt C M F T mv) (hb : Below w.heap.size w w') : CpX w' H o Bf Bt C M F T mv := by
  obtain ⟨cm, a, b⟩ := h.c5
  have hC := h.to.lt
  refine ⟨h.fr.below hb, h.to.below hb, (hb.cell (p := ⟨C, 0, none⟩) hC).trans h.c0, ⟨cm, (hb.cell (p := ⟨C, 5, none⟩) hC).trans a, ?_⟩, fun k hk => h.sep k (HR_below hb h.fr.lt hk), h.cb⟩
  exact own_frm b (R := fun k => w.heap.size ≤ k) (Frm.of_below hb (Nat.le_refl _) _) (fun k hk hk2 => by have := (b.lt k hk).2; omega)
theorem CpAt.below {w w' : World} {H o Bf Bt C M : Nat} {F : Hm} {s : CS} (h : CpAt w H o Bf Bt C M F s) (hb : Below w.heap.size w w') : CpAt w' H o Bf Bt C M F s := ⟨h.toCpX.below hb, h.inv⟩
theorem bdr (w : World) : Below w.heap.size w w.drew := ⟨rfl, rfl, rfl, Nat.le_refl _, fun _ _ => rfl⟩
theorem obj_at (F : Hm) (a j : Nat) (h : j < (objOf F a).length) (h2 : a + 1 + j < F.ws.length) : (objOf F a)[j] = F.ws[a + 1 + j] := by simp [objOf]
theorem cp_set {w : World} {H o Bf Bt C M : Nat} {F T : Hm} {mv : List Int} (h : CpX w H o Bf Bt C M F T mv) (a : Nat) (u : Int) : CpX (w.setCell ⟨M, a, none⟩ (.int .i64 u)) H o Bf Bt C M F T (mv.set a u) ∧ Frm w (w.setCell ⟨M, a, none⟩ (.int .i64 u)) (RC Bt C M) := by
  have f : Frm w (w.setCell ⟨M, a, none⟩ (.int .i64 u)) (fun k => k = M) := frm_set a _ rfl
  obtain ⟨cm, q1, q2⟩ := h.c5
  obtain ⟨b1, b2, b3⟩ := h.cb
  have hC := h.to.lt
  have hH := h.fr.lt
  have sH := h.sep H (.inl rfl)
  refine ⟨⟨h.fr.frm f (fun k hk e => (h.sep k hk).2.2 e), h.to.frm f (fun k hk e => ?_), (frm_cell f hC b3).trans h.c0, ⟨cm, ?_, ?_⟩, fun k hk => h.sep k (HR_eq (frm_cell f hH sH.2.2) (frm_cell f hH sH.2.2) hk), h.cb⟩, f.mono fun k _ e => .inr (.inl e)⟩
  · rcases h.to.ge hk with e2 | e2 <;> omega
  · rw [List.length_set]; exact (frm_cell f hC b3).trans q1
  · rw [List.length_set, il_set]; exact (q2.stored a _).1
theorem cp_add {w w' : World} {H o Bf Bt C M : Nat} {F T T' : Hm} {mv : List Int} (h : CpX w H o Bf Bt C M F T mv) (ht : HpAt w' Bt C 1 T') (f : Frm w w' (HR w C 1)) (hc : ∀ i, i ≠ 1 + 2 → i ≠ 1 + 3 → w'.cell? ⟨C, i, none⟩ = w.cell? ⟨C, i, none⟩) : CpX w' H o Bf Bt C M F T' mv ∧ Frm w w' (RC Bt C M) := by
  obtain ⟨cm, q1, q2⟩ := h.c5
  obtain ⟨b1, b2, b3⟩ := h.cb
  have hH := h.fr.lt
  have sH := h.sep H (.inl rfl)
  have hR : ∀ k, HR w C 1 k → k = C ∨ Bt ≤ k := fun k hk => by
    rcases h.to.ge hk with e | e
    · exact .inl e
    · exact .inr e.1
  have hn : ∀ k, k < Bt → k ≠ C → ¬ HR w C 1 k := fun k h1 h2 hk => by rcases hR k hk with e | e <;> omega
  refine ⟨⟨h.fr.frm f (fun k hk => hn k (h.sep k hk).1 (h.sep k hk).2.1), ht, (hc 0 (by decide) (by decide)).trans h.c0, ⟨cm, (hc 5 (by decide) (by decide)).trans q1, own_frm q2 f (fun k hk => ?_)⟩, fun k hk => h.sep k (HR_eq (frm_cell f hH (hn H sH.1 sH.2.1)) (frm_cell f hH (hn H sH.1 sH.2.1)) hk), h.cb⟩, f.mono fun k _ hk => ?_⟩
  · simp [Value.ownBlock] at hk; subst hk; exact hn M b2 (Ne.symm b3)
  · rcases hR k hk with e | e
    · exact .inl e
    · exact .inr (.inr e)
set_option maxRecDepth 100000 in
set_option maxHeartbeats 8000000 in
theorem move_any {w : World} {H o Bf Bt C M : Nat} {F : Hm} {s : CS} (h : CpAt w H o Bf Bt C M F s) (x : Int) (hx : U64 x) :
    Calls Try.prog 37 #[.pointer (some ⟨C, 0, none⟩), .int .u64 x] w fun e w' => e = .returned (.int .u64 (moveV F s x)) ∧ Hid (CpAt w' H o Bf Bt C M F (moveS F s x)) ∧ Hid (Frm w w' (RC Bt C M)) := by
  have HC := Lib.hid h
  have FD := Lib.hid (find_any h.fr x hx)
  have c0 := h.c0
  cases hb : findB F x
  · have e1 : moveV F s x = x := by unfold moveV; rw [if_pos hb]
    have e2 : moveS F s x = s := by unfold moveS; rw [if_pos hb]
    rw [e1, e2]
    rw [hb] at FD
    clear e1 e2 h hx
    go_enter Try.func37, Try.ntmps37
    go_wp2_with fail
    refine FD.out.mono ?_; rintro e w1 ⟨rfl, rfl⟩
    clear FD
    go_wp2
    go_ret
    exact ⟨rfl, HC, Lib.hid (Frm.refl _ _)⟩
  obtain ⟨g1, g2, g3, g4⟩ := findB_lt hb
  obtain ⟨a, ha⟩ : ∃ a : Nat, atV x = (a : Int) := ⟨(atV x).toNat, by have := atV_nn hx.1; omega⟩
  rw [hb] at FD
  have hMV : moveV F s x = if s.mv.getD a 0 = 0 then (s.T.ws.length : Int) * 2 else (s.mv.getD a 0 - 1) * 2 := by unfold moveV; rw [if_neg (by rw [hb]; decide), ha]; rfl
  have hMS : moveS F s x = if s.mv.getD a 0 = 0 then ⟨s.T.add (F.ws.getD a 0) (objOf F a), s.mv.set a (s.T.ws.length + 1)⟩ else s := by unfold moveS; rw [if_neg (by rw [hb]; decide), ha]; rfl
  have hcm := cinv_move h.fr.ok h.inv x hx
  rw [hMS, ha] at hcm
  rw [hMV, hMS]
  rw [g2, ha] at FD
  rw [ha] at g3 g4
  have hal : a < F.ws.length := by simpa using g3
  have hst : F.st.getD a false = true := by simpa using g4
  obtain ⟨cm, f5, own5⟩ := h.c5
  have hml : s.mv.length = F.ws.length := h.inv.len
  have ham : a < s.mv.length := by omega
  have m5 : w.cell? ⟨M, a, none⟩ = some (.int .i64 (s.mv.getD a 0)) := by
    rw [own5.cellAt a (by omega), il_at _ _ ham, getD_at ham]
  have hmr := h.inv.rng _ (List.getElem_mem ham)
  rw [← getD_at ham] at hmr
  have hflt := h.fr.ok.lt
  have hmli : s.mv.length ≤ 65536 := by omega
  obtain ⟨v, hv⟩ : ∃ v, v = s.mv.getD a 0 := ⟨_, rfl⟩
  rw [← hv] at m5 hmr hcm ⊢
  have hami : (a : Int) < (s.mv.length : Int) := by omega
  by_cases h0 : v = 0
  · rw [if_pos h0, if_pos h0]
    subst h0
    have dz : ((0 : Int) == 0) = true := rfl
    obtain ⟨A1, c1, A2, c2, t0, t1, t2x, t3, tq1, tq2⟩ := h.to.cells
    have t2 : w.cell? ⟨C, 3, none⟩ = some (.slice A1 s.T.ws.length c1) := t2x
    have htl := h.to.ok.lt
    obtain ⟨B1, d1, B2, d2, r0, r1, r2, r3, hwF, rq⟩ := h.fr.cells
    obtain ⟨g, rfl, hga⟩ := hwF a hal
    obtain ⟨hol, holc⟩ := obj_len h.fr.ok hal hst
    obtain ⟨oS, oLx, oq⟩ := h.fr.ok.snd a hal hst
    obtain ⟨sN, hsN⟩ : ∃ sN, sN = (objOf F a).length := ⟨_, rfl⟩
    rw [getD_at hal] at hol oS oLx
    obtain ⟨hd, hhd⟩ : ∃ hd, hd = F.ws[a] := ⟨_, rfl⟩
    rw [← hhd] at hol oS oLx hga
    rw [← hsN] at hol
    have huh : U64 hd := by rw [hhd]; exact h.fr.ok.wf _ (List.getElem_mem hal)
    rw [← hol] at oLx
    have oL : a + 1 + sN ≤ F.ws.length := oLx
    obtain ⟨nF, hnF⟩ : ∃ nF, nF = F.ws.length := ⟨_, rfl⟩
    obtain ⟨nT, hnT⟩ : ∃ nT, nT = s.T.ws.length := ⟨_, rfl⟩
    rw [← hnF] at r2 oL hflt
    rw [← hnT] at t2 htl
    have hd1 : nF ≤ d1 := by
      obtain ⟨_, _, A, c, _, _, _, _, _, q1, _, _, q4, _, q6, _⟩ := h.fr.at_
      have e : w.cell? ⟨H, o + 2, none⟩ = some (.slice A F.ws.length c) := by simp [World.cell?, q1, q4]
      rw [r2] at e
      injection e with e; injection e with e1 e2 e3
      subst e1 e3
      rcases q6.2 with ⟨q, _⟩ | ⟨_, _, _, q, _, _, q7, _⟩
      · cases q
      · injection q with _ _ q; rw [hnF, q]; exact q7
    have m5z : w.frozen? ⟨M, a, none⟩ = false := by
      rcases own5.2 with ⟨q, _⟩ | ⟨gg, _, _, q, _, q5, _⟩
      · cases q
      · injection q with q _ _; injection q with q; injection q with q _; subst q; simp [World.frozen?, q5]
    have hCM := h.cb.2.2
    have hCM' : M ≠ C := fun e => hCM e.symm
    have hwr : IntKind.i64.wrap ((nT : Int) + 1) = (nT : Int) + 1 := IntWalk.i64_in _ (by omega)
    have hhd2 : hd = F.ws.getD a 0 := hhd.trans (getD_at hal).symm
    have H0 := Lib.hid hhd2; have HNF := Lib.hid hnF; have HNT := Lib.hid hnT; have HSN := Lib.hid hsN; have HOL := Lib.hid hol; have HOS := Lib.hid oS
    have OW5 := Lib.hid own5
    have HV := Lib.hid hv
    have HCM := Lib.hid hcm
    have HH := Lib.hid h
    have HAL := Lib.hid hal
    have FB := Lib.hid hb
    have HST := Lib.hid hst
    have HML := Lib.hid hml
    clear hml
    obtain ⟨L, hL⟩ : ∃ L, L = s.mv.length := ⟨_, rfl⟩
    rw [← hL] at f5 hmli hami ham
    have HL := Lib.hid hL
    clear hL
    clear hhd hhd2 t2x tq1 tq2 rq holc oLx oq t0 t1 t3 r0 r1 r3 hnF hnT hsN hol oS own5 hv hcm h hx g1 g2 g3 g4 ha hb hMV hMS hwF hal hst
    go_enter Try.func37, Try.ntmps37
    go_wp2_with fail
    refine FD.out.mono ?_; rintro e w1 ⟨rfl, rfl⟩
    clear FD
    go_wp2_with fail
    refine wp_region_held_drew (S := fun w' => w'.cell? ⟨C, 5, none⟩ = some (.slice (some ⟨M, 0, none⟩) L cm) ∧ w'.cell? ⟨C, 3, none⟩ = some (.slice A1 nT c1)) (by kernel_rfl) ?_ (fun hHeld => ?_)
    · (try dsimp only); go_keep
    refine wpAnyH_take (i := 0) (oi := { dst := some 27, op := Go.Op.move (Go.Operand.tmp 0), type := 97, pos := _, after := #[], guard := none }) (v := ?vp0) rfl (by kernel_rfl) (by kernel_rfl) (by kernel_rfl) (fun _ _ _ h => h) (Or.inl ⟨by rfl, ?hyp0⟩) (by assumption) ?_
    case hyp0 => (intro wz hSw; (try dsimp only at hSw); go_simp; try with_reducible rfl)
    (try simp only [Act.put, List.setIfInBounds_toArray, List.set_cons_zero, List.set_cons_succ])
    refine wpAnyH_take (i := 1) (oi := { dst := some 28, op := Go.Op.nilCheck (Go.Operand.tmp 27), type := 0, pos := _, after := #[{ on := 0, ground := Go.Ground.data }], guard := none }) (v := ?vp1) rfl (by kernel_rfl) (by kernel_rfl) (by kernel_rfl) (fun _ _ _ h => h) (Or.inl ⟨by rfl, ?hyp1⟩) (by assumption) ?_
    case hyp1 => (intro wz hSw; (try dsimp only at hSw); go_simp; try with_reducible rfl)
    (try simp only [Act.put, List.setIfInBounds_toArray, List.set_cons_zero, List.set_cons_succ])
    refine wpAnyH_take (i := 2) (oi := { dst := some 29, op := Go.Op.fieldAddr 79 (Go.Operand.tmp 28) 2, type := 0, pos := _, after := #[{ on := 1, ground := Go.Ground.data }], guard := none }) (v := ?vp2) rfl (by kernel_rfl) (by kernel_rfl) (by kernel_rfl) (fun _ _ _ h => h) (Or.inl ⟨by rfl, ?hyp2⟩) (by assumption) ?_
    case hyp2 => (intro wz hSw; (try dsimp only at hSw); go_simp; try with_reducible rfl)
    (try simp only [Act.put, List.setIfInBounds_toArray, List.set_cons_zero, List.set_cons_succ])
    refine wpAnyH_take (i := 3) (oi := { dst := some 30, op := Go.Op.load 77 (Go.Operand.tmp 29), type := 77, pos := _, after := #[{ on := 2, ground := Go.Ground.data }], guard := none }) (v := ?vp3) rfl (by kernel_rfl) (by kernel_rfl) (by kernel_rfl) (fun _ _ _ h => h) (Or.inl ⟨by rfl, ?hyp3⟩) (by assumption) ?_
    case hyp3 => (intro wz hSw; (try dsimp only at hSw); go_simp; try with_reducible rfl)
    (try simp only [Act.put, List.setIfInBounds_toArray, List.set_cons_zero, List.set_cons_succ])
    refine wpAnyH_take (i := 4) (oi := { dst := some 31, op := Go.Op.move (Go.Operand.tmp 5), type := 3, pos := _, after := #[], guard := none }) (v := ?vp4) rfl (by kernel_rfl) (by kernel_rfl) (by kernel_rfl) (fun _ _ _ h => h) (Or.inl ⟨by rfl, ?hyp4⟩) (by assumption) ?_
    case hyp4 => (intro wz hSw; (try dsimp only at hSw); go_simp; try with_reducible rfl)
    (try simp only [Act.put, List.setIfInBounds_toArray, List.set_cons_zero, List.set_cons_succ])
    refine wpAnyH_take (i := 5) (oi := { dst := some 32, op := Go.Op.move (Go.Operand.tmp 0), type := 97, pos := _, after := #[], guard := none }) (v := ?vp5) rfl (by kernel_rfl) (by kernel_rfl) (by kernel_rfl) (fun _ _ _ h => h) (Or.inl ⟨by rfl, ?hyp5⟩) (by assumption) ?_
    case hyp5 => (intro wz hSw; (try dsimp only at hSw); go_simp; try with_reducible rfl)
    (try simp only [Act.put, List.setIfInBounds_toArray, List.set_cons_zero, List.set_cons_succ])
    refine wpAnyH_take (i := 6) (oi := { dst := some 33, op := Go.Op.nilCheck (Go.Operand.tmp 32), type := 0, pos := _, after := #[{ on := 5, ground := Go.Ground.data }], guard := none }) (v := ?vp6) rfl (by kernel_rfl) (by kernel_rfl) (by kernel_rfl) (fun _ _ _ h => h) (Or.inl ⟨by rfl, ?hyp6⟩) (by assumption) ?_
    case hyp6 => (intro wz hSw; (try dsimp only at hSw); go_simp; try with_reducible rfl)
    (try simp only [Act.put, List.setIfInBounds_toArray, List.set_cons_zero, List.set_cons_succ])
    refine wpAnyH_take (i := 7) (oi := { dst := some 34, op := Go.Op.fieldAddr 79 (Go.Operand.tmp 33) 1, type := 0, pos := _, after := #[{ on := 6, ground := Go.Ground.data }], guard := none }) (v := ?vp7) rfl (by kernel_rfl) (by kernel_rfl) (by kernel_rfl) (fun _ _ _ h => h) (Or.inl ⟨by rfl, ?hyp7⟩) (by assumption) ?_
    case hyp7 => (intro wz hSw; (try dsimp only at hSw); go_simp; try with_reducible rfl)
    (try simp only [Act.put, List.setIfInBounds_toArray, List.set_cons_zero, List.set_cons_succ])
    refine wpAnyH_take (i := 8) (oi := { dst := some 35, op := Go.Op.fieldAddr 70 (Go.Operand.tmp 34) 2, type := 0, pos := _, after := #[{ on := 7, ground := Go.Ground.data }], guard := none }) (v := ?vp8) rfl (by kernel_rfl) (by kernel_rfl) (by kernel_rfl) (fun _ _ _ h => h) (Or.inl ⟨by rfl, ?hyp8⟩) (by assumption) ?_
    case hyp8 => (intro wz hSw; (try dsimp only at hSw); go_simp; try with_reducible rfl)
    (try simp only [Act.put, List.setIfInBounds_toArray, List.set_cons_zero, List.set_cons_succ])
    refine wpAnyH_take (i := 9) (oi := { dst := some 36, op := Go.Op.load 34 (Go.Operand.tmp 35), type := 34, pos := _, after := #[{ on := 8, ground := Go.Ground.data }], guard := none }) (v := ?vp9) rfl (by kernel_rfl) (by kernel_rfl) (by kernel_rfl) (fun _ _ _ h => h) (Or.inl ⟨by rfl, ?hyp9⟩) (by assumption) ?_
    case hyp9 => (intro wz hSw; (try dsimp only at hSw); go_simp; try with_reducible rfl)
    (try simp only [Act.put, List.setIfInBounds_toArray, List.set_cons_zero, List.set_cons_succ])
    refine wpAnyH_take (i := 10) (oi := { dst := some 37, op := Go.Op.call { callee := Go.Callee.builtin Go.Builtin.len, args := #[Go.Operand.tmp 36], argTypes := #[34] }, type := 3, pos := _, after := #[{ on := 9, ground := Go.Ground.data }], guard := none }) (v := ?vp10) rfl (by kernel_rfl) (by kernel_rfl) (by kernel_rfl) (fun _ _ _ h => h) (Or.inl ⟨by rfl, ?hyp10⟩) (by assumption) ?_
    case hyp10 => (intro wz hSw; (try dsimp only at hSw); go_simp; try with_reducible rfl)
    (try simp only [Act.put, List.setIfInBounds_toArray, List.set_cons_zero, List.set_cons_succ])
    refine wpAnyH_take (i := 11) (oi := { dst := some 38, op := Go.Op.binOp Go.BinOp.add 3 (Go.Operand.tmp 37) (Go.Operand.const (Go.Value.int Go.IntKind.i64 1)) 3, type := 3, pos := _, after := #[{ on := 10, ground := Go.Ground.data }], guard := none }) (v := ?vp11) rfl (by kernel_rfl) (by kernel_rfl) (by kernel_rfl) (fun _ _ _ h => h) (Or.inl ⟨by rfl, ?hyp11⟩) (by assumption) ?_
    case hyp11 => (intro wz hSw; (try dsimp only at hSw); go_simp; try with_reducible rfl)
    (try simp only [Act.put, List.setIfInBounds_toArray, List.set_cons_zero, List.set_cons_succ])
    refine wpAnyH_take (i := 12) (oi := { dst := some 39, op := Go.Op.indexAddr 77 (Go.Operand.tmp 30) (Go.Operand.tmp 31), type := 0, pos := _, after := #[{ on := 3, ground := Go.Ground.data }, { on := 4, ground := Go.Ground.data }, { on := 0, ground := Go.Ground.phase }, { on := 1, ground := Go.Ground.phase }, { on := 2, ground := Go.Ground.phase }, { on := 3, ground := Go.Ground.phase }, { on := 4, ground := Go.Ground.phase }, { on := 5, ground := Go.Ground.phase }, { on := 6, ground := Go.Ground.phase }, { on := 7, ground := Go.Ground.phase }, { on := 8, ground := Go.Ground.phase }, { on := 9, ground := Go.Ground.phase }, { on := 10, ground := Go.Ground.phase }, { on := 11, ground := Go.Ground.phase }], guard := none }) (v := ?vp12) rfl (by kernel_rfl) (by kernel_rfl) (by kernel_rfl) (fun _ _ _ h => h) (Or.inl ⟨by rfl, ?hyp12⟩) (by assumption) ?_
    case hyp12 => (intro wz hSw; (try dsimp only at hSw); go_simp; try with_reducible rfl)
    (try simp only [Act.put, List.setIfInBounds_toArray, List.set_cons_zero, List.set_cons_succ])
    refine wpAnyH_ready (rs := [13]) (by kernel_rfl) (by simp) ?_
    refine AllReadyH.cons (o := { dst := none, op := Go.Op.store 3 (Go.Operand.tmp 39) (Go.Operand.tmp 38), type := 0, pos := _, after := #[{ on := 12, ground := Go.Ground.data }, { on := 11, ground := Go.Ground.data }, { on := 0, ground := Go.Ground.phase }, { on := 1, ground := Go.Ground.phase }, { on := 2, ground := Go.Ground.phase }, { on := 3, ground := Go.Ground.phase }, { on := 4, ground := Go.Ground.phase }, { on := 5, ground := Go.Ground.phase }, { on := 6, ground := Go.Ground.phase }, { on := 7, ground := Go.Ground.phase }, { on := 8, ground := Go.Ground.phase }, { on := 9, ground := Go.Ground.phase }, { on := 10, ground := Go.Ground.phase }, { on := 11, ground := Go.Ground.phase }], guard := none }) rfl (fun K hK => ?_) AllReadyH.nil
    go_simp
    refine hK.out _ _ ?_ (fun hHeld => ?_)
    · (try dsimp only); go_keep
    clear hK K
    (try simp only [Act.put, List.setIfInBounds_toArray, List.set_cons_zero, List.set_cons_succ])
    refine wpAnyH_done (by kernel_rfl) ?_ _

    obtain ⟨w1, hw1⟩ : ∃ w1, w1 = (w.setCell ⟨M, a, none⟩ (.int .i64 ((nT : Int) + 1))).drew := ⟨_, rfl⟩
    rw [← hw1]
    have HX1 : Hid (CpX w1 H o Bf Bt C M F s.T (s.mv.set a ((nT : Int) + 1)) ∧ Frm w w1 (RC Bt C M)) := Lib.hid (by
      rw [hw1]
      have q := cp_set HH.out.toCpX a ((nT : Int) + 1)
      exact ⟨q.1.below (bdr _), q.2.trans (Frm.of_below (bdr _) (Nat.le_refl _) _)⟩)
    have k0 : w1.cell? ⟨C, 0, none⟩ = some (.pointer (some ⟨H, o, none⟩)) := HX1.out.1.c0
    have hgH : HR w H o g := .inr (.inl ⟨_, _, r2⟩)
    have FM : Frm w w1 (RC Bt C M) := HX1.out.2
    have sg := HH.out.sep g hgH
    have sH := HH.out.sep H (.inl rfl)
    have nRC : ∀ k, k < Bt ∧ k ≠ C ∧ k ≠ M → ¬ RC Bt C M k := fun k h hr => by rcases hr with e | e | e <;> omega
    have k1 : w1.cell? ⟨H, o + 2, none⟩ = some (.slice (some ⟨g, 0, none⟩) nF d1) := (frm_cell FM HH.out.fr.lt (nRC H sH)).trans r2
    have hgl : g < w.heap.size := by rcases HH.out.fr.ge hgH with e | e; · rw [e]; exact HH.out.fr.lt
                                     · exact e.2
    have k2 : w1.cell? ⟨g, a, none⟩ = some (.int .u64 hd) := (frm_cell FM hgl (nRC g sg)).trans hga
    have SZ : Hid (Calls Try.prog 50 #[.pointer (some ⟨H, o, none⟩), .int .i64 a] w1.drew fun e w' => e = .returned (.int .i64 (sN : Int)) ∧ w1.drew = w') := Lib.hid (by
      have q := size_any (HX1.out.1.fr.below (bdr _)) a HAL.out
      rw [← getD_at HAL.out, ← H0.out, ← HOL.out] at q
      exact q)
    obtain ⟨off, hoff⟩ : ∃ off, off = if d1 = a + 1 then 0 else a + 1 := ⟨_, rfl⟩
    have AD : Hid (Calls Try.prog 35 #[.pointer (some ⟨C, 1, none⟩), .int .u64 hd, .slice (some ⟨g, off, none⟩) sN (d1 - (a + 1))] w1.drew fun e w' => Hid (e = .returned (.int .u64 ((s.T.ws.length : Int) * 2))) ∧ Hid (CpX w' H o Bf Bt C M F (s.T.add hd (objOf F a)) (s.mv.set a ((nT : Int) + 1)) ∧ Frm w w' (RC Bt C M))) := Lib.hid (by
      have X := HX1.out.1.below (bdr _)
      have hlen : F.ws.length = nF := HNF.out.symm
      have hin : InW w1.drew (some ⟨g, off, none⟩) (d1 - (a + 1)) (objOf F a) := ⟨fun e => (by cases e), fun ad had => by
        injection had with had; subst had
        refine ⟨g, off, rfl, Nat.lt_of_lt_of_le hgl FM.size, fun j hj => ?_⟩
        have hj2 : j < sN := by rw [HSN.out]; exact hj
        have ho : off = a + 1 := by rw [hoff, if_neg (by omega)]
        obtain ⟨A1', c1', A2', c2', _, _, p2, _, hw', _⟩ := X.fr.cells
        obtain ⟨g', rfl, hc⟩ := hw' (a + 1 + j) (by omega)
        have k1' : w1.drew.cell? ⟨H, o + 2, none⟩ = some (.slice (some ⟨g, 0, none⟩) nF d1) := k1
        rw [k1'] at p2
        injection p2 with p2; injection p2 with p2 _ _; injection p2 with p2; injection p2 with p2 _; subst p2
        rw [ho, hc]
        congr 2
        exact (obj_at F a j hj (by omega)).symm⟩
      have q := add_any X.to hin (head := hd) (fun k n c hk off' e => by
        injection e with e; injection e with e _
        have hk2 : HR w1.drew C 1 k := .inr (.inl ⟨_, _, hk⟩)
        have := HH.out.cb
        rcases X.to.ge hk2 with e2 | e2 <;> omega) huh (fun x hx => HH.out.fr.ok.wf x (List.mem_of_mem_drop (List.mem_of_mem_take hx))) HOS.out (by rw [← HSN.out]; exact HOL.out.symm) (by
        have q1 := HCM.out.2; have q2 := HSN.out; have q3 := HNF.out
        rw [Int.toNat_natCast] at q1
        have q4 := q1 FB.out HV.out.symm
        omega)
      rw [← HSN.out] at q
      refine q.mono fun e w' ⟨h1, h2, h3, h4⟩ => ⟨Lib.hid h1, Lib.hid ?_⟩
      have z := cp_add X h2.out h3.out h4.out
      exact ⟨z.1, (FM.trans (Frm.of_below (bdr _) (Nat.le_refl _) _)).trans z.2⟩)
    have se1 : (if d1 = a + 1 then (some ⟨g, 0, none⟩ : Option Addr) else some ⟨g, a + 1, none⟩) = some ⟨g, off, none⟩ := by rw [hoff]; split <;> rfl
    have se2 : ((a : Int) + 1 + (sN : Int)).toNat - (a + 1) = sN := by omega
    have se3 : 0 ≤ (a : Int) + 1 + (sN : Int) ∧ (a : Int) + 1 + (sN : Int) ≤ (d1 : Int) := by omega
    have se4 : 0 ≤ (a : Int) + 1 ∧ (a : Int) + 1 ≤ max ((a : Int) + 1 + (sN : Int)) 0 := by omega
    have KC : Hid (∀ W, Frm w W (RC Bt C M) → W.cell? ⟨H, o + 2, none⟩ = some (.slice (some ⟨g, 0, none⟩) nF d1) ∧ W.cell? ⟨g, a, none⟩ = some (.int .u64 hd)) := Lib.hid (fun W f => ⟨(frm_cell f HH.out.fr.lt (nRC H sH)).trans r2, (frm_cell f hgl (nRC g sg)).trans hga⟩)
    have SE := Lib.hid (And.intro se1 (And.intro se2 (And.intro se3 se4)))
    clear se1 se2 se3 se4
    have ha1 : a < nF := by omega
    have ha2 : (a : Int) < (nF : Int) := by omega
    have hadd1 : IntKind.i64.wrap ((a : Int) + 1) = (a : Int) + 1 := IntWalk.i64_in _ (by omega)
    have hadd2 : IntKind.i64.wrap ((a : Int) + 1 + (sN : Int)) = (a : Int) + 1 + (sN : Int) := IntWalk.i64_in _ (by omega)
    clear hoff hw1 sg sH nRC hgH hgl FM m5 t2 f5 r2 hga c0
    go_wp2_with fail
    refine wp_region_held_drew (S := fun w' => w'.cell? ⟨C, 0, none⟩ = some (.pointer (some ⟨H, o, none⟩)) ∧ w'.cell? ⟨H, o + 2, none⟩ = some (.slice (some ⟨g, 0, none⟩) nF d1) ∧ w'.cell? ⟨g, a, none⟩ = some (.int .u64 hd)) (by kernel_rfl) ?_ (fun hHeld => ?_)
    · (try dsimp only); go_keep
    refine wpAnyH_take (i := 0) (oi := { dst := some 40, op := Go.Op.move (Go.Operand.tmp 0), type := 97, pos := _, after := #[], guard := none }) (v := ?vq0) rfl (by kernel_rfl) (by kernel_rfl) (by kernel_rfl) (fun _ _ _ h => h) (Or.inl ⟨by rfl, ?hyq0⟩) (by assumption) ?_
    case hyq0 => (intro wz hSw; (try dsimp only at hSw); go_simp; try with_reducible rfl)
    (try simp only [Act.put, List.setIfInBounds_toArray, List.set_cons_zero, List.set_cons_succ])
    refine wpAnyH_take (i := 1) (oi := { dst := some 41, op := Go.Op.nilCheck (Go.Operand.tmp 40), type := 0, pos := _, after := #[{ on := 0, ground := Go.Ground.data }], guard := none }) (v := ?vq1) rfl (by kernel_rfl) (by kernel_rfl) (by kernel_rfl) (fun _ _ _ h => h) (Or.inl ⟨by rfl, ?hyq1⟩) (by assumption) ?_
    case hyq1 => (intro wz hSw; (try dsimp only at hSw); go_simp; try with_reducible rfl)
    (try simp only [Act.put, List.setIfInBounds_toArray, List.set_cons_zero, List.set_cons_succ])
    refine wpAnyH_take (i := 2) (oi := { dst := some 42, op := Go.Op.fieldAddr 79 (Go.Operand.tmp 41) 1, type := 0, pos := _, after := #[{ on := 1, ground := Go.Ground.data }], guard := none }) (v := ?vq2) rfl (by kernel_rfl) (by kernel_rfl) (by kernel_rfl) (fun _ _ _ h => h) (Or.inl ⟨by rfl, ?hyq2⟩) (by assumption) ?_
    case hyq2 => (intro wz hSw; (try dsimp only at hSw); go_simp; try with_reducible rfl)
    (try simp only [Act.put, List.setIfInBounds_toArray, List.set_cons_zero, List.set_cons_succ])
    refine wpAnyH_take (i := 3) (oi := { dst := some 43, op := Go.Op.move (Go.Operand.tmp 0), type := 97, pos := _, after := #[], guard := none }) (v := ?vq3) rfl (by kernel_rfl) (by kernel_rfl) (by kernel_rfl) (fun _ _ _ h => h) (Or.inl ⟨by rfl, ?hyq3⟩) (by assumption) ?_
    case hyq3 => (intro wz hSw; (try dsimp only at hSw); go_simp; try with_reducible rfl)
    (try simp only [Act.put, List.setIfInBounds_toArray, List.set_cons_zero, List.set_cons_succ])
    refine wpAnyH_take (i := 4) (oi := { dst := some 44, op := Go.Op.nilCheck (Go.Operand.tmp 43), type := 0, pos := _, after := #[{ on := 3, ground := Go.Ground.data }], guard := none }) (v := ?vq4) rfl (by kernel_rfl) (by kernel_rfl) (by kernel_rfl) (fun _ _ _ h => h) (Or.inl ⟨by rfl, ?hyq4⟩) (by assumption) ?_
    case hyq4 => (intro wz hSw; (try dsimp only at hSw); go_simp; try with_reducible rfl)
    (try simp only [Act.put, List.setIfInBounds_toArray, List.set_cons_zero, List.set_cons_succ])
    refine wpAnyH_take (i := 5) (oi := { dst := some 45, op := Go.Op.fieldAddr 79 (Go.Operand.tmp 44) 0, type := 0, pos := _, after := #[{ on := 4, ground := Go.Ground.data }], guard := none }) (v := ?vq5) rfl (by kernel_rfl) (by kernel_rfl) (by kernel_rfl) (fun _ _ _ h => h) (Or.inl ⟨by rfl, ?hyq5⟩) (by assumption) ?_
    case hyq5 => (intro wz hSw; (try dsimp only at hSw); go_simp; try with_reducible rfl)
    (try simp only [Act.put, List.setIfInBounds_toArray, List.set_cons_zero, List.set_cons_succ])
    refine wpAnyH_take (i := 6) (oi := { dst := some 46, op := Go.Op.load 23 (Go.Operand.tmp 45), type := 23, pos := _, after := #[{ on := 5, ground := Go.Ground.data }], guard := none }) (v := ?vq6) rfl (by kernel_rfl) (by kernel_rfl) (by kernel_rfl) (fun _ _ _ h => h) (Or.inl ⟨by rfl, ?hyq6⟩) (by assumption) ?_
    case hyq6 => (intro wz hSw; (try dsimp only at hSw); go_simp; try with_reducible rfl)
    (try simp only [Act.put, List.setIfInBounds_toArray, List.set_cons_zero, List.set_cons_succ])
    refine wpAnyH_take (i := 7) (oi := { dst := some 47, op := Go.Op.nilCheck (Go.Operand.tmp 46), type := 0, pos := _, after := #[{ on := 6, ground := Go.Ground.data }], guard := none }) (v := ?vq7) rfl (by kernel_rfl) (by kernel_rfl) (by kernel_rfl) (fun _ _ _ h => h) (Or.inl ⟨by rfl, ?hyq7⟩) (by assumption) ?_
    case hyq7 => (intro wz hSw; (try dsimp only at hSw); go_simp; try with_reducible rfl)
    (try simp only [Act.put, List.setIfInBounds_toArray, List.set_cons_zero, List.set_cons_succ])
    refine wpAnyH_take (i := 8) (oi := { dst := some 48, op := Go.Op.fieldAddr 70 (Go.Operand.tmp 47) 2, type := 0, pos := _, after := #[{ on := 7, ground := Go.Ground.data }], guard := none }) (v := ?vq8) rfl (by kernel_rfl) (by kernel_rfl) (by kernel_rfl) (fun _ _ _ h => h) (Or.inl ⟨by rfl, ?hyq8⟩) (by assumption) ?_
    case hyq8 => (intro wz hSw; (try dsimp only at hSw); go_simp; try with_reducible rfl)
    (try simp only [Act.put, List.setIfInBounds_toArray, List.set_cons_zero, List.set_cons_succ])
    refine wpAnyH_take (i := 9) (oi := { dst := some 49, op := Go.Op.load 34 (Go.Operand.tmp 48), type := 34, pos := _, after := #[{ on := 8, ground := Go.Ground.data }], guard := none }) (v := ?vq9) rfl (by kernel_rfl) (by kernel_rfl) (by kernel_rfl) (fun _ _ _ h => h) (Or.inl ⟨by rfl, ?hyq9⟩) (by assumption) ?_
    case hyq9 => (intro wz hSw; (try dsimp only at hSw); go_simp; try with_reducible rfl)
    (try simp only [Act.put, List.setIfInBounds_toArray, List.set_cons_zero, List.set_cons_succ])
    refine wpAnyH_take (i := 10) (oi := { dst := some 50, op := Go.Op.move (Go.Operand.tmp 5), type := 3, pos := _, after := #[], guard := none }) (v := ?vq10) rfl (by kernel_rfl) (by kernel_rfl) (by kernel_rfl) (fun _ _ _ h => h) (Or.inl ⟨by rfl, ?hyq10⟩) (by assumption) ?_
    case hyq10 => (intro wz hSw; (try dsimp only at hSw); go_simp; try with_reducible rfl)
    (try simp only [Act.put, List.setIfInBounds_toArray, List.set_cons_zero, List.set_cons_succ])
    refine wpAnyH_take (i := 11) (oi := { dst := some 51, op := Go.Op.indexAddr 34 (Go.Operand.tmp 49) (Go.Operand.tmp 50), type := 0, pos := _, after := #[{ on := 9, ground := Go.Ground.data }, { on := 10, ground := Go.Ground.data }], guard := none }) (v := ?vq11) rfl (by kernel_rfl) (by kernel_rfl) (by kernel_rfl) (fun _ _ _ h => h) (Or.inl ⟨by rfl, ?hyq11⟩) (by assumption) ?_
    case hyq11 => (intro wz hSw; (try dsimp only at hSw); go_simp; try with_reducible rfl)
    (try simp only [Act.put, List.setIfInBounds_toArray, List.set_cons_zero, List.set_cons_succ])
    refine wpAnyH_take (i := 12) (oi := { dst := some 52, op := Go.Op.load 28 (Go.Operand.tmp 51), type := 28, pos := _, after := #[{ on := 11, ground := Go.Ground.data }], guard := none }) (v := ?vq12) rfl (by kernel_rfl) (by kernel_rfl) (by kernel_rfl) (fun _ _ _ h => h) (Or.inl ⟨by rfl, ?hyq12⟩) (by assumption) ?_
    case hyq12 => (intro wz hSw; (try dsimp only at hSw); go_simp; try with_reducible rfl)
    (try simp only [Act.put, List.setIfInBounds_toArray, List.set_cons_zero, List.set_cons_succ])
    refine wpAnyH_take (i := 13) (oi := { dst := some 53, op := Go.Op.move (Go.Operand.tmp 0), type := 97, pos := _, after := #[], guard := none }) (v := ?vq13) rfl (by kernel_rfl) (by kernel_rfl) (by kernel_rfl) (fun _ _ _ h => h) (Or.inl ⟨by rfl, ?hyq13⟩) (by assumption) ?_
    case hyq13 => (intro wz hSw; (try dsimp only at hSw); go_simp; try with_reducible rfl)
    (try simp only [Act.put, List.setIfInBounds_toArray, List.set_cons_zero, List.set_cons_succ])
    refine wpAnyH_take (i := 14) (oi := { dst := some 54, op := Go.Op.nilCheck (Go.Operand.tmp 53), type := 0, pos := _, after := #[{ on := 13, ground := Go.Ground.data }], guard := none }) (v := ?vq14) rfl (by kernel_rfl) (by kernel_rfl) (by kernel_rfl) (fun _ _ _ h => h) (Or.inl ⟨by rfl, ?hyq14⟩) (by assumption) ?_
    case hyq14 => (intro wz hSw; (try dsimp only at hSw); go_simp; try with_reducible rfl)
    (try simp only [Act.put, List.setIfInBounds_toArray, List.set_cons_zero, List.set_cons_succ])
    refine wpAnyH_take (i := 15) (oi := { dst := some 55, op := Go.Op.fieldAddr 79 (Go.Operand.tmp 54) 0, type := 0, pos := _, after := #[{ on := 14, ground := Go.Ground.data }], guard := none }) (v := ?vq15) rfl (by kernel_rfl) (by kernel_rfl) (by kernel_rfl) (fun _ _ _ h => h) (Or.inl ⟨by rfl, ?hyq15⟩) (by assumption) ?_
    case hyq15 => (intro wz hSw; (try dsimp only at hSw); go_simp; try with_reducible rfl)
    (try simp only [Act.put, List.setIfInBounds_toArray, List.set_cons_zero, List.set_cons_succ])
    refine wpAnyH_take (i := 16) (oi := { dst := some 56, op := Go.Op.load 23 (Go.Operand.tmp 55), type := 23, pos := _, after := #[{ on := 15, ground := Go.Ground.data }], guard := none }) (v := ?vq16) rfl (by kernel_rfl) (by kernel_rfl) (by kernel_rfl) (fun _ _ _ h => h) (Or.inl ⟨by rfl, ?hyq16⟩) (by assumption) ?_
    case hyq16 => (intro wz hSw; (try dsimp only at hSw); go_simp; try with_reducible rfl)
    (try simp only [Act.put, List.setIfInBounds_toArray, List.set_cons_zero, List.set_cons_succ])
    refine wpAnyH_take (i := 17) (oi := { dst := some 57, op := Go.Op.nilCheck (Go.Operand.tmp 56), type := 0, pos := _, after := #[{ on := 16, ground := Go.Ground.data }], guard := none }) (v := ?vq17) rfl (by kernel_rfl) (by kernel_rfl) (by kernel_rfl) (fun _ _ _ h => h) (Or.inl ⟨by rfl, ?hyq17⟩) (by assumption) ?_
    case hyq17 => (intro wz hSw; (try dsimp only at hSw); go_simp; try with_reducible rfl)
    (try simp only [Act.put, List.setIfInBounds_toArray, List.set_cons_zero, List.set_cons_succ])
    refine wpAnyH_take (i := 18) (oi := { dst := some 58, op := Go.Op.fieldAddr 70 (Go.Operand.tmp 57) 2, type := 0, pos := _, after := #[{ on := 17, ground := Go.Ground.data }], guard := none }) (v := ?vq18) rfl (by kernel_rfl) (by kernel_rfl) (by kernel_rfl) (fun _ _ _ h => h) (Or.inl ⟨by rfl, ?hyq18⟩) (by assumption) ?_
    case hyq18 => (intro wz hSw; (try dsimp only at hSw); go_simp; try with_reducible rfl)
    (try simp only [Act.put, List.setIfInBounds_toArray, List.set_cons_zero, List.set_cons_succ])
    refine wpAnyH_take (i := 19) (oi := { dst := some 59, op := Go.Op.load 34 (Go.Operand.tmp 58), type := 34, pos := _, after := #[{ on := 18, ground := Go.Ground.data }], guard := none }) (v := ?vq19) rfl (by kernel_rfl) (by kernel_rfl) (by kernel_rfl) (fun _ _ _ h => h) (Or.inl ⟨by rfl, ?hyq19⟩) (by assumption) ?_
    case hyq19 => (intro wz hSw; (try dsimp only at hSw); go_simp; try with_reducible rfl)
    (try simp only [Act.put, List.setIfInBounds_toArray, List.set_cons_zero, List.set_cons_succ])
    refine wpAnyH_take (i := 20) (oi := { dst := some 60, op := Go.Op.move (Go.Operand.tmp 5), type := 3, pos := _, after := #[], guard := none }) (v := ?vq20) rfl (by kernel_rfl) (by kernel_rfl) (by kernel_rfl) (fun _ _ _ h => h) (Or.inl ⟨by rfl, ?hyq20⟩) (by assumption) ?_
    case hyq20 => (intro wz hSw; (try dsimp only at hSw); go_simp; try with_reducible rfl)
    (try simp only [Act.put, List.setIfInBounds_toArray, List.set_cons_zero, List.set_cons_succ])
    refine wpAnyH_take (i := 21) (oi := { dst := some 61, op := Go.Op.binOp Go.BinOp.add 3 (Go.Operand.tmp 60) (Go.Operand.const (Go.Value.int Go.IntKind.i64 1)) 3, type := 3, pos := _, after := #[{ on := 20, ground := Go.Ground.data }], guard := none }) (v := ?vq21) rfl (by kernel_rfl) (by kernel_rfl) (by kernel_rfl) (fun _ _ _ h => h) (Or.inl ⟨by rfl, ?hyq21⟩) (by assumption) ?_
    case hyq21 => (intro wz hSw; (try dsimp only at hSw); go_simp; try with_reducible rfl)
    (try simp only [Act.put, List.setIfInBounds_toArray, List.set_cons_zero, List.set_cons_succ])
    refine wpAnyH_take (i := 22) (oi := { dst := some 62, op := Go.Op.move (Go.Operand.tmp 5), type := 3, pos := _, after := #[], guard := none }) (v := ?vq22) rfl (by kernel_rfl) (by kernel_rfl) (by kernel_rfl) (fun _ _ _ h => h) (Or.inl ⟨by rfl, ?hyq22⟩) (by assumption) ?_
    case hyq22 => (intro wz hSw; (try dsimp only at hSw); go_simp; try with_reducible rfl)
    (try simp only [Act.put, List.setIfInBounds_toArray, List.set_cons_zero, List.set_cons_succ])
    refine wpAnyH_take (i := 23) (oi := { dst := some 63, op := Go.Op.binOp Go.BinOp.add 3 (Go.Operand.tmp 62) (Go.Operand.const (Go.Value.int Go.IntKind.i64 1)) 3, type := 3, pos := _, after := #[{ on := 22, ground := Go.Ground.data }], guard := none }) (v := ?vq23) rfl (by kernel_rfl) (by kernel_rfl) (by kernel_rfl) (fun _ _ _ h => h) (Or.inl ⟨by rfl, ?hyq23⟩) (by assumption) ?_
    case hyq23 => (intro wz hSw; (try dsimp only at hSw); go_simp; try with_reducible rfl)
    (try simp only [Act.put, List.setIfInBounds_toArray, List.set_cons_zero, List.set_cons_succ])
    refine wpAnyH_take (i := 24) (oi := { dst := some 64, op := Go.Op.move (Go.Operand.tmp 0), type := 97, pos := _, after := #[], guard := none }) (v := ?vq24) rfl (by kernel_rfl) (by kernel_rfl) (by kernel_rfl) (fun _ _ _ h => h) (Or.inl ⟨by rfl, ?hyq24⟩) (by assumption) ?_
    case hyq24 => (intro wz hSw; (try dsimp only at hSw); go_simp; try with_reducible rfl)
    (try simp only [Act.put, List.setIfInBounds_toArray, List.set_cons_zero, List.set_cons_succ])
    refine wpAnyH_take (i := 25) (oi := { dst := some 65, op := Go.Op.nilCheck (Go.Operand.tmp 64), type := 0, pos := _, after := #[{ on := 24, ground := Go.Ground.data }], guard := none }) (v := ?vq25) rfl (by kernel_rfl) (by kernel_rfl) (by kernel_rfl) (fun _ _ _ h => h) (Or.inl ⟨by rfl, ?hyq25⟩) (by assumption) ?_
    case hyq25 => (intro wz hSw; (try dsimp only at hSw); go_simp; try with_reducible rfl)
    (try simp only [Act.put, List.setIfInBounds_toArray, List.set_cons_zero, List.set_cons_succ])
    refine wpAnyH_take (i := 26) (oi := { dst := some 66, op := Go.Op.fieldAddr 79 (Go.Operand.tmp 65) 0, type := 0, pos := _, after := #[{ on := 25, ground := Go.Ground.data }], guard := none }) (v := ?vq26) rfl (by kernel_rfl) (by kernel_rfl) (by kernel_rfl) (fun _ _ _ h => h) (Or.inl ⟨by rfl, ?hyq26⟩) (by assumption) ?_
    case hyq26 => (intro wz hSw; (try dsimp only at hSw); go_simp; try with_reducible rfl)
    (try simp only [Act.put, List.setIfInBounds_toArray, List.set_cons_zero, List.set_cons_succ])
    refine wpAnyH_take (i := 27) (oi := { dst := some 67, op := Go.Op.load 23 (Go.Operand.tmp 66), type := 23, pos := _, after := #[{ on := 26, ground := Go.Ground.data }], guard := none }) (v := ?vq27) rfl (by kernel_rfl) (by kernel_rfl) (by kernel_rfl) (fun _ _ _ h => h) (Or.inl ⟨by rfl, ?hyq27⟩) (by assumption) ?_
    case hyq27 => (intro wz hSw; (try dsimp only at hSw); go_simp; try with_reducible rfl)
    (try simp only [Act.put, List.setIfInBounds_toArray, List.set_cons_zero, List.set_cons_succ])
    refine wpAnyH_take (i := 28) (oi := { dst := some 68, op := Go.Op.move (Go.Operand.tmp 5), type := 3, pos := _, after := #[], guard := none }) (v := ?vq28) rfl (by kernel_rfl) (by kernel_rfl) (by kernel_rfl) (fun _ _ _ h => h) (Or.inl ⟨by rfl, ?hyq28⟩) (by assumption) ?_
    case hyq28 => (intro wz hSw; (try dsimp only at hSw); go_simp; try with_reducible rfl)
    (try simp only [Act.put, List.setIfInBounds_toArray, List.set_cons_zero, List.set_cons_succ])
    refine wpAnyH_ready (rs := [29]) (by kernel_rfl) (by simp) ?_
    refine AllReadyH.cons (o := { dst := some 69, op := Go.Op.call { callee := Go.Callee.value (Go.Operand.func 50), args := #[Go.Operand.tmp 67, Go.Operand.tmp 68], argTypes := #[23, 3] }, type := 3, pos := _, after := #[{ on := 27, ground := Go.Ground.data }, { on := 28, ground := Go.Ground.data }], guard := none }) rfl (fun K hK => ?_) AllReadyH.nil
    go_simp
    refine SZ.out.mono ?_; rintro e w2 ⟨rfl, rfl⟩
    go_wp2_with fail
    refine hK.out _ _ ?_ (fun hHeld => ?_)
    · (try dsimp only); go_keep
    clear hK K
    (try simp only [Act.put, List.setIfInBounds_toArray, List.set_cons_zero, List.set_cons_succ])
    refine wpAnyH_take (i := 30) (oi := { dst := some 70, op := Go.Op.binOp Go.BinOp.add 3 (Go.Operand.tmp 63) (Go.Operand.tmp 69) 3, type := 3, pos := _, after := #[{ on := 23, ground := Go.Ground.data }, { on := 29, ground := Go.Ground.data }], guard := none }) (v := ?vq30) rfl (by kernel_rfl) (by kernel_rfl) (by kernel_rfl) (fun _ _ _ h => h) (Or.inl ⟨by rfl, ?hyq30⟩) (by assumption) ?_
    case hyq30 => (intro wz hSw; (try dsimp only at hSw); go_simp; try with_reducible rfl)
    (try simp only [Act.put, List.setIfInBounds_toArray, List.set_cons_zero, List.set_cons_succ])
    refine wpAnyH_take (i := 31) (oi := { dst := some 71, op := Go.Op.slice 34 (Go.Operand.tmp 59) (some (Go.Operand.tmp 61)) (some (Go.Operand.tmp 70)) none, type := 34, pos := _, after := #[{ on := 19, ground := Go.Ground.data }, { on := 21, ground := Go.Ground.data }, { on := 30, ground := Go.Ground.data }], guard := none }) (v := ?vq31) rfl (by kernel_rfl) (by kernel_rfl) (by kernel_rfl) (fun _ _ _ h => h) (Or.inl ⟨by rfl, ?hyq31⟩) (by assumption) ?_
    case hyq31 => (intro wz hSw; (try dsimp only at hSw); go_simp; rw [if_pos SE.out.2.2.1, if_pos SE.out.2.2.2, SE.out.1, SE.out.2.1])
    (try simp only [Act.put, List.setIfInBounds_toArray, List.set_cons_zero, List.set_cons_succ])
    refine wpAnyH_ready (rs := [32]) (by kernel_rfl) (by simp) ?_
    refine AllReadyH.cons (o := { dst := some 72, op := Go.Op.call { callee := Go.Callee.value (Go.Operand.func 35), args := #[Go.Operand.tmp 42, Go.Operand.tmp 52, Go.Operand.tmp 71], argTypes := #[70, 28, 34] }, type := 28, pos := _, after := #[{ on := 2, ground := Go.Ground.data }, { on := 12, ground := Go.Ground.data }, { on := 31, ground := Go.Ground.data }, { on := 29, ground := Go.Ground.chain }], guard := none }) rfl (fun K hK => ?_) AllReadyH.nil
    go_simp
    refine AD.out.mono ?_; rintro e w2 ⟨he, H2⟩
    rw [he.out]
    have k0 : w2.cell? ⟨C, 0, none⟩ = some (.pointer (some ⟨H, o, none⟩)) := H2.out.1.c0
    have k1 := (KC.out w2 H2.out.2).1
    have k2 := (KC.out w2 H2.out.2).2
    go_wp2_with fail
    refine hK.out _ _ ?_ (fun hHeld => ?_)
    · (try dsimp only); go_keep
    clear hK K
    (try simp only [Act.put, List.setIfInBounds_toArray, List.set_cons_zero, List.set_cons_succ])
    refine wpAnyH_done (by kernel_rfl) ?_ _
    have w5 : ∃ cm, w2.cell? ⟨C, 5, none⟩ = some (.slice (some ⟨M, 0, none⟩) L cm) ∧ w2.cell? ⟨M, a, none⟩ = some (.int .i64 ((nT : Int) + 1)) := by
      obtain ⟨cm, q1, q2⟩ := H2.out.1.c5
      rw [List.length_set, ← HL.out] at q1 q2
      have hl : a < (s.mv.set a ((nT : Int) + 1)).length := by rw [List.length_set, ← HL.out]; exact ham
      refine ⟨cm, q1, ?_⟩
      rw [q2.cellAt a (by omega), il_at _ _ hl, List.getElem_set_self]
    obtain ⟨cmz, v5, vM⟩ := w5
    have k0 : w2.cell? ⟨C, 0, none⟩ = some (.pointer (some ⟨H, o, none⟩)) := H2.out.1.c0
    have hw7 : IntKind.i64.wrap ((nT : Int) + 1 - 1) = (nT : Int) := by rw [show (nT : Int) + 1 - 1 = nT by omega]; exact IntWalk.i64_in _ (by omega)
    have PT : Hid (∀ W, Calls Try.prog 12 #[.int .i64 nT] W fun e w' => e = .returned (.int .u64 ((nT : Int) * 2)) ∧ W = w') := Lib.hid (fun W => by
      have := ptr_any (nT : Int) W
      rwa [show clampP (nT : Int) = nT from by unfold clampP; rw [if_neg (by omega), if_neg (by omega)]] at this)
    go_wp2_with fail
    refine (PT.out _).mono ?_; rintro e w3 ⟨rfl, rfl⟩
    go_wp2
    go_ret
    have e := HNT.out
    subst e
    refine ⟨rfl, Lib.hid ⟨?_, ?_⟩, Lib.hid H2.out.2⟩
    · have q := H2.out.1
      rw [H0.out] at q
      exact q
    · have q := HCM.out.1
      rwa [if_pos trivial] at q
  · rw [if_neg h0, if_neg h0]
    have dz : (v == 0) = false := beq_eq_false_iff_ne.2 h0
    have PT : Hid (∀ W, Calls Try.prog 12 #[.int .i64 (v - 1)] W fun e w' => e = .returned (.int .u64 ((v - 1) * 2)) ∧ W = w') := Lib.hid (fun W => by
      have := ptr_any (v - 1) W
      rwa [show clampP (v - 1) = v - 1 from by unfold clampP; rw [if_neg (by omega), if_neg (by omega)]] at this)
    clear hv h hx hcm g1 g2 g3 g4 ha hb hMV hMS hal hst own5 hml ham
    go_enter Try.func37, Try.ntmps37
    go_wp2_with fail
    refine FD.out.mono ?_; rintro e w1 ⟨rfl, rfl⟩
    clear FD
    go_wp2_with fail
    refine (PT.out _).mono ?_; rintro e w1 ⟨rfl, rfl⟩
    clear PT
    go_wp2
    go_ret
    exact ⟨rfl, HC, Lib.hid (Frm.refl _ _)⟩
end Go.Proofs.Ytknpgmbniohcnaa
