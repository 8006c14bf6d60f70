import Derived.Test.YtknpgmbniohcnaaRp
namespace Go.Proofs.Ytknpgmbniohcnaa
open Go.ChangeShapes Go.WideShapes Go.ChangeAt Go.RowKit
set_option linter.unusedVariables false
set_option linter.unusedSimpArgs false
theorem wp_append_at {P : Program} {o : Oper} {a : Act} {w : World} {K : Act → World → Prop} {Q : Exit → Act → World → Prop} (s x : Operand) (t : TypeId)
    (ho : o.op = .call { callee := .builtin .append, args := #[s, x], argTypes := #[t, t] })
    (base : Nat) (e : TypeId) (i : TypeInfo) (z : Value) (bytes : Nat) (ht : P.underlying t = some (.slice e)) (hi : P.info? e = some i) (hz : i.zero = some z)
    (hsize : i.size = 1) (hby : i.bytes = bytes) (hzs : z.cells.size = 1)
    (v : Value) (n : Nat) (xs : List Value) (hs : a.eval s = v) (hown : w.ownsRow base e 1 v n xs)
    (ad : Addr) (m c : Nat) (news : List Value) (hx : a.eval x = .slice (some ad) m c) (hl : news.length = m) (hnews : ∀ j u, news[j]? = some u → w.cell? (ad.add j) = some u) (h1 : ∀ u ∈ news, u.oneCell' = true)
    (h63 : n + m ≤ maxLen) (hbytes : (n + m) * bytes ≤ 140737488355328) (hbase : base ≤ w.heap.size)
    (h : ∀ v' w', w'.ownsRow base e 1 v' (n + m) (xs ++ news) → w.grownBy w' v.ownBlock → (v'.ownBlock = v.ownBlock ∨ v'.ownBlock = some w.heap.size) → K (a.put o.dst v') w') : o.wp P a w K Q := by
  obtain ⟨v', w', hr, h2, h3, h4, h5⟩ := run_append_own_at (P := P) w base t o.type e i z 1 bytes ht hi hz hsize hby hzs (by decide) v n xs hown ad m c news (by rw [hl, Nat.mul_one]) hnews h1 h63 hbytes hbase
  unfold Oper.wp execOp
  simp only [ho, resolve, invoke, builtin, Sem.run_bind, Sem.run_pure, Result.andThen_ok, List.map_toArray, List.map_cons, List.map_nil, hs, hx, hr]
  exact h v' w' h2 h3 h5
theorem own_below {w W : World} {B e n : Nat} {v : Value} {xs : List Value} (h : w.ownsRow B e 1 v n xs) (hb : Below w.heap.size w W) : W.ownsRow B e 1 v n xs :=
  own_frm h (R := fun k => w.heap.size ≤ k) (Frm.of_below hb (Nat.le_refl _) _) (fun k hk hr => by have := (h.lt k hk).2; omega)
theorem cell_below {w W : World} {b i : Nat} {u : Value} (h : w.cell? ⟨b, i, none⟩ = some u) (hb : Below w.heap.size w W) : W.cell? ⟨b, i, none⟩ = some u :=
  (hb.cell (p := ⟨b, i, none⟩) (World.block_lt_of_cell? w _ h)).trans h
theorem cell_grown {w W : World} {b i : Nat} {u : Value} {r : Option Nat} (h : w.cell? ⟨b, i, none⟩ = some u) (gr : w.grownBy W r) (hr : r = some b → False) : W.cell? ⟨b, i, none⟩ = some u :=
  (World.cell?_of_block (gr.block b (World.block_lt_of_cell? w _ h) (fun e => hr e.symm))).trans h
theorem below_then {B : Nat} {w a b : World} (h : Below B w a) (hb : Below a.heap.size a b) (hB : B ≤ a.heap.size) : Below B w b := h.trans (hb.mono hB)
theorem news1 {w : World} {b : Nat} {x : Int} (h : w.cell? ⟨b, 0, none⟩ = some (.int .i64 x)) : ∀ j u, [Value.int .i64 x][j]? = some u → w.cell? ((⟨b, 0, none⟩ : Addr).add j) = some u := by
  intro j u hu
  cases j with
  | zero => simp at hu; subst hu; rw [Go.WideShapes.add_plain]; exact h
  | succ j => simp at hu
theorem one1 (x : Int) : ∀ u ∈ [Value.int .i64 x], u.oneCell' = true := fun u hu => by simp only [List.mem_singleton] at hu; subst hu; rfl
theorem sep_new1 {w : World} {B e n : Nat} {vf v' vp : Value} {xs : List Value} (h : ∀ k, vf.ownBlock = some k → vp.ownBlock ≠ some k) (op : w.ownsRow B e 1 vp n xs) (hat : v'.ownBlock = vf.ownBlock ∨ v'.ownBlock = some w.heap.size) : ∀ k, v'.ownBlock = some k → vp.ownBlock ≠ some k := by
  intro k hk
  rcases hat with e | e
  · exact h k (e ▸ hk)
  · rw [e] at hk; injection hk with hk; intro h2; have := (op.lt k h2).2; omega
theorem sep_new2 {w : World} {B e n : Nat} {vf v' vp : Value} {xs : List Value} (h : ∀ k, vf.ownBlock = some k → vp.ownBlock ≠ some k) (of : w.ownsRow B e 1 vf n xs) (hat : v'.ownBlock = vp.ownBlock ∨ v'.ownBlock = some w.heap.size) : ∀ k, vf.ownBlock = some k → v'.ownBlock ≠ some k := by
  intro k hk
  rcases hat with e | e
  · rw [e]; exact h k hk
  · rw [e]; intro h2; injection h2 with h2; have := (of.lt k hk).2; omega
theorem own_inI {w : World} {B n c : Nat} {A : Option Addr} {xs : List Int} (h : w.ownsRow B 3 1 (.slice A n c) n (il xs)) : xs.length = n ∧ ∀ j (hj : j < xs.length), ∃ b, A = some ⟨b, 0, none⟩ ∧ w.cell? ⟨b, j, none⟩ = some (.int .i64 xs[j]) := by
  have hl := h.1
  rw [il_len] at hl
  refine ⟨by omega, fun j hj => ?_⟩
  rcases h.2 with ⟨e, e0⟩ | ⟨g, cap, cur, e, _⟩
  · omega
  · injection e with e1 e2 e3
    subst e1 e3
    exact ⟨g, rfl, (h.cellAt j (by omega)).trans (il_at xs j hj)⟩
/-- the lists of what was copied, and where to. -/
structure Rel (F : Hm) (mv fr pl : List Int) : Prop where
  len : fr.length = pl.length
  no : ∀ a : Nat, mv.getD a 0 = 0 → (a : Int) ∉ fr
  yes : ∀ a : Nat, mv.getD a 0 ≠ 0 → (a : Int) ∈ fr
  at_ : ∀ (j : Nat) (h : j < fr.length), ∃ a : Nat, fr[j] = (a : Int) ∧ a < F.ws.length ∧ mv.getD a 0 = pl.getD j 0 + 1
structure RC2 (w : World) (B H Bt : Nat) (F : Hm) (s : CS) (vt vf vp : Value) (fr pl : List Int) : Prop where
  rh : RH w B H F
  ot : w.ownsRow Bt 27 1 vt s.T.ws.length (wd s.T.ws)
  of : w.ownsRow Bt 3 1 vf fr.length (il fr)
  op : w.ownsRow Bt 3 1 vp fr.length (il pl)
  sep : ∀ k, vf.ownBlock = some k → vp.ownBlock ≠ some k
  hlt : ∀ k, RR w H k → k < Bt
  hB : Bt ≤ w.heap.size
  rel : Rel F s.mv fr pl
  inv : CInv F s
  len : fr.length ≤ s.T.ws.length
theorem RC2.below {w W : World} {B H Bt : Nat} {F : Hm} {s : CS} {vt vf vp : Value} {fr pl : List Int} (h : RC2 w B H Bt F s vt vf vp fr pl) (hb : Below w.heap.size w W) : RC2 W B H Bt F s vt vf vp fr pl := by
  refine ⟨h.rh.below hb, own_below h.ot hb, own_below h.of hb, own_below h.op hb, h.sep, fun k hk => h.hlt k ?_, Nat.le_trans h.hB hb.size, h.rel, h.inv, h.len⟩
  rcases hk with e | ⟨n, c, e⟩
  · exact .inl e
  · exact .inr ⟨n, c, (hb.cell (p := ⟨H, 1, none⟩) h.rh.lt).symm.trans e⟩
theorem res47 {tmps : Array Value} {W : World} {a b c d : Value} (h4 : tmps.getD 10 undef = a) (h5 : tmps.getD 11 undef = b) (h6 : tmps.getD 12 undef = c) (h7 : tmps.getD 13 undef = d) :
    (results Try.f47 tmps).run Try.prog W = .ok (.tuple #[a, b, c, d]) W := by
  simp only [Array.getD_eq_getD_getElem?] at h4 h5 h6 h7
  simp [results, Try.f47, go_sem, h4, h5, h6, h7]
theorem rel_find {F : Hm} {mv fr pl : List Int} (h : Rel F mv fr pl) {a : Nat} {j : Nat} (hj : j < fr.length) (e : fr[j] = (a : Int)) : mv.getD a 0 = pl.getD j 0 + 1 := by
  obtain ⟨b, h1, _, h3⟩ := h.at_ j hj
  rw [e] at h1
  have : a = b := by omega
  rw [this]; exact h3
theorem rel_add {F : Hm} {mv fr pl : List Int} (h : Rel F mv fr pl) {a : Nat} {v : Int} (ha : a < F.ws.length) (hl : mv.length = F.ws.length) (h0 : mv.getD a 0 = 0) (hv : v + 1 ≠ 0) : Rel F (mv.set a (v + 1)) (fr ++ [(a : Int)]) (pl ++ [v]) := by
  refine ⟨by simp [h.len], fun b hb => ?_, fun b hb => ?_, fun j hj => ?_⟩
  · have hne : b ≠ a := fun e => by rw [e, getD_set_same _ _ _ (by omega)] at hb; exact hv hb
    rw [getD_set_ne _ _ _ _ hne] at hb
    simp only [List.mem_append, List.mem_singleton, not_or]
    exact ⟨h.no b hb, by omega⟩
  · by_cases hne : b = a
    · subst hne; simp
    · rw [getD_set_ne _ _ _ _ hne] at hb
      simp only [List.mem_append]; exact .inl (h.yes b hb)
  · by_cases hj2 : j < fr.length
    · obtain ⟨b, h1, h2, h3⟩ := h.at_ j hj2
      have hne : b ≠ a := fun e => h.no a h0 (by rw [← e, ← h1]; exact List.getElem_mem hj2)
      refine ⟨b, by rw [List.getElem_append_left hj2]; exact h1, h2, ?_⟩
      rw [getD_set_ne _ _ _ _ hne, getD_app_l _ _ _ _ (by rw [← h.len]; exact hj2)]; exact h3
    · have e : j = fr.length := by simp at hj; omega
      subst e
      refine ⟨a, by simp, ha, ?_⟩
      rw [getD_set_same _ _ _ (by omega), h.len, show pl.length = pl.length + 0 from rfl, getD_app_r]; rfl
set_option maxRecDepth 100000 in
set_option maxHeartbeats 16000000 in
theorem rmove_any {w : World} {B H Bt nt nf cT cF cP : Nat} {F : Hm} {s : CS} {At Af Ap : Option Addr} {fr pl : List Int} (h : RC2 w B H Bt F s (.slice At nt cT) (.slice Af nf cF) (.slice Ap nf cP) fr pl) (hnt : s.T.ws.length = nt) (hnf : fr.length = nf) (x : Int) (hx : U64 x) :
    Calls Try.prog 47 #[.pointer (some ⟨H, 0, none⟩), .int .u64 x, .slice At nt cT, .slice Af nf cF, .slice Ap nf cP] w fun e w' => ∃ vt vf vp fr' pl', e = .returned (.tuple #[.int .u64 (moveV F s x), vt, vf, vp]) ∧ Hid (RC2 w' B H Bt F (moveS F s x) vt vf vp fr' pl') ∧ Hid (Below Bt w w') := by
  obtain ⟨i0, hi0, hz0, hz1, hz2⟩ := info_parts info27
  obtain ⟨j0, hj0, hy0, hy1, hy2⟩ := info_parts info3
  have HC := Lib.hid h
  have TH := Lib.hid (thing_any h.rh x hx)
  have BR : Hid (Below Bt w w) := Lib.hid (Below.refl _ _)
  cases hb : findB F x
  · have e1 : moveV F s x = x := by unfold moveV; rw [if_pos hb]
    have e2 : moveS F s x = s := by unfold moveS; rw [if_pos hb]
    rw [e1, e2]
    rw [hb] at TH
    obtain ⟨a, ha⟩ : ∃ a, a = findV F x := ⟨_, rfl⟩
    obtain ⟨b, hb⟩ : ∃ b, b = thN F x := ⟨_, rfl⟩
    rw [← ha, ← hb] at TH
    clear e1 e2 h hx ha hb hnt hnf
    go_enter Try.func47, Try.ntmps47
    go_wp2_with fail
    refine TH.out.mono ?_; rintro e w1 ⟨rfl, rfl⟩
    clear TH
    go_wp2
    exact bodyPost_ret (res47 rfl rfl rfl rfl) rfl ⟨_, _, _, _, _, rfl, HC, BR⟩
  have hN := thN_of hb
  obtain ⟨q1, q2, q3, q4⟩ := findB_lt hb
  obtain ⟨a, ha⟩ : ∃ a : Nat, atV x = (a : Int) := ⟨(atV x).toNat, by have := atV_nn hx.1; omega⟩
  rw [q2, ha, Int.toNat_natCast] at hN
  rw [ha, Int.toNat_natCast] at q3 q4
  have hsn := h.rh.full.snd a q3 q4
  rw [hb, q2, ha, hN] at TH
  have hnn := splS_nn (h.rh.full.wf _ (List.getElem_mem q3)).1
  rw [← getD_at q3] at hnn
  obtain ⟨sz, hsz⟩ : ∃ sz : Nat, splS (F.ws.getD a 0) = (sz : Int) := ⟨(splS (F.ws.getD a 0)).toNat, by omega⟩
  rw [hsz] at TH hsn hnn
  have hsm : a + 1 + sz ≤ F.ws.length := by have := hsn.2.1; rwa [Int.toNat_natCast] at this
  have hMV : moveV F s x = if s.mv.getD a 0 = 0 then (s.T.ws.length : Int) * 2 else (s.mv.getD a 0 - 1) * 2 := by unfold moveV; rw [if_neg (by rw [hb]; decide), ha]; rfl
  have hMS : moveS F s x = if s.mv.getD a 0 = 0 then ⟨s.T.add (F.ws.getD a 0) (objOf F a), s.mv.set a (s.T.ws.length + 1)⟩ else s := by unfold moveS; rw [if_neg (by rw [hb]; decide), ha]; rfl
  have hcm := cinv_move h.rh.full.toOk h.inv x hx
  have HCM := Lib.hid hcm
  have HMVS := Lib.hid (And.intro hMV hMS)
  have hflt := h.rh.full.lt
  obtain ⟨A0, c0, f0, f1, f2, hin, fz, own⟩ := h.rh.cells
  obtain ⟨g, off0, hA0, hbl, hc⟩ := hin.at (by omega)
  have hoff : off0 = 0 := by
    rcases own.2 with ⟨e, _⟩ | ⟨g', cap, cur, e, _⟩
    · injection e with e; rw [hA0] at e; cases e
    · injection e with e; rw [hA0] at e; injection e with e; injection e with _ e
  subst hA0 hoff
  have hcap : F.ws.length ≤ c0 := by
    rcases own.2 with ⟨e, _⟩ | ⟨g', cap, cur, e, _, _, h7, _⟩
    · cases e
    · injection e with _ _ e; rw [e]; exact h7
  obtain ⟨L, hL⟩ : ∃ L, L = F.ws.length := ⟨_, rfl⟩
  rw [← hL] at f1 hsm hflt hcap
  have HL := Lib.hid hL
  have hfl := h.len
  have htl := h.inv.tok.lt
  rw [hnf, hnt] at hfl
  rw [hnt] at htl
  have HNT := Lib.hid hnt
  have HNF := Lib.hid hnf
  have HA := Lib.hid (And.intro q3 (And.intro hb ha))
  have HCELL := Lib.hid hc
  have HSZ := Lib.hid hsz
  have OFI : Hid (∀ j (hj : j < fr.length), ∃ b, Af = some ⟨b, 0, none⟩ ∧ w.cell? ⟨b, j, none⟩ = some (.int .i64 fr[j])) := Lib.hid (by
    have o := h.of
    rw [hnf] at o
    exact (own_inI o).2)
  have plc : Hid (∀ j (hj : j < pl.length), ∃ b, Ap = some ⟨b, 0, none⟩ ∧ w.cell? ⟨b, j, none⟩ = some (.int .i64 pl[j])) := Lib.hid (by
    have o := h.op
    rw [hnf] at o
    exact (own_inI o).2)
  have haL : a < L := by have := HL.out; omega
  clear h hx hN q1 q2 q3 q4 ha hb hsn hsz hMV hMS hcm f0 f2 hin fz own hc hL hnt hnf
  go_enter Try.func47, Try.ntmps47
  go_wp2_with fail
  refine TH.out.mono ?_; rintro e w1 ⟨rfl, rfl⟩
  clear TH
  go_wp2
  go_loop [17] (fun i => ∃ k : Nat, i = .int .i64 k ∧ k ≤ nf ∧ Hid (∀ j (hj : j < fr.length), j < k → fr[j] ≠ (a : Int))) (fun i => nf - (intOf i).toNat)
  case atStart => exact ⟨0, rfl, by omega, Lib.hid (fun j hj h => by omega)⟩
  case round =>
    obtain ⟨k, rfl, hk, HK⟩ := hrel
    by_cases hkn : k < nf
    · have hkl : k < fr.length := by have := HNF.out; omega
      have hkp : k < pl.length := by have := HC.out.rel.len; omega
      have hkni : (k : Int) < (nf : Int) := by omega
      obtain ⟨bf, hbf, hcf⟩ := OFI.out k hkl
      obtain ⟨bp, hbp, hcp⟩ := plc.out k hkp
      subst hbf hbp
      obtain ⟨y, hy⟩ : ∃ y, y = fr[k] := ⟨_, rfl⟩
      obtain ⟨p, hp⟩ : ∃ p, p = pl[k] := ⟨_, rfl⟩
      rw [← hy] at hcf
      rw [← hp] at hcp
      have HY := Lib.hid hy
      have HPP := Lib.hid hp
      clear hy hp
      by_cases hya : y = (a : Int)
      · have dd : (y == (a : Int)) = true := by rw [hya]; exact beq_self_eq_true _
        have hmv : s.mv.getD a 0 = p + 1 := by
          have z := rel_find HC.out.rel hkl (HY.out.symm.trans hya)
          rw [getD_at hkp, ← HPP.out] at z; exact z
        have hpr : 0 ≤ p ∧ p ≤ 65535 := by
          obtain ⟨b, h1, h2, h3⟩ := HC.out.rel.at_ k hkl
          have hm : a < s.mv.length := by rw [HC.out.inv.len]; have := HL.out; omega
          have z := HC.out.inv.rng _ (List.getElem_mem hm)
          rw [← getD_at hm, hmv] at z
          have hne : p + 1 ≠ 0 := fun e => by
            have := HC.out.rel.no a (by rw [hmv, e])
            exact this (by rw [← hya, HY.out]; exact List.getElem_mem hkl)
          omega
        have HE := Lib.hid (show moveV F s x = p * 2 ∧ moveS F s x = s from ⟨by rw [HMVS.out.1, hmv, if_neg (by omega)]; omega, by rw [HMVS.out.2, hmv, if_neg (by omega)]⟩)
        have PT : Hid (∀ W, Calls Try.prog 45 #[.int .i64 p] W fun e w' => e = .returned (.int .u64 (p * 2)) ∧ W = w') := Lib.hid (fun W => by
          have := rptr_any p W
          rwa [show clampP p = p from by unfold clampP; rw [if_neg (by omega), if_neg (by omega)]] at this)
        clear hya hmv
        go_wp2_with fail
        refine (PT.out _).mono ?_; rintro e w2 ⟨rfl, rfl⟩
        go_wp2
        refine bodyPost_ret (res47 rfl rfl rfl rfl) rfl ⟨_, _, _, fr, pl, by rw [HE.out.1]; rfl, ?_, BR⟩
        rw [HE.out.2]; exact HC
      · have dd : (y == (a : Int)) = false := beq_eq_false_iff_ne.2 hya
        have HK2 : Hid (∀ j (hj : j < fr.length), j < k + 1 → fr[j] ≠ (a : Int)) := Lib.hid (fun j hj h => by
          by_cases e : j = k
          · subst e; rw [← HY.out]; exact hya
          · exact HK.out j hj (by omega))
        clear hya
        go_wp2
        go_round
        case rel => exact ⟨k + 1, by go_num, by omega, HK2⟩
        case measure => simp [intOf]; omega
    · obtain rfl : nf = k := by omega
      have hkni : ¬ (nf : Int) < (nf : Int) := by omega
      have hmv0 : s.mv.getD a 0 = 0 := by
        refine Classical.byContradiction fun hne => ?_
        obtain ⟨j, hj, e⟩ := List.getElem_of_mem (HC.out.rel.yes a hne)
        exact HK.out j hj (by have := HNF.out; omega) e
      have HE := Lib.hid (show moveV F s x = (nt : Int) * 2 ∧ moveS F s x = ⟨s.T.add (F.ws.getD a 0) (objOf F a), s.mv.set a ((nt : Int) + 1)⟩ from ⟨by rw [HMVS.out.1, if_pos hmv0, HNT.out], by rw [HMVS.out.2, if_pos hmv0, HNT.out]⟩)
      have hol : (objOf F a).length = sz := by
        unfold objOf; rw [HSZ.out, Int.toNat_natCast, List.length_take, List.length_drop]; have := HL.out; omega
      have hroom : nt + sz + 1 ≤ 65536 := by
        have z := HCM.out.2 HA.out.2.1
        rw [HA.out.2.2, Int.toNat_natCast] at z
        have z2 := z hmv0
        rw [hol, HNT.out] at z2
        have := HL.out; omega
      have hnf1 : nf ≤ 65535 := by omega
      have PT : Hid (∀ W, Calls Try.prog 45 #[.int .i64 nt] W fun e w' => e = .returned (.int .u64 ((nt : Int) * 2)) ∧ W = w') := Lib.hid (fun W => by
        have := rptr_any (nt : Int) W
        rwa [show clampP (nt : Int) = nt from by unfold clampP; rw [if_neg (by omega), if_neg (by omega)]] at this)
      have bsize : ∀ {W : World}, Below Bt w W → Bt ≤ W.heap.size := fun hb => Nat.le_trans HC.out.hB hb.size
      have grown_b : ∀ {W W' : World} {e n : Nat} {v : Value} {xs : List Value}, Below Bt w W → W.ownsRow Bt e 1 v n xs → W.grownBy W' v.ownBlock → Below Bt w W' := fun hb ho gr => hb.trans ((Frm.of_grown (R := fun k => Value.ownBlock _ = some k) gr (fun k hk => hk)).below (fun k hk => own_block_ge ho k hk) (bsize hb))
      have BB0 : Hid (Below Bt w w.drew) := Lib.hid ((bdr w).mono HC.out.hB)
      have HCD := Lib.hid (HC.out.below (bdr w))
      have OT0 : Hid (w.drew.ownsRow Bt 27 1 (.slice At nt cT) nt (wd s.T.ws)) := Lib.hid (by have z := HCD.out.ot; rwa [HNT.out] at z)
      have OF0 : Hid (w.drew.ownsRow Bt 3 1 (.slice Af nf cF) nf (il fr)) := Lib.hid (by have z := HCD.out.of; rwa [HNF.out] at z)
      have OP0 : Hid (w.drew.ownsRow Bt 3 1 (.slice Ap nf cP) nf (il pl)) := Lib.hid (by have z := HCD.out.op; rwa [HNF.out] at z)
      have SP0 := Lib.hid HC.out.sep
      have Yot : Hid (∀ k, Value.ownBlock (.slice At nt cT) = some k → k < w.heap.size) := Lib.hid (fun k hk => (HC.out.ot.lt k hk).2)
      have Yof : Hid (∀ k, Value.ownBlock (.slice Af nf cF) = some k → k < w.heap.size) := Lib.hid (fun k hk => (HC.out.of.lt k hk).2)
      have Yop : Hid (∀ k, Value.ownBlock (.slice Ap nf cP) = some k → k < w.heap.size) := Lib.hid (fun k hk => (HC.out.op.lt k hk).2)
      have F1 := Lib.hid f1
      have KH : Hid (∀ W, Below Bt w W → W.cell? ⟨H, 1, none⟩ = some (.slice (some ⟨g, 0, none⟩) L c0)) := Lib.hid (fun W hb => (hb.cell (p := ⟨H, 1, none⟩) (HC.out.hlt H (.inl rfl))).trans F1.out)
      have NWL : Hid ((F.ws.getD a 0 :: objOf F a).length = sz + 1) := Lib.hid (by rw [List.length_cons, hol])
      obtain ⟨off, hoff⟩ : ∃ off, off = if c0 = a then 0 else a := ⟨_, rfl⟩
      have hoffa : off = a := by rw [hoff, if_neg (by omega)]
      have hgB : g < Bt := HC.out.hlt g (.inr ⟨_, _, F1.out⟩)
      have NW : Hid (∀ W, Below Bt w W → ∀ j u, (wd (F.ws.getD a 0 :: objOf F a))[j]? = some u → W.cell? ((⟨g, off, none⟩ : Addr).add j) = some u) := Lib.hid (fun W hb j u hu => by
        have hj : j < (F.ws.getD a 0 :: objOf F a).length := by have := (List.getElem?_eq_some_iff.1 hu).1; rwa [wd_len] at this
        rw [NWL.out] at hj
        have hl : a + j < F.ws.length := by have := HL.out; omega
        rw [Go.WideShapes.add_plain, hoffa, (hb.cell (p := ⟨g, a + j, none⟩) hgB)]
        have z := HCELL.out (a + j) hl
        rw [Nat.zero_add] at z
        rw [z, ← hu, wd_at _ j (by rw [NWL.out]; exact hj)]
        congr 2
        cases j with
        | zero => rw [List.getElem_cons_zero, getD_at HA.out.1]; rfl
        | succ j =>
          rw [List.getElem_cons_succ, obj_at F a j (by rw [hol]; omega) (by omega)]
          congr 1; omega)
      have FIN : Hid (∀ W vt' vf' vp', Below Bt w W → W.ownsRow Bt 27 1 vt' (nt + (sz + 1)) (wd s.T.ws ++ wd (F.ws.getD a 0 :: objOf F a)) → W.ownsRow Bt 3 1 vf' (nf + 1) (il fr ++ [.int .i64 a]) → W.ownsRow Bt 3 1 vp' (nf + 1) (il pl ++ [.int .i64 nt]) → (∀ k, Value.ownBlock vf' = some k → Value.ownBlock vp' ≠ some k) → RC2 W B H Bt F (moveS F s x) vt' vf' vp' (fr ++ [(a : Int)]) (pl ++ [(nt : Int)])) := Lib.hid (fun W vt' vf' vp' hb h1 h2 h3 h4 => by
        have hI := HCM.out.1
        rw [HE.out.2] at hI ⊢
        have hlT : (s.T.add (F.ws.getD a 0) (objOf F a)).ws.length = nt + (sz + 1) := by simp only [Hm.add, List.length_append]; rw [NWL.out, HNT.out]
        have hrhf := HC.out.rh
        have frmB : Frm w W (fun k => Bt ≤ k) := ⟨hb.os, hb.tape, hb.output, hb.size, fun i hi hr => hb.block i (by omega)⟩
        refine ⟨hrhf.frm frmB (fun k hk hr => by have := HC.out.hlt k hk; omega), ?_, ?_, ?_, h4, fun k hk => HC.out.hlt k ?_, bsize hb, ?_, hI, ?_⟩
        · rw [hlT]
          have e : wd (s.T.add (F.ws.getD a 0) (objOf F a)).ws = wd s.T.ws ++ wd (F.ws.getD a 0 :: objOf F a) := by simp [Hm.add, wd]
          rw [e]; exact h1
        · rw [show (fr ++ [(a : Int)]).length = nf + 1 from by rw [List.length_append, HNF.out]; rfl, show il (fr ++ [(a : Int)]) = il fr ++ [.int .i64 a] from by simp [il]]; exact h2
        · rw [show (fr ++ [(a : Int)]).length = nf + 1 from by rw [List.length_append, HNF.out]; rfl, show il (pl ++ [(nt : Int)]) = il pl ++ [.int .i64 nt] from by simp [il]]; exact h3
        · rcases hk with e | ⟨n, c, e⟩
          · exact .inl e
          · exact .inr ⟨n, c, (hb.cell (p := ⟨H, 1, none⟩) (HC.out.hlt H (.inl rfl))).symm.trans e⟩
        · exact rel_add HC.out.rel HA.out.1 HC.out.inv.len hmv0 (by omega)
        · rw [List.length_append, HNF.out, hlT]; simp; omega)
      have SE : Hid ((if c0 = a then (some ⟨g, 0, none⟩ : Option Addr) else some ⟨g, a, none⟩) = some ⟨g, off, none⟩ ∧ ((a : Int) + (sz : Int) + 1).toNat - a = sz + 1 ∧ (0 ≤ (a : Int) + (sz : Int) + 1 ∧ (a : Int) + (sz : Int) + 1 ≤ (c0 : Int)) ∧ a ≤ ((a : Int) + (sz : Int) + 1).toNat) := Lib.hid ⟨by rw [hoff]; split <;> rfl, by omega, ⟨by omega, by omega⟩, by omega⟩
      have ha1 : IntKind.i64.wrap ((a : Int) + (sz : Int)) = (a : Int) + (sz : Int) := IntWalk.i64_in _ (by omega)
      have ha2 : IntKind.i64.wrap ((a : Int) + (sz : Int) + 1) = (a : Int) + (sz : Int) + 1 := IntWalk.i64_in _ (by omega)
      clear hoff hoffa hgB hmv0 HMVS HCM HK hk
      go_wp2_with fail
      refine wp_region_held_drew (S := fun w' => w'.cell? ⟨H, 1, none⟩ = some (.slice (some ⟨g, 0, none⟩) L c0)) (by kernel_rfl) ?_ (fun hHeld => ?_)
      · (try dsimp only); go_keep
      obtain ⟨w_0, hw_0⟩ : ∃ z, z = w.drew := ⟨_, rfl⟩
      rw [← hw_0] at hHeld BB0 OT0 OF0 OP0 ⊢
      clear hw_0
      refine wpAnyH_take (i := 0) (oi := { dst := some 54, op := Go.Op.move (Go.Operand.tmp 18), type := 3, pos := _, after := #[], guard := none }) (v := ?va0) rfl (by kernel_rfl) (by kernel_rfl) (by kernel_rfl) (fun _ _ _ h => h) (Or.inl ⟨by rfl, ?hya0⟩) (by assumption) ?_
      case hya0 => (intro wz hSw; (try dsimp only at hSw); go_simp; try with_reducible rfl)
      (try simp only [Act.put, List.setIfInBounds_toArray, List.set_cons_zero, List.set_cons_succ])
      refine wpAnyH_take (i := 2) (oi := { dst := some 56, op := Go.Op.move (Go.Operand.tmp 2), type := 45, pos := _, after := #[], guard := none }) (v := ?va2) rfl (by kernel_rfl) (by kernel_rfl) (by kernel_rfl) (fun _ _ _ h => h) (Or.inl ⟨by rfl, ?hya2⟩) (by assumption) ?_
      case hya2 => (intro wz hSw; (try dsimp only at hSw); go_simp; try with_reducible rfl)
      (try simp only [Act.put, List.setIfInBounds_toArray, List.set_cons_zero, List.set_cons_succ])
      refine wpAnyH_take (i := 3) (oi := { dst := some 57, op := Go.Op.move (Go.Operand.tmp 0), type := 44, pos := _, after := #[], guard := none }) (v := ?va3) rfl (by kernel_rfl) (by kernel_rfl) (by kernel_rfl) (fun _ _ _ h => h) (Or.inl ⟨by rfl, ?hya3⟩) (by assumption) ?_
      case hya3 => (intro wz hSw; (try dsimp only at hSw); go_simp; try with_reducible rfl)
      (try simp only [Act.put, List.setIfInBounds_toArray, List.set_cons_zero, List.set_cons_succ])
      refine wpAnyH_take (i := 4) (oi := { dst := some 58, op := Go.Op.nilCheck (Go.Operand.tmp 57), type := 0, pos := _, after := #[{ on := 3, ground := Go.Ground.data }], guard := none }) (v := ?va4) rfl (by kernel_rfl) (by kernel_rfl) (by kernel_rfl) (fun _ _ _ h => h) (Or.inl ⟨by rfl, ?hya4⟩) (by assumption) ?_
      case hya4 => (intro wz hSw; (try dsimp only at hSw); go_simp; try with_reducible rfl)
      (try simp only [Act.put, List.setIfInBounds_toArray, List.set_cons_zero, List.set_cons_succ])
      refine wpAnyH_take (i := 5) (oi := { dst := some 59, op := Go.Op.fieldAddr 47 (Go.Operand.tmp 58) 1, type := 0, pos := _, after := #[{ on := 4, ground := Go.Ground.data }], guard := none }) (v := ?va5) rfl (by kernel_rfl) (by kernel_rfl) (by kernel_rfl) (fun _ _ _ h => h) (Or.inl ⟨by rfl, ?hya5⟩) (by assumption) ?_
      case hya5 => (intro wz hSw; (try dsimp only at hSw); go_simp; try with_reducible rfl)
      (try simp only [Act.put, List.setIfInBounds_toArray, List.set_cons_zero, List.set_cons_succ])
      refine wpAnyH_take (i := 6) (oi := { dst := some 60, op := Go.Op.load 45 (Go.Operand.tmp 59), type := 45, pos := _, after := #[{ on := 5, ground := Go.Ground.data }], guard := none }) (v := ?va6) rfl (by kernel_rfl) (by kernel_rfl) (by kernel_rfl) (fun _ _ _ h => h) (Or.inl ⟨by rfl, ?hya6⟩) (by assumption) ?_
      case hya6 => (intro wz hSw; (try dsimp only at hSw); go_simp; try with_reducible rfl)
      (try simp only [Act.put, List.setIfInBounds_toArray, List.set_cons_zero, List.set_cons_succ])
      refine wpAnyH_take (i := 7) (oi := { dst := some 61, op := Go.Op.move (Go.Operand.tmp 14), type := 3, pos := _, after := #[], guard := none }) (v := ?va7) rfl (by kernel_rfl) (by kernel_rfl) (by kernel_rfl) (fun _ _ _ h => h) (Or.inl ⟨by rfl, ?hya7⟩) (by assumption) ?_
      case hya7 => (intro wz hSw; (try dsimp only at hSw); go_simp; try with_reducible rfl)
      (try simp only [Act.put, List.setIfInBounds_toArray, List.set_cons_zero, List.set_cons_succ])
      refine wpAnyH_take (i := 8) (oi := { dst := some 62, op := Go.Op.move (Go.Operand.tmp 14), type := 3, pos := _, after := #[], guard := none }) (v := ?va8) rfl (by kernel_rfl) (by kernel_rfl) (by kernel_rfl) (fun _ _ _ h => h) (Or.inl ⟨by rfl, ?hya8⟩) (by assumption) ?_
      case hya8 => (intro wz hSw; (try dsimp only at hSw); go_simp; try with_reducible rfl)
      (try simp only [Act.put, List.setIfInBounds_toArray, List.set_cons_zero, List.set_cons_succ])
      refine wpAnyH_take (i := 9) (oi := { dst := some 63, op := Go.Op.move (Go.Operand.tmp 15), type := 3, pos := _, after := #[], guard := none }) (v := ?va9) rfl (by kernel_rfl) (by kernel_rfl) (by kernel_rfl) (fun _ _ _ h => h) (Or.inl ⟨by rfl, ?hya9⟩) (by assumption) ?_
      case hya9 => (intro wz hSw; (try dsimp only at hSw); go_simp; try with_reducible rfl)
      (try simp only [Act.put, List.setIfInBounds_toArray, List.set_cons_zero, List.set_cons_succ])
      refine wpAnyH_take (i := 10) (oi := { dst := some 64, op := Go.Op.binOp Go.BinOp.add 3 (Go.Operand.tmp 62) (Go.Operand.tmp 63) 3, type := 3, pos := _, after := #[{ on := 8, ground := Go.Ground.data }, { on := 9, ground := Go.Ground.data }], guard := none }) (v := ?va10) rfl (by kernel_rfl) (by kernel_rfl) (by kernel_rfl) (fun _ _ _ h => h) (Or.inl ⟨by rfl, ?hya10⟩) (by assumption) ?_
      case hya10 => (intro wz hSw; (try dsimp only at hSw); go_simp; try with_reducible rfl)
      (try simp only [Act.put, List.setIfInBounds_toArray, List.set_cons_zero, List.set_cons_succ])
      refine wpAnyH_take (i := 11) (oi := { dst := some 65, op := Go.Op.binOp Go.BinOp.add 3 (Go.Operand.tmp 64) (Go.Operand.const (Go.Value.int Go.IntKind.i64 1)) 3, type := 3, pos := _, after := #[{ on := 10, ground := Go.Ground.data }], guard := none }) (v := ?va11) rfl (by kernel_rfl) (by kernel_rfl) (by kernel_rfl) (fun _ _ _ h => h) (Or.inl ⟨by rfl, ?hya11⟩) (by assumption) ?_
      case hya11 => (intro wz hSw; (try dsimp only at hSw); go_simp; try with_reducible rfl)
      (try simp only [Act.put, List.setIfInBounds_toArray, List.set_cons_zero, List.set_cons_succ])
      refine wpAnyH_take (i := 12) (oi := { dst := some 66, op := Go.Op.slice 45 (Go.Operand.tmp 60) (some (Go.Operand.tmp 61)) (some (Go.Operand.tmp 65)) none, type := 45, pos := _, after := #[{ on := 6, ground := Go.Ground.data }, { on := 7, ground := Go.Ground.data }, { on := 11, ground := Go.Ground.data }], guard := none }) (v := ?va12) rfl (by kernel_rfl) (by kernel_rfl) (by kernel_rfl) (fun _ _ _ h => h) (Or.inl ⟨by rfl, ?hya12⟩) (by assumption) ?_
      case hya12 => (intro wz hSw; (try dsimp only at hSw); go_simp; rw [if_pos SE.out.2.2.1, if_pos SE.out.2.2.2, SE.out.1, SE.out.2.1])
      (try simp only [Act.put, List.setIfInBounds_toArray, List.set_cons_zero, List.set_cons_succ])
      refine wpAnyH_take (i := 14) (oi := { dst := some 68, op := Go.Op.move (Go.Operand.tmp 3), type := 77, pos := _, after := #[], guard := none }) (v := ?va14) rfl (by kernel_rfl) (by kernel_rfl) (by kernel_rfl) (fun _ _ _ h => h) (Or.inl ⟨by rfl, ?hya14⟩) (by assumption) ?_
      case hya14 => (intro wz hSw; (try dsimp only at hSw); go_simp; try with_reducible rfl)
      (try simp only [Act.put, List.setIfInBounds_toArray, List.set_cons_zero, List.set_cons_succ])
      refine wpAnyH_take (i := 15) (oi := { dst := some 69, op := Go.Op.move (Go.Operand.tmp 14), type := 3, pos := _, after := #[], guard := none }) (v := ?va15) rfl (by kernel_rfl) (by kernel_rfl) (by kernel_rfl) (fun _ _ _ h => h) (Or.inl ⟨by rfl, ?hya15⟩) (by assumption) ?_
      case hya15 => (intro wz hSw; (try dsimp only at hSw); go_simp; try with_reducible rfl)
      (try simp only [Act.put, List.setIfInBounds_toArray, List.set_cons_zero, List.set_cons_succ])
      refine wpAnyH_take (i := 18) (oi := { dst := some 72, op := Go.Op.move (Go.Operand.tmp 4), type := 77, pos := _, after := #[], guard := none }) (v := ?va18) rfl (by kernel_rfl) (by kernel_rfl) (by kernel_rfl) (fun _ _ _ h => h) (Or.inl ⟨by rfl, ?hya18⟩) (by assumption) ?_
      case hya18 => (intro wz hSw; (try dsimp only at hSw); go_simp; try with_reducible rfl)
      (try simp only [Act.put, List.setIfInBounds_toArray, List.set_cons_zero, List.set_cons_succ])
      refine wpAnyH_take (i := 19) (oi := { dst := some 73, op := Go.Op.move (Go.Operand.tmp 18), type := 3, pos := _, after := #[], guard := none }) (v := ?va19) rfl (by kernel_rfl) (by kernel_rfl) (by kernel_rfl) (fun _ _ _ h => h) (Or.inl ⟨by rfl, ?hya19⟩) (by assumption) ?_
      case hya19 => (intro wz hSw; (try dsimp only at hSw); go_simp; try with_reducible rfl)
      (try simp only [Act.put, List.setIfInBounds_toArray, List.set_cons_zero, List.set_cons_succ])
      refine wpAnyH_ready (rs := [1, 16, 20]) (by kernel_rfl) (by simp) ?_
      refine AllReadyH.cons (o := { dst := some 55, op := Go.Op.call { callee := Go.Callee.value (Go.Operand.func 45), args := #[Go.Operand.tmp 54], argTypes := #[3] }, type := 27, pos := _, after := #[{ on := 0, ground := Go.Ground.data }], guard := none }) rfl (fun K hK => ?_) ?_
      · rw [if_pos (by rfl)]
        go_simp
        refine (PT.out _).mono ?_; rintro e w_1 ⟨rfl, heq_1⟩
        subst heq_1
        go_wp2_with fail
        refine hK.out _ _ (KH.out _ BB0.out) (fun hHeld_1 => ?_)
        clear hK K
        (try simp only [Act.put, List.setIfInBounds_toArray, List.set_cons_zero, List.set_cons_succ])
        refine wpAnyH_ready (rs := [13, 16, 20]) (by kernel_rfl) (by simp) ?_
        refine AllReadyH.cons (o := { dst := some 67, op := Go.Op.call { callee := Go.Callee.builtin Go.Builtin.append, args := #[Go.Operand.tmp 56, Go.Operand.tmp 66], argTypes := #[45, 45] }, type := 45, pos := _, after := #[{ on := 2, ground := Go.Ground.data }, { on := 12, ground := Go.Ground.data }, { on := 1, ground := Go.Ground.chain }], guard := none }) rfl (fun K hK => ?_) ?_
        · rw [if_pos (by rfl)]
          refine wp_append_at (.tmp 56) (.tmp 66) 45 rfl Bt 27 i0 (.int .u64 0) 8 Try.underlying45 hi0 hz0 hz1 hz2 rfl _ nt (wd s.T.ws) rfl OT0.out ⟨g, off, none⟩ (sz + 1) (c0 - a) (wd (F.ws.getD a 0 :: objOf F a)) rfl (by rw [wd_len]; exact NWL.out) (NW.out _ BB0.out) (one_wd _) (by unfold maxLen; omega) (by omega) (bsize BB0.out) ?_
          intro v_2 w_2 own_2 gr_2 at_2
          have bc_2 : Hid (Below Bt w w_2) := Lib.hid (grown_b BB0.out OT0.out gr_2)
          refine hK.out _ _ (KH.out _ bc_2.out) (fun hHeld_2 => ?_)
          clear hK K
          (try simp only [Act.put, List.setIfInBounds_toArray, List.set_cons_zero, List.set_cons_succ])
          have ot_2 := Lib.hid own_2
          have of_2 := Lib.hid (own_grown OF0.out gr_2 (fun k hk hr => (own_own_ne OF0.out OT0.out (by decide) k hk) hr))
          have op_2 := Lib.hid (own_grown OP0.out gr_2 (fun k hk hr => (own_own_ne OP0.out OT0.out (by decide) k hk) hr))
          clear own_2 gr_2 at_2
          refine wpAnyH_ready (rs := [16, 20]) (by kernel_rfl) (by simp) ?_
          refine AllReadyH.cons (o := { dst := some 70, op := Go.Op.buildSlice 77 1 #[(0, Go.Operand.tmp 69)], type := 77, pos := _, after := #[{ on := 15, ground := Go.Ground.data }], guard := none }) rfl (fun K hK => ?_) ?_
          · go_simp
            have bb_3 : Hid (Below Bt w (w_2.alloc (.cells #[.int .i64 a] 3)) ∧ w_2.heap.size < (w_2.alloc (.cells #[.int .i64 a] 3)).heap.size) := Lib.hid ⟨below_then bc_2.out (below_alloc w_2 _) (bsize bc_2.out), by show _ < (Array.push _ _).size; simp⟩
            refine hK.out _ _ (KH.out _ bb_3.out.1) (fun hHeld_3 => ?_)
            clear hK K
            (try simp only [Act.put, List.setIfInBounds_toArray, List.set_cons_zero, List.set_cons_succ])
            obtain ⟨w_3, hw_3⟩ : ∃ z, z = w_2.alloc (.cells #[.int .i64 a] 3) := ⟨_, rfl⟩
            have nc_3 : Hid (w_3.cell? ⟨w_2.heap.size, 0, none⟩ = some (.int .i64 a)) := Lib.hid (by rw [hw_3]; have z := new_cell w_2 (.int .i64 a) 3; rw [Go.WideShapes.add_plain] at z; exact z)
            have bc_3 : Hid (Below Bt w w_3) := Lib.hid (by rw [hw_3]; exact bb_3.out.1)
            have bl_3 : Hid (Below w_2.heap.size w_2 w_3) := Lib.hid (by rw [hw_3]; exact below_alloc w_2 _)
            rw [← hw_3] at hHeld_3 ⊢
            clear bb_3 hw_3
            have ot_3 := Lib.hid (own_below ot_2.out bl_3.out)
            have of_3 := Lib.hid (own_below of_2.out bl_3.out)
            have op_3 := Lib.hid (own_below op_2.out bl_3.out)
            refine wpAnyH_ready (rs := [17, 20]) (by kernel_rfl) (by simp) ?_
            refine AllReadyH.cons (o := { dst := some 71, op := Go.Op.call { callee := Go.Callee.builtin Go.Builtin.append, args := #[Go.Operand.tmp 68, Go.Operand.tmp 70], argTypes := #[77, 77] }, type := 77, pos := _, after := #[{ on := 14, ground := Go.Ground.data }, { on := 16, ground := Go.Ground.data }, { on := 13, ground := Go.Ground.chain }], guard := none }) rfl (fun K hK => ?_) ?_
            · rw [if_pos (by rfl)]
              refine wp_append_at (.tmp 68) (.tmp 70) 77 rfl Bt 3 j0 (.int .i64 0) 8 Try.underlying77 hj0 hy0 hy1 hy2 rfl _ nf (il fr) rfl of_3.out ⟨w_2.heap.size, 0, none⟩ 1 1 [.int .i64 a] rfl rfl (news1 nc_3.out) (one1 a) (by unfold maxLen; omega) (by omega) (bsize bc_3.out) ?_
              intro v_4 w_4 own_4 gr_4 at_4
              have bc_4 : Hid (Below Bt w w_4) := Lib.hid (grown_b bc_3.out of_3.out gr_4)
              refine hK.out _ _ (KH.out _ bc_4.out) (fun hHeld_4 => ?_)
              clear hK K
              (try simp only [Act.put, List.setIfInBounds_toArray, List.set_cons_zero, List.set_cons_succ])
              have of_4 := Lib.hid own_4
              have ot_4 := Lib.hid (own_grown ot_3.out gr_4 (fun k hk hr => (own_own_ne ot_3.out of_3.out (by decide) k hk) hr))
              have op_4 := Lib.hid (own_grown op_3.out gr_4 (fun k hk hr => SP0.out k hr hk))
              have sp_4 : Hid (∀ k, Value.ownBlock v_4 = some k → (Value.slice Ap nf cP).ownBlock ≠ some k) := Lib.hid (sep_new1 SP0.out op_3.out at_4)
              clear own_4 gr_4 at_4
              refine wpAnyH_ready (rs := [20]) (by kernel_rfl) (by simp) ?_
              refine AllReadyH.cons (o := { dst := some 74, op := Go.Op.buildSlice 77 1 #[(0, Go.Operand.tmp 73)], type := 77, pos := _, after := #[{ on := 19, ground := Go.Ground.data }], guard := none }) rfl (fun K hK => ?_) AllReadyH.nil
              go_simp
              have bb_5 : Hid (Below Bt w (w_4.alloc (.cells #[.int .i64 nt] 3)) ∧ w_4.heap.size < (w_4.alloc (.cells #[.int .i64 nt] 3)).heap.size) := Lib.hid ⟨below_then bc_4.out (below_alloc w_4 _) (bsize bc_4.out), by show _ < (Array.push _ _).size; simp⟩
              refine hK.out _ _ (KH.out _ bb_5.out.1) (fun hHeld_5 => ?_)
              clear hK K
              (try simp only [Act.put, List.setIfInBounds_toArray, List.set_cons_zero, List.set_cons_succ])
              obtain ⟨w_5, hw_5⟩ : ∃ z, z = w_4.alloc (.cells #[.int .i64 nt] 3) := ⟨_, rfl⟩
              have nc_5 : Hid (w_5.cell? ⟨w_4.heap.size, 0, none⟩ = some (.int .i64 nt)) := Lib.hid (by rw [hw_5]; have z := new_cell w_4 (.int .i64 nt) 3; rw [Go.WideShapes.add_plain] at z; exact z)
              have bc_5 : Hid (Below Bt w w_5) := Lib.hid (by rw [hw_5]; exact bb_5.out.1)
              have bl_5 : Hid (Below w_4.heap.size w_4 w_5) := Lib.hid (by rw [hw_5]; exact below_alloc w_4 _)
              rw [← hw_5] at hHeld_5 ⊢
              clear bb_5 hw_5
              have ot_5 := Lib.hid (own_below ot_4.out bl_5.out)
              have of_5 := Lib.hid (own_below of_4.out bl_5.out)
              have op_5 := Lib.hid (own_below op_4.out bl_5.out)
              refine wpAnyH_ready (rs := [21]) (by kernel_rfl) (by simp) ?_
              refine AllReadyH.cons (o := { dst := some 75, op := Go.Op.call { callee := Go.Callee.builtin Go.Builtin.append, args := #[Go.Operand.tmp 72, Go.Operand.tmp 74], argTypes := #[77, 77] }, type := 77, pos := _, after := #[{ on := 18, ground := Go.Ground.data }, { on := 20, ground := Go.Ground.data }, { on := 17, ground := Go.Ground.chain }], guard := none }) rfl (fun K hK => ?_) AllReadyH.nil
              rw [if_pos (by rfl)]
              refine wp_append_at (.tmp 72) (.tmp 74) 77 rfl Bt 3 j0 (.int .i64 0) 8 Try.underlying77 hj0 hy0 hy1 hy2 rfl _ nf (il pl) rfl op_5.out ⟨w_4.heap.size, 0, none⟩ 1 1 [.int .i64 nt] rfl rfl (news1 nc_5.out) (one1 nt) (by unfold maxLen; omega) (by omega) (bsize bc_5.out) ?_
              intro v_6 w_6 own_6 gr_6 at_6
              have bc_6 : Hid (Below Bt w w_6) := Lib.hid (grown_b bc_5.out op_5.out gr_6)
              refine hK.out _ _ (KH.out _ bc_6.out) (fun hHeld_6 => ?_)
              clear hK K
              (try simp only [Act.put, List.setIfInBounds_toArray, List.set_cons_zero, List.set_cons_succ])
              have op_6 := Lib.hid own_6
              have ot_6 := Lib.hid (own_grown ot_5.out gr_6 (fun k hk hr => (own_own_ne ot_5.out op_5.out (by decide) k hk) hr))
              have of_6 := Lib.hid (own_grown of_5.out gr_6 (fun k hk hr => sp_4.out k hk hr))
              have sp_6 : Hid (∀ k, Value.ownBlock v_4 = some k → v_6.ownBlock ≠ some k) := Lib.hid (sep_new2 sp_4.out of_5.out at_6)
              clear own_6 gr_6 at_6
              refine wpAnyH_take (i := 22) (oi := { dst := some 10, op := Go.Op.assign (Go.Operand.tmp 55), type := 27, pos := _, after := #[{ on := 1, ground := Go.Ground.data }, { on := 21, ground := Go.Ground.chain }, { on := 0, ground := Go.Ground.phase }, { on := 1, ground := Go.Ground.phase }, { on := 2, ground := Go.Ground.textOnly Go.Departure.lateStores }, { on := 3, ground := Go.Ground.textOnly Go.Departure.lateStores }, { on := 4, ground := Go.Ground.textOnly Go.Departure.lateStores }, { on := 5, ground := Go.Ground.textOnly Go.Departure.lateStores }, { on := 6, ground := Go.Ground.textOnly Go.Departure.lateStores }, { on := 7, ground := Go.Ground.textOnly Go.Departure.lateStores }, { on := 8, ground := Go.Ground.textOnly Go.Departure.lateStores }, { on := 9, ground := Go.Ground.textOnly Go.Departure.lateStores }, { on := 10, ground := Go.Ground.textOnly Go.Departure.lateStores }, { on := 11, ground := Go.Ground.textOnly Go.Departure.lateStores }, { on := 12, ground := Go.Ground.textOnly Go.Departure.lateStoresUnsure }, { on := 13, ground := Go.Ground.textOnly Go.Departure.lateStoresUnsure }, { on := 14, ground := Go.Ground.textOnly Go.Departure.lateStores }, { on := 15, ground := Go.Ground.textOnly Go.Departure.lateStores }, { on := 16, ground := Go.Ground.textOnly Go.Departure.lateStores }, { on := 17, ground := Go.Ground.textOnly Go.Departure.lateStoresUnsure }, { on := 18, ground := Go.Ground.textOnly Go.Departure.lateStores }, { on := 19, ground := Go.Ground.textOnly Go.Departure.lateStores }, { on := 20, ground := Go.Ground.textOnly Go.Departure.lateStores }, { on := 21, ground := Go.Ground.textOnly Go.Departure.lateStoresUnsure }], guard := none }) (v := ?ve622) rfl (by kernel_rfl) (by kernel_rfl) (by kernel_rfl) (fun _ _ _ h => h) (Or.inl ⟨by rfl, ?hye622⟩) (by assumption) ?_
              case hye622 => (intro wz hSw; (try dsimp only at hSw); go_simp; try with_reducible rfl)
              (try simp only [Act.put, List.setIfInBounds_toArray, List.set_cons_zero, List.set_cons_succ])
              refine wpAnyH_take (i := 23) (oi := { dst := some 11, op := Go.Op.assign (Go.Operand.tmp 67), type := 45, pos := _, after := #[{ on := 13, ground := Go.Ground.data }, { on := 22, ground := Go.Ground.chain }, { on := 0, ground := Go.Ground.phase }, { on := 1, ground := Go.Ground.phase }, { on := 2, ground := Go.Ground.phase }, { on := 3, ground := Go.Ground.phase }, { on := 4, ground := Go.Ground.phase }, { on := 5, ground := Go.Ground.phase }, { on := 6, ground := Go.Ground.phase }, { on := 7, ground := Go.Ground.phase }, { on := 8, ground := Go.Ground.phase }, { on := 9, ground := Go.Ground.phase }, { on := 10, ground := Go.Ground.phase }, { on := 11, ground := Go.Ground.phase }, { on := 12, ground := Go.Ground.phase }, { on := 13, ground := Go.Ground.phase }, { on := 14, ground := Go.Ground.textOnly Go.Departure.lateStores }, { on := 15, ground := Go.Ground.textOnly Go.Departure.lateStores }, { on := 16, ground := Go.Ground.textOnly Go.Departure.lateStores }, { on := 17, ground := Go.Ground.textOnly Go.Departure.lateStoresUnsure }, { on := 18, ground := Go.Ground.textOnly Go.Departure.lateStores }, { on := 19, ground := Go.Ground.textOnly Go.Departure.lateStores }, { on := 20, ground := Go.Ground.textOnly Go.Departure.lateStores }, { on := 21, ground := Go.Ground.textOnly Go.Departure.lateStoresUnsure }, { on := 22, ground := Go.Ground.phase }], guard := none }) (v := ?ve623) rfl (by kernel_rfl) (by kernel_rfl) (by kernel_rfl) (fun _ _ _ h => h) (Or.inl ⟨by rfl, ?hye623⟩) (by assumption) ?_
              case hye623 => (intro wz hSw; (try dsimp only at hSw); go_simp; try with_reducible rfl)
              (try simp only [Act.put, List.setIfInBounds_toArray, List.set_cons_zero, List.set_cons_succ])
              refine wpAnyH_take (i := 24) (oi := { dst := some 12, op := Go.Op.assign (Go.Operand.tmp 71), type := 77, pos := _, after := #[{ on := 17, ground := Go.Ground.data }, { on := 23, ground := Go.Ground.chain }, { on := 0, ground := Go.Ground.phase }, { on := 1, ground := Go.Ground.phase }, { on := 2, ground := Go.Ground.phase }, { on := 3, ground := Go.Ground.phase }, { on := 4, ground := Go.Ground.phase }, { on := 5, ground := Go.Ground.phase }, { on := 6, ground := Go.Ground.phase }, { on := 7, ground := Go.Ground.phase }, { on := 8, ground := Go.Ground.phase }, { on := 9, ground := Go.Ground.phase }, { on := 10, ground := Go.Ground.phase }, { on := 11, ground := Go.Ground.phase }, { on := 12, ground := Go.Ground.phase }, { on := 13, ground := Go.Ground.phase }, { on := 14, ground := Go.Ground.phase }, { on := 15, ground := Go.Ground.phase }, { on := 16, ground := Go.Ground.phase }, { on := 17, ground := Go.Ground.phase }, { on := 18, ground := Go.Ground.textOnly Go.Departure.lateStores }, { on := 19, ground := Go.Ground.textOnly Go.Departure.lateStores }, { on := 20, ground := Go.Ground.textOnly Go.Departure.lateStores }, { on := 21, ground := Go.Ground.textOnly Go.Departure.lateStoresUnsure }, { on := 22, ground := Go.Ground.phase }, { on := 23, ground := Go.Ground.phase }], guard := none }) (v := ?ve624) rfl (by kernel_rfl) (by kernel_rfl) (by kernel_rfl) (fun _ _ _ h => h) (Or.inl ⟨by rfl, ?hye624⟩) (by assumption) ?_
              case hye624 => (intro wz hSw; (try dsimp only at hSw); go_simp; try with_reducible rfl)
              (try simp only [Act.put, List.setIfInBounds_toArray, List.set_cons_zero, List.set_cons_succ])
              refine wpAnyH_take (i := 25) (oi := { dst := some 13, op := Go.Op.assign (Go.Operand.tmp 75), type := 77, pos := _, after := #[{ on := 21, ground := Go.Ground.data }, { on := 24, ground := Go.Ground.chain }, { on := 0, ground := Go.Ground.phase }, { on := 1, ground := Go.Ground.phase }, { on := 2, ground := Go.Ground.phase }, { on := 3, ground := Go.Ground.phase }, { on := 4, ground := Go.Ground.phase }, { on := 5, ground := Go.Ground.phase }, { on := 6, ground := Go.Ground.phase }, { on := 7, ground := Go.Ground.phase }, { on := 8, ground := Go.Ground.phase }, { on := 9, ground := Go.Ground.phase }, { on := 10, ground := Go.Ground.phase }, { on := 11, ground := Go.Ground.phase }, { on := 12, ground := Go.Ground.phase }, { on := 13, ground := Go.Ground.phase }, { on := 14, ground := Go.Ground.phase }, { on := 15, ground := Go.Ground.phase }, { on := 16, ground := Go.Ground.phase }, { on := 17, ground := Go.Ground.phase }, { on := 18, ground := Go.Ground.phase }, { on := 19, ground := Go.Ground.phase }, { on := 20, ground := Go.Ground.phase }, { on := 21, ground := Go.Ground.phase }, { on := 22, ground := Go.Ground.phase }, { on := 23, ground := Go.Ground.phase }, { on := 24, ground := Go.Ground.phase }], guard := none }) (v := ?ve625) rfl (by kernel_rfl) (by kernel_rfl) (by kernel_rfl) (fun _ _ _ h => h) (Or.inl ⟨by rfl, ?hye625⟩) (by assumption) ?_
              case hye625 => (intro wz hSw; (try dsimp only at hSw); go_simp; try with_reducible rfl)
              (try simp only [Act.put, List.setIfInBounds_toArray, List.set_cons_zero, List.set_cons_succ])
              refine wpAnyH_done (by kernel_rfl) ?_ _
              go_wp2
              exact bodyPost_ret (res47 rfl rfl rfl rfl) rfl ⟨_, _, _, fr ++ [(a : Int)], pl ++ [(nt : Int)], by rw [HE.out.1]; rfl, Lib.hid (FIN.out _ _ _ _ bc_6.out ot_6.out of_6.out op_6.out sp_6.out), bc_6⟩
            refine AllReadyH.cons (o := { dst := some 74, op := Go.Op.buildSlice 77 1 #[(0, Go.Operand.tmp 73)], type := 77, pos := _, after := #[{ on := 19, ground := Go.Ground.data }], guard := none }) rfl (fun K hK => ?_) AllReadyH.nil
            go_simp
            have bb_8 : Hid (Below Bt w (w_3.alloc (.cells #[.int .i64 nt] 3)) ∧ w_3.heap.size < (w_3.alloc (.cells #[.int .i64 nt] 3)).heap.size) := Lib.hid ⟨below_then bc_3.out (below_alloc w_3 _) (bsize bc_3.out), by show _ < (Array.push _ _).size; simp⟩
            refine hK.out _ _ (KH.out _ bb_8.out.1) (fun hHeld_8 => ?_)
            clear hK K
            (try simp only [Act.put, List.setIfInBounds_toArray, List.set_cons_zero, List.set_cons_succ])
            obtain ⟨w_8, hw_8⟩ : ∃ z, z = w_3.alloc (.cells #[.int .i64 nt] 3) := ⟨_, rfl⟩
            have nc_8 : Hid (w_8.cell? ⟨w_3.heap.size, 0, none⟩ = some (.int .i64 nt)) := Lib.hid (by rw [hw_8]; have z := new_cell w_3 (.int .i64 nt) 3; rw [Go.WideShapes.add_plain] at z; exact z)
            have bc_8 : Hid (Below Bt w w_8) := Lib.hid (by rw [hw_8]; exact bb_8.out.1)
            have bl_8 : Hid (Below w_3.heap.size w_3 w_8) := Lib.hid (by rw [hw_8]; exact below_alloc w_3 _)
            rw [← hw_8] at hHeld_8 ⊢
            clear bb_8 hw_8
            have ot_8 := Lib.hid (own_below ot_3.out bl_8.out)
            have of_8 := Lib.hid (own_below of_3.out bl_8.out)
            have op_8 := Lib.hid (own_below op_3.out bl_8.out)
            have n16_8 := Lib.hid (cell_below nc_3.out bl_8.out)
            refine wpAnyH_ready (rs := [17]) (by kernel_rfl) (by simp) ?_
            refine AllReadyH.cons (o := { dst := some 71, op := Go.Op.call { callee := Go.Callee.builtin Go.Builtin.append, args := #[Go.Operand.tmp 68, Go.Operand.tmp 70], argTypes := #[77, 77] }, type := 77, pos := _, after := #[{ on := 14, ground := Go.Ground.data }, { on := 16, ground := Go.Ground.data }, { on := 13, ground := Go.Ground.chain }], guard := none }) rfl (fun K hK => ?_) AllReadyH.nil
            rw [if_pos (by rfl)]
            refine wp_append_at (.tmp 68) (.tmp 70) 77 rfl Bt 3 j0 (.int .i64 0) 8 Try.underlying77 hj0 hy0 hy1 hy2 rfl _ nf (il fr) rfl of_8.out ⟨w_2.heap.size, 0, none⟩ 1 1 [.int .i64 a] rfl rfl (news1 n16_8.out) (one1 a) (by unfold maxLen; omega) (by omega) (bsize bc_8.out) ?_
            intro v_9 w_9 own_9 gr_9 at_9
            have bc_9 : Hid (Below Bt w w_9) := Lib.hid (grown_b bc_8.out of_8.out gr_9)
            refine hK.out _ _ (KH.out _ bc_9.out) (fun hHeld_9 => ?_)
            clear hK K
            (try simp only [Act.put, List.setIfInBounds_toArray, List.set_cons_zero, List.set_cons_succ])
            have of_9 := Lib.hid own_9
            have ot_9 := Lib.hid (own_grown ot_8.out gr_9 (fun k hk hr => (own_own_ne ot_8.out of_8.out (by decide) k hk) hr))
            have op_9 := Lib.hid (own_grown op_8.out gr_9 (fun k hk hr => SP0.out k hr hk))
            have n20_9 := Lib.hid (cell_grown nc_8.out gr_9 (fun hr => by have := (Yof.out _ hr); have := bc_3.out.size; omega))
            have sp_9 : Hid (∀ k, Value.ownBlock v_9 = some k → (Value.slice Ap nf cP).ownBlock ≠ some k) := Lib.hid (sep_new1 SP0.out op_8.out at_9)
            clear own_9 gr_9 at_9
            refine wpAnyH_ready (rs := [21]) (by kernel_rfl) (by simp) ?_
            refine AllReadyH.cons (o := { dst := some 75, op := Go.Op.call { callee := Go.Callee.builtin Go.Builtin.append, args := #[Go.Operand.tmp 72, Go.Operand.tmp 74], argTypes := #[77, 77] }, type := 77, pos := _, after := #[{ on := 18, ground := Go.Ground.data }, { on := 20, ground := Go.Ground.data }, { on := 17, ground := Go.Ground.chain }], guard := none }) rfl (fun K hK => ?_) AllReadyH.nil
            rw [if_pos (by rfl)]
            refine wp_append_at (.tmp 72) (.tmp 74) 77 rfl Bt 3 j0 (.int .i64 0) 8 Try.underlying77 hj0 hy0 hy1 hy2 rfl _ nf (il pl) rfl op_9.out ⟨w_3.heap.size, 0, none⟩ 1 1 [.int .i64 nt] rfl rfl (news1 n20_9.out) (one1 nt) (by unfold maxLen; omega) (by omega) (bsize bc_9.out) ?_
            intro v_10 w_10 own_10 gr_10 at_10
            have bc_10 : Hid (Below Bt w w_10) := Lib.hid (grown_b bc_9.out op_9.out gr_10)
            refine hK.out _ _ (KH.out _ bc_10.out) (fun hHeld_10 => ?_)
            clear hK K
            (try simp only [Act.put, List.setIfInBounds_toArray, List.set_cons_zero, List.set_cons_succ])
            have op_10 := Lib.hid own_10
            have ot_10 := Lib.hid (own_grown ot_9.out gr_10 (fun k hk hr => (own_own_ne ot_9.out op_9.out (by decide) k hk) hr))
            have of_10 := Lib.hid (own_grown of_9.out gr_10 (fun k hk hr => sp_9.out k hk hr))
            have sp_10 : Hid (∀ k, Value.ownBlock v_9 = some k → v_10.ownBlock ≠ some k) := Lib.hid (sep_new2 sp_9.out of_9.out at_10)
            clear own_10 gr_10 at_10
            refine wpAnyH_take (i := 22) (oi := { dst := some 10, op := Go.Op.assign (Go.Operand.tmp 55), type := 27, pos := _, after := #[{ on := 1, ground := Go.Ground.data }, { on := 21, ground := Go.Ground.chain }, { on := 0, ground := Go.Ground.phase }, { on := 1, ground := Go.Ground.phase }, { on := 2, ground := Go.Ground.textOnly Go.Departure.lateStores }, { on := 3, ground := Go.Ground.textOnly Go.Departure.lateStores }, { on := 4, ground := Go.Ground.textOnly Go.Departure.lateStores }, { on := 5, ground := Go.Ground.textOnly Go.Departure.lateStores }, { on := 6, ground := Go.Ground.textOnly Go.Departure.lateStores }, { on := 7, ground := Go.Ground.textOnly Go.Departure.lateStores }, { on := 8, ground := Go.Ground.textOnly Go.Departure.lateStores }, { on := 9, ground := Go.Ground.textOnly Go.Departure.lateStores }, { on := 10, ground := Go.Ground.textOnly Go.Departure.lateStores }, { on := 11, ground := Go.Ground.textOnly Go.Departure.lateStores }, { on := 12, ground := Go.Ground.textOnly Go.Departure.lateStoresUnsure }, { on := 13, ground := Go.Ground.textOnly Go.Departure.lateStoresUnsure }, { on := 14, ground := Go.Ground.textOnly Go.Departure.lateStores }, { on := 15, ground := Go.Ground.textOnly Go.Departure.lateStores }, { on := 16, ground := Go.Ground.textOnly Go.Departure.lateStores }, { on := 17, ground := Go.Ground.textOnly Go.Departure.lateStoresUnsure }, { on := 18, ground := Go.Ground.textOnly Go.Departure.lateStores }, { on := 19, ground := Go.Ground.textOnly Go.Departure.lateStores }, { on := 20, ground := Go.Ground.textOnly Go.Departure.lateStores }, { on := 21, ground := Go.Ground.textOnly Go.Departure.lateStoresUnsure }], guard := none }) (v := ?ve1022) rfl (by kernel_rfl) (by kernel_rfl) (by kernel_rfl) (fun _ _ _ h => h) (Or.inl ⟨by rfl, ?hye1022⟩) (by assumption) ?_
            case hye1022 => (intro wz hSw; (try dsimp only at hSw); go_simp; try with_reducible rfl)
            (try simp only [Act.put, List.setIfInBounds_toArray, List.set_cons_zero, List.set_cons_succ])
            refine wpAnyH_take (i := 23) (oi := { dst := some 11, op := Go.Op.assign (Go.Operand.tmp 67), type := 45, pos := _, after := #[{ on := 13, ground := Go.Ground.data }, { on := 22, ground := Go.Ground.chain }, { on := 0, ground := Go.Ground.phase }, { on := 1, ground := Go.Ground.phase }, { on := 2, ground := Go.Ground.phase }, { on := 3, ground := Go.Ground.phase }, { on := 4, ground := Go.Ground.phase }, { on := 5, ground := Go.Ground.phase }, { on := 6, ground := Go.Ground.phase }, { on := 7, ground := Go.Ground.phase }, { on := 8, ground := Go.Ground.phase }, { on := 9, ground := Go.Ground.phase }, { on := 10, ground := Go.Ground.phase }, { on := 11, ground := Go.Ground.phase }, { on := 12, ground := Go.Ground.phase }, { on := 13, ground := Go.Ground.phase }, { on := 14, ground := Go.Ground.textOnly Go.Departure.lateStores }, { on := 15, ground := Go.Ground.textOnly Go.Departure.lateStores }, { on := 16, ground := Go.Ground.textOnly Go.Departure.lateStores }, { on := 17, ground := Go.Ground.textOnly Go.Departure.lateStoresUnsure }, { on := 18, ground := Go.Ground.textOnly Go.Departure.lateStores }, { on := 19, ground := Go.Ground.textOnly Go.Departure.lateStores }, { on := 20, ground := Go.Ground.textOnly Go.Departure.lateStores }, { on := 21, ground := Go.Ground.textOnly Go.Departure.lateStoresUnsure }, { on := 22, ground := Go.Ground.phase }], guard := none }) (v := ?ve1023) rfl (by kernel_rfl) (by kernel_rfl) (by kernel_rfl) (fun _ _ _ h => h) (Or.inl ⟨by rfl, ?hye1023⟩) (by assumption) ?_
            case hye1023 => (intro wz hSw; (try dsimp only at hSw); go_simp; try with_reducible rfl)
            (try simp only [Act.put, List.setIfInBounds_toArray, List.set_cons_zero, List.set_cons_succ])
            refine wpAnyH_take (i := 24) (oi := { dst := some 12, op := Go.Op.assign (Go.Operand.tmp 71), type := 77, pos := _, after := #[{ on := 17, ground := Go.Ground.data }, { on := 23, ground := Go.Ground.chain }, { on := 0, ground := Go.Ground.phase }, { on := 1, ground := Go.Ground.phase }, { on := 2, ground := Go.Ground.phase }, { on := 3, ground := Go.Ground.phase }, { on := 4, ground := Go.Ground.phase }, { on := 5, ground := Go.Ground.phase }, { on := 6, ground := Go.Ground.phase }, { on := 7, ground := Go.Ground.phase }, { on := 8, ground := Go.Ground.phase }, { on := 9, ground := Go.Ground.phase }, { on := 10, ground := Go.Ground.phase }, { on := 11, ground := Go.Ground.phase }, { on := 12, ground := Go.Ground.phase }, { on := 13, ground := Go.Ground.phase }, { on := 14, ground := Go.Ground.phase }, { on := 15, ground := Go.Ground.phase }, { on := 16, ground := Go.Ground.phase }, { on := 17, ground := Go.Ground.phase }, { on := 18, ground := Go.Ground.textOnly Go.Departure.lateStores }, { on := 19, ground := Go.Ground.textOnly Go.Departure.lateStores }, { on := 20, ground := Go.Ground.textOnly Go.Departure.lateStores }, { on := 21, ground := Go.Ground.textOnly Go.Departure.lateStoresUnsure }, { on := 22, ground := Go.Ground.phase }, { on := 23, ground := Go.Ground.phase }], guard := none }) (v := ?ve1024) rfl (by kernel_rfl) (by kernel_rfl) (by kernel_rfl) (fun _ _ _ h => h) (Or.inl ⟨by rfl, ?hye1024⟩) (by assumption) ?_
            case hye1024 => (intro wz hSw; (try dsimp only at hSw); go_simp; try with_reducible rfl)
            (try simp only [Act.put, List.setIfInBounds_toArray, List.set_cons_zero, List.set_cons_succ])
            refine wpAnyH_take (i := 25) (oi := { dst := some 13, op := Go.Op.assign (Go.Operand.tmp 75), type := 77, pos := _, after := #[{ on := 21, ground := Go.Ground.data }, { on := 24, ground := Go.Ground.chain }, { on := 0, ground := Go.Ground.phase }, { on := 1, ground := Go.Ground.phase }, { on := 2, ground := Go.Ground.phase }, { on := 3, ground := Go.Ground.phase }, { on := 4, ground := Go.Ground.phase }, { on := 5, ground := Go.Ground.phase }, { on := 6, ground := Go.Ground.phase }, { on := 7, ground := Go.Ground.phase }, { on := 8, ground := Go.Ground.phase }, { on := 9, ground := Go.Ground.phase }, { on := 10, ground := Go.Ground.phase }, { on := 11, ground := Go.Ground.phase }, { on := 12, ground := Go.Ground.phase }, { on := 13, ground := Go.Ground.phase }, { on := 14, ground := Go.Ground.phase }, { on := 15, ground := Go.Ground.phase }, { on := 16, ground := Go.Ground.phase }, { on := 17, ground := Go.Ground.phase }, { on := 18, ground := Go.Ground.phase }, { on := 19, ground := Go.Ground.phase }, { on := 20, ground := Go.Ground.phase }, { on := 21, ground := Go.Ground.phase }, { on := 22, ground := Go.Ground.phase }, { on := 23, ground := Go.Ground.phase }, { on := 24, ground := Go.Ground.phase }], guard := none }) (v := ?ve1025) rfl (by kernel_rfl) (by kernel_rfl) (by kernel_rfl) (fun _ _ _ h => h) (Or.inl ⟨by rfl, ?hye1025⟩) (by assumption) ?_
            case hye1025 => (intro wz hSw; (try dsimp only at hSw); go_simp; try with_reducible rfl)
            (try simp only [Act.put, List.setIfInBounds_toArray, List.set_cons_zero, List.set_cons_succ])
            refine wpAnyH_done (by kernel_rfl) ?_ _
            go_wp2
            exact bodyPost_ret (res47 rfl rfl rfl rfl) rfl ⟨_, _, _, fr ++ [(a : Int)], pl ++ [(nt : Int)], by rw [HE.out.1]; rfl, Lib.hid (FIN.out _ _ _ _ bc_10.out ot_10.out of_10.out op_10.out sp_10.out), bc_10⟩
          refine AllReadyH.cons (o := { dst := some 74, op := Go.Op.buildSlice 77 1 #[(0, Go.Operand.tmp 73)], type := 77, pos := _, after := #[{ on := 19, ground := Go.Ground.data }], guard := none }) rfl (fun K hK => ?_) AllReadyH.nil
          go_simp
          have bb_12 : Hid (Below Bt w (w_2.alloc (.cells #[.int .i64 nt] 3)) ∧ w_2.heap.size < (w_2.alloc (.cells #[.int .i64 nt] 3)).heap.size) := Lib.hid ⟨below_then bc_2.out (below_alloc w_2 _) (bsize bc_2.out), by show _ < (Array.push _ _).size; simp⟩
          refine hK.out _ _ (KH.out _ bb_12.out.1) (fun hHeld_12 => ?_)
          clear hK K
          (try simp only [Act.put, List.setIfInBounds_toArray, List.set_cons_zero, List.set_cons_succ])
          obtain ⟨w_12, hw_12⟩ : ∃ z, z = w_2.alloc (.cells #[.int .i64 nt] 3) := ⟨_, rfl⟩
          have nc_12 : Hid (w_12.cell? ⟨w_2.heap.size, 0, none⟩ = some (.int .i64 nt)) := Lib.hid (by rw [hw_12]; have z := new_cell w_2 (.int .i64 nt) 3; rw [Go.WideShapes.add_plain] at z; exact z)
          have bc_12 : Hid (Below Bt w w_12) := Lib.hid (by rw [hw_12]; exact bb_12.out.1)
          have bl_12 : Hid (Below w_2.heap.size w_2 w_12) := Lib.hid (by rw [hw_12]; exact below_alloc w_2 _)
          rw [← hw_12] at hHeld_12 ⊢
          clear bb_12 hw_12
          have ot_12 := Lib.hid (own_below ot_2.out bl_12.out)
          have of_12 := Lib.hid (own_below of_2.out bl_12.out)
          have op_12 := Lib.hid (own_below op_2.out bl_12.out)
          refine wpAnyH_ready (rs := [16]) (by kernel_rfl) (by simp) ?_
          refine AllReadyH.cons (o := { dst := some 70, op := Go.Op.buildSlice 77 1 #[(0, Go.Operand.tmp 69)], type := 77, pos := _, after := #[{ on := 15, ground := Go.Ground.data }], guard := none }) rfl (fun K hK => ?_) AllReadyH.nil
          go_simp
          have bb_13 : Hid (Below Bt w (w_12.alloc (.cells #[.int .i64 a] 3)) ∧ w_12.heap.size < (w_12.alloc (.cells #[.int .i64 a] 3)).heap.size) := Lib.hid ⟨below_then bc_12.out (below_alloc w_12 _) (bsize bc_12.out), by show _ < (Array.push _ _).size; simp⟩
          refine hK.out _ _ (KH.out _ bb_13.out.1) (fun hHeld_13 => ?_)
          clear hK K
          (try simp only [Act.put, List.setIfInBounds_toArray, List.set_cons_zero, List.set_cons_succ])
          obtain ⟨w_13, hw_13⟩ : ∃ z, z = w_12.alloc (.cells #[.int .i64 a] 3) := ⟨_, rfl⟩
          have nc_13 : Hid (w_13.cell? ⟨w_12.heap.size, 0, none⟩ = some (.int .i64 a)) := Lib.hid (by rw [hw_13]; have z := new_cell w_12 (.int .i64 a) 3; rw [Go.WideShapes.add_plain] at z; exact z)
          have bc_13 : Hid (Below Bt w w_13) := Lib.hid (by rw [hw_13]; exact bb_13.out.1)
          have bl_13 : Hid (Below w_12.heap.size w_12 w_13) := Lib.hid (by rw [hw_13]; exact below_alloc w_12 _)
          rw [← hw_13] at hHeld_13 ⊢
          clear bb_13 hw_13
          have ot_13 := Lib.hid (own_below ot_12.out bl_13.out)
          have of_13 := Lib.hid (own_below of_12.out bl_13.out)
          have op_13 := Lib.hid (own_below op_12.out bl_13.out)
          have n20_13 := Lib.hid (cell_below nc_12.out bl_13.out)
          refine wpAnyH_ready (rs := [17]) (by kernel_rfl) (by simp) ?_
          refine AllReadyH.cons (o := { dst := some 71, op := Go.Op.call { callee := Go.Callee.builtin Go.Builtin.append, args := #[Go.Operand.tmp 68, Go.Operand.tmp 70], argTypes := #[77, 77] }, type := 77, pos := _, after := #[{ on := 14, ground := Go.Ground.data }, { on := 16, ground := Go.Ground.data }, { on := 13, ground := Go.Ground.chain }], guard := none }) rfl (fun K hK => ?_) AllReadyH.nil
          rw [if_pos (by rfl)]
          refine wp_append_at (.tmp 68) (.tmp 70) 77 rfl Bt 3 j0 (.int .i64 0) 8 Try.underlying77 hj0 hy0 hy1 hy2 rfl _ nf (il fr) rfl of_13.out ⟨w_12.heap.size, 0, none⟩ 1 1 [.int .i64 a] rfl rfl (news1 nc_13.out) (one1 a) (by unfold maxLen; omega) (by omega) (bsize bc_13.out) ?_
          intro v_14 w_14 own_14 gr_14 at_14
          have bc_14 : Hid (Below Bt w w_14) := Lib.hid (grown_b bc_13.out of_13.out gr_14)
          refine hK.out _ _ (KH.out _ bc_14.out) (fun hHeld_14 => ?_)
          clear hK K
          (try simp only [Act.put, List.setIfInBounds_toArray, List.set_cons_zero, List.set_cons_succ])
          have of_14 := Lib.hid own_14
          have ot_14 := Lib.hid (own_grown ot_13.out gr_14 (fun k hk hr => (own_own_ne ot_13.out of_13.out (by decide) k hk) hr))
          have op_14 := Lib.hid (own_grown op_13.out gr_14 (fun k hk hr => SP0.out k hr hk))
          have n20_14 := Lib.hid (cell_grown n20_13.out gr_14 (fun hr => by have := (Yof.out _ hr); have := bc_2.out.size; omega))
          have sp_14 : Hid (∀ k, Value.ownBlock v_14 = some k → (Value.slice Ap nf cP).ownBlock ≠ some k) := Lib.hid (sep_new1 SP0.out op_13.out at_14)
          clear own_14 gr_14 at_14
          refine wpAnyH_ready (rs := [21]) (by kernel_rfl) (by simp) ?_
          refine AllReadyH.cons (o := { dst := some 75, op := Go.Op.call { callee := Go.Callee.builtin Go.Builtin.append, args := #[Go.Operand.tmp 72, Go.Operand.tmp 74], argTypes := #[77, 77] }, type := 77, pos := _, after := #[{ on := 18, ground := Go.Ground.data }, { on := 20, ground := Go.Ground.data }, { on := 17, ground := Go.Ground.chain }], guard := none }) rfl (fun K hK => ?_) AllReadyH.nil
          rw [if_pos (by rfl)]
          refine wp_append_at (.tmp 72) (.tmp 74) 77 rfl Bt 3 j0 (.int .i64 0) 8 Try.underlying77 hj0 hy0 hy1 hy2 rfl _ nf (il pl) rfl op_14.out ⟨w_2.heap.size, 0, none⟩ 1 1 [.int .i64 nt] rfl rfl (news1 n20_14.out) (one1 nt) (by unfold maxLen; omega) (by omega) (bsize bc_14.out) ?_
          intro v_15 w_15 own_15 gr_15 at_15
          have bc_15 : Hid (Below Bt w w_15) := Lib.hid (grown_b bc_14.out op_14.out gr_15)
          refine hK.out _ _ (KH.out _ bc_15.out) (fun hHeld_15 => ?_)
          clear hK K
          (try simp only [Act.put, List.setIfInBounds_toArray, List.set_cons_zero, List.set_cons_succ])
          have op_15 := Lib.hid own_15
          have ot_15 := Lib.hid (own_grown ot_14.out gr_15 (fun k hk hr => (own_own_ne ot_14.out op_14.out (by decide) k hk) hr))
          have of_15 := Lib.hid (own_grown of_14.out gr_15 (fun k hk hr => sp_14.out k hk hr))
          have sp_15 : Hid (∀ k, Value.ownBlock v_14 = some k → v_15.ownBlock ≠ some k) := Lib.hid (sep_new2 sp_14.out of_14.out at_15)
          clear own_15 gr_15 at_15
          refine wpAnyH_take (i := 22) (oi := { dst := some 10, op := Go.Op.assign (Go.Operand.tmp 55), type := 27, pos := _, after := #[{ on := 1, ground := Go.Ground.data }, { on := 21, ground := Go.Ground.chain }, { on := 0, ground := Go.Ground.phase }, { on := 1, ground := Go.Ground.phase }, { on := 2, ground := Go.Ground.textOnly Go.Departure.lateStores }, { on := 3, ground := Go.Ground.textOnly Go.Departure.lateStores }, { on := 4, ground := Go.Ground.textOnly Go.Departure.lateStores }, { on := 5, ground := Go.Ground.textOnly Go.Departure.lateStores }, { on := 6, ground := Go.Ground.textOnly Go.Departure.lateStores }, { on := 7, ground := Go.Ground.textOnly Go.Departure.lateStores }, { on := 8, ground := Go.Ground.textOnly Go.Departure.lateStores }, { on := 9, ground := Go.Ground.textOnly Go.Departure.lateStores }, { on := 10, ground := Go.Ground.textOnly Go.Departure.lateStores }, { on := 11, ground := Go.Ground.textOnly Go.Departure.lateStores }, { on := 12, ground := Go.Ground.textOnly Go.Departure.lateStoresUnsure }, { on := 13, ground := Go.Ground.textOnly Go.Departure.lateStoresUnsure }, { on := 14, ground := Go.Ground.textOnly Go.Departure.lateStores }, { on := 15, ground := Go.Ground.textOnly Go.Departure.lateStores }, { on := 16, ground := Go.Ground.textOnly Go.Departure.lateStores }, { on := 17, ground := Go.Ground.textOnly Go.Departure.lateStoresUnsure }, { on := 18, ground := Go.Ground.textOnly Go.Departure.lateStores }, { on := 19, ground := Go.Ground.textOnly Go.Departure.lateStores }, { on := 20, ground := Go.Ground.textOnly Go.Departure.lateStores }, { on := 21, ground := Go.Ground.textOnly Go.Departure.lateStoresUnsure }], guard := none }) (v := ?ve1522) rfl (by kernel_rfl) (by kernel_rfl) (by kernel_rfl) (fun _ _ _ h => h) (Or.inl ⟨by rfl, ?hye1522⟩) (by assumption) ?_
          case hye1522 => (intro wz hSw; (try dsimp only at hSw); go_simp; try with_reducible rfl)
          (try simp only [Act.put, List.setIfInBounds_toArray, List.set_cons_zero, List.set_cons_succ])
          refine wpAnyH_take (i := 23) (oi := { dst := some 11, op := Go.Op.assign (Go.Operand.tmp 67), type := 45, pos := _, after := #[{ on := 13, ground := Go.Ground.data }, { on := 22, ground := Go.Ground.chain }, { on := 0, ground := Go.Ground.phase }, { on := 1, ground := Go.Ground.phase }, { on := 2, ground := Go.Ground.phase }, { on := 3, ground := Go.Ground.phase }, { on := 4, ground := Go.Ground.phase }, { on := 5, ground := Go.Ground.phase }, { on := 6, ground := Go.Ground.phase }, { on := 7, ground := Go.Ground.phase }, { on := 8, ground := Go.Ground.phase }, { on := 9, ground := Go.Ground.phase }, { on := 10, ground := Go.Ground.phase }, { on := 11, ground := Go.Ground.phase }, { on := 12, ground := Go.Ground.phase }, { on := 13, ground := Go.Ground.phase }, { on := 14, ground := Go.Ground.textOnly Go.Departure.lateStores }, { on := 15, ground := Go.Ground.textOnly Go.Departure.lateStores }, { on := 16, ground := Go.Ground.textOnly Go.Departure.lateStores }, { on := 17, ground := Go.Ground.textOnly Go.Departure.lateStoresUnsure }, { on := 18, ground := Go.Ground.textOnly Go.Departure.lateStores }, { on := 19, ground := Go.Ground.textOnly Go.Departure.lateStores }, { on := 20, ground := Go.Ground.textOnly Go.Departure.lateStores }, { on := 21, ground := Go.Ground.textOnly Go.Departure.lateStoresUnsure }, { on := 22, ground := Go.Ground.phase }], guard := none }) (v := ?ve1523) rfl (by kernel_rfl) (by kernel_rfl) (by kernel_rfl) (fun _ _ _ h => h) (Or.inl ⟨by rfl, ?hye1523⟩) (by assumption) ?_
          case hye1523 => (intro wz hSw; (try dsimp only at hSw); go_simp; try with_reducible rfl)
          (try simp only [Act.put, List.setIfInBounds_toArray, List.set_cons_zero, List.set_cons_succ])
          refine wpAnyH_take (i := 24) (oi := { dst := some 12, op := Go.Op.assign (Go.Operand.tmp 71), type := 77, pos := _, after := #[{ on := 17, ground := Go.Ground.data }, { on := 23, ground := Go.Ground.chain }, { on := 0, ground := Go.Ground.phase }, { on := 1, ground := Go.Ground.phase }, { on := 2, ground := Go.Ground.phase }, { on := 3, ground := Go.Ground.phase }, { on := 4, ground := Go.Ground.phase }, { on := 5, ground := Go.Ground.phase }, { on := 6, ground := Go.Ground.phase }, { on := 7, ground := Go.Ground.phase }, { on := 8, ground := Go.Ground.phase }, { on := 9, ground := Go.Ground.phase }, { on := 10, ground := Go.Ground.phase }, { on := 11, ground := Go.Ground.phase }, { on := 12, ground := Go.Ground.phase }, { on := 13, ground := Go.Ground.phase }, { on := 14, ground := Go.Ground.phase }, { on := 15, ground := Go.Ground.phase }, { on := 16, ground := Go.Ground.phase }, { on := 17, ground := Go.Ground.phase }, { on := 18, ground := Go.Ground.textOnly Go.Departure.lateStores }, { on := 19, ground := Go.Ground.textOnly Go.Departure.lateStores }, { on := 20, ground := Go.Ground.textOnly Go.Departure.lateStores }, { on := 21, ground := Go.Ground.textOnly Go.Departure.lateStoresUnsure }, { on := 22, ground := Go.Ground.phase }, { on := 23, ground := Go.Ground.phase }], guard := none }) (v := ?ve1524) rfl (by kernel_rfl) (by kernel_rfl) (by kernel_rfl) (fun _ _ _ h => h) (Or.inl ⟨by rfl, ?hye1524⟩) (by assumption) ?_
          case hye1524 => (intro wz hSw; (try dsimp only at hSw); go_simp; try with_reducible rfl)
          (try simp only [Act.put, List.setIfInBounds_toArray, List.set_cons_zero, List.set_cons_succ])
          refine wpAnyH_take (i := 25) (oi := { dst := some 13, op := Go.Op.assign (Go.Operand.tmp 75), type := 77, pos := _, after := #[{ on := 21, ground := Go.Ground.data }, { on := 24, ground := Go.Ground.chain }, { on := 0, ground := Go.Ground.phase }, { on := 1, ground := Go.Ground.phase }, { on := 2, ground := Go.Ground.phase }, { on := 3, ground := Go.Ground.phase }, { on := 4, ground := Go.Ground.phase }, { on := 5, ground := Go.Ground.phase }, { on := 6, ground := Go.Ground.phase }, { on := 7, ground := Go.Ground.phase }, { on := 8, ground := Go.Ground.phase }, { on := 9, ground := Go.Ground.phase }, { on := 10, ground := Go.Ground.phase }, { on := 11, ground := Go.Ground.phase }, { on := 12, ground := Go.Ground.phase }, { on := 13, ground := Go.Ground.phase }, { on := 14, ground := Go.Ground.phase }, { on := 15, ground := Go.Ground.phase }, { on := 16, ground := Go.Ground.phase }, { on := 17, ground := Go.Ground.phase }, { on := 18, ground := Go.Ground.phase }, { on := 19, ground := Go.Ground.phase }, { on := 20, ground := Go.Ground.phase }, { on := 21, ground := Go.Ground.phase }, { on := 22, ground := Go.Ground.phase }, { on := 23, ground := Go.Ground.phase }, { on := 24, ground := Go.Ground.phase }], guard := none }) (v := ?ve1525) rfl (by kernel_rfl) (by kernel_rfl) (by kernel_rfl) (fun _ _ _ h => h) (Or.inl ⟨by rfl, ?hye1525⟩) (by assumption) ?_
          case hye1525 => (intro wz hSw; (try dsimp only at hSw); go_simp; try with_reducible rfl)
          (try simp only [Act.put, List.setIfInBounds_toArray, List.set_cons_zero, List.set_cons_succ])
          refine wpAnyH_done (by kernel_rfl) ?_ _
          go_wp2
          exact bodyPost_ret (res47 rfl rfl rfl rfl) rfl ⟨_, _, _, fr ++ [(a : Int)], pl ++ [(nt : Int)], by rw [HE.out.1]; rfl, Lib.hid (FIN.out _ _ _ _ bc_15.out ot_15.out of_15.out op_15.out sp_15.out), bc_15⟩
        refine AllReadyH.cons (o := { dst := some 70, op := Go.Op.buildSlice 77 1 #[(0, Go.Operand.tmp 69)], type := 77, pos := _, after := #[{ on := 15, ground := Go.Ground.data }], guard := none }) rfl (fun K hK => ?_) ?_
        · go_simp
          have bb_17 : Hid (Below Bt w (w_0.alloc (.cells #[.int .i64 a] 3)) ∧ w_0.heap.size < (w_0.alloc (.cells #[.int .i64 a] 3)).heap.size) := Lib.hid ⟨below_then BB0.out (below_alloc w_0 _) (bsize BB0.out), by show _ < (Array.push _ _).size; simp⟩
          refine hK.out _ _ (KH.out _ bb_17.out.1) (fun hHeld_17 => ?_)
          clear hK K
          (try simp only [Act.put, List.setIfInBounds_toArray, List.set_cons_zero, List.set_cons_succ])
          obtain ⟨w_17, hw_17⟩ : ∃ z, z = w_0.alloc (.cells #[.int .i64 a] 3) := ⟨_, rfl⟩
          have nc_17 : Hid (w_17.cell? ⟨w_0.heap.size, 0, none⟩ = some (.int .i64 a)) := Lib.hid (by rw [hw_17]; have z := new_cell w_0 (.int .i64 a) 3; rw [Go.WideShapes.add_plain] at z; exact z)
          have bc_17 : Hid (Below Bt w w_17) := Lib.hid (by rw [hw_17]; exact bb_17.out.1)
          have bl_17 : Hid (Below w_0.heap.size w_0 w_17) := Lib.hid (by rw [hw_17]; exact below_alloc w_0 _)
          rw [← hw_17] at hHeld_17 ⊢
          clear bb_17 hw_17
          have ot_17 := Lib.hid (own_below OT0.out bl_17.out)
          have of_17 := Lib.hid (own_below OF0.out bl_17.out)
          have op_17 := Lib.hid (own_below OP0.out bl_17.out)
          refine wpAnyH_ready (rs := [13, 20]) (by kernel_rfl) (by simp) ?_
          refine AllReadyH.cons (o := { dst := some 67, op := Go.Op.call { callee := Go.Callee.builtin Go.Builtin.append, args := #[Go.Operand.tmp 56, Go.Operand.tmp 66], argTypes := #[45, 45] }, type := 45, pos := _, after := #[{ on := 2, ground := Go.Ground.data }, { on := 12, ground := Go.Ground.data }, { on := 1, ground := Go.Ground.chain }], guard := none }) rfl (fun K hK => ?_) ?_
          · rw [if_pos (by rfl)]
            refine wp_append_at (.tmp 56) (.tmp 66) 45 rfl Bt 27 i0 (.int .u64 0) 8 Try.underlying45 hi0 hz0 hz1 hz2 rfl _ nt (wd s.T.ws) rfl ot_17.out ⟨g, off, none⟩ (sz + 1) (c0 - a) (wd (F.ws.getD a 0 :: objOf F a)) rfl (by rw [wd_len]; exact NWL.out) (NW.out _ bc_17.out) (one_wd _) (by unfold maxLen; omega) (by omega) (bsize bc_17.out) ?_
            intro v_18 w_18 own_18 gr_18 at_18
            have bc_18 : Hid (Below Bt w w_18) := Lib.hid (grown_b bc_17.out ot_17.out gr_18)
            refine hK.out _ _ (KH.out _ bc_18.out) (fun hHeld_18 => ?_)
            clear hK K
            (try simp only [Act.put, List.setIfInBounds_toArray, List.set_cons_zero, List.set_cons_succ])
            have ot_18 := Lib.hid own_18
            have of_18 := Lib.hid (own_grown of_17.out gr_18 (fun k hk hr => (own_own_ne of_17.out ot_17.out (by decide) k hk) hr))
            have op_18 := Lib.hid (own_grown op_17.out gr_18 (fun k hk hr => (own_own_ne op_17.out ot_17.out (by decide) k hk) hr))
            have n16_18 := Lib.hid (cell_grown nc_17.out gr_18 (fun hr => by have := (Yot.out _ hr); have := BB0.out.size; omega))
            clear own_18 gr_18 at_18
            refine wpAnyH_ready (rs := [17, 20]) (by kernel_rfl) (by simp) ?_
            refine AllReadyH.cons (o := { dst := some 71, op := Go.Op.call { callee := Go.Callee.builtin Go.Builtin.append, args := #[Go.Operand.tmp 68, Go.Operand.tmp 70], argTypes := #[77, 77] }, type := 77, pos := _, after := #[{ on := 14, ground := Go.Ground.data }, { on := 16, ground := Go.Ground.data }, { on := 13, ground := Go.Ground.chain }], guard := none }) rfl (fun K hK => ?_) ?_
            · rw [if_pos (by rfl)]
              refine wp_append_at (.tmp 68) (.tmp 70) 77 rfl Bt 3 j0 (.int .i64 0) 8 Try.underlying77 hj0 hy0 hy1 hy2 rfl _ nf (il fr) rfl of_18.out ⟨w_0.heap.size, 0, none⟩ 1 1 [.int .i64 a] rfl rfl (news1 n16_18.out) (one1 a) (by unfold maxLen; omega) (by omega) (bsize bc_18.out) ?_
              intro v_19 w_19 own_19 gr_19 at_19
              have bc_19 : Hid (Below Bt w w_19) := Lib.hid (grown_b bc_18.out of_18.out gr_19)
              refine hK.out _ _ (KH.out _ bc_19.out) (fun hHeld_19 => ?_)
              clear hK K
              (try simp only [Act.put, List.setIfInBounds_toArray, List.set_cons_zero, List.set_cons_succ])
              have of_19 := Lib.hid own_19
              have ot_19 := Lib.hid (own_grown ot_18.out gr_19 (fun k hk hr => (own_own_ne ot_18.out of_18.out (by decide) k hk) hr))
              have op_19 := Lib.hid (own_grown op_18.out gr_19 (fun k hk hr => SP0.out k hr hk))
              have sp_19 : Hid (∀ k, Value.ownBlock v_19 = some k → (Value.slice Ap nf cP).ownBlock ≠ some k) := Lib.hid (sep_new1 SP0.out op_18.out at_19)
              clear own_19 gr_19 at_19
              refine wpAnyH_ready (rs := [20]) (by kernel_rfl) (by simp) ?_
              refine AllReadyH.cons (o := { dst := some 74, op := Go.Op.buildSlice 77 1 #[(0, Go.Operand.tmp 73)], type := 77, pos := _, after := #[{ on := 19, ground := Go.Ground.data }], guard := none }) rfl (fun K hK => ?_) AllReadyH.nil
              go_simp
              have bb_20 : Hid (Below Bt w (w_19.alloc (.cells #[.int .i64 nt] 3)) ∧ w_19.heap.size < (w_19.alloc (.cells #[.int .i64 nt] 3)).heap.size) := Lib.hid ⟨below_then bc_19.out (below_alloc w_19 _) (bsize bc_19.out), by show _ < (Array.push _ _).size; simp⟩
              refine hK.out _ _ (KH.out _ bb_20.out.1) (fun hHeld_20 => ?_)
              clear hK K
              (try simp only [Act.put, List.setIfInBounds_toArray, List.set_cons_zero, List.set_cons_succ])
              obtain ⟨w_20, hw_20⟩ : ∃ z, z = w_19.alloc (.cells #[.int .i64 nt] 3) := ⟨_, rfl⟩
              have nc_20 : Hid (w_20.cell? ⟨w_19.heap.size, 0, none⟩ = some (.int .i64 nt)) := Lib.hid (by rw [hw_20]; have z := new_cell w_19 (.int .i64 nt) 3; rw [Go.WideShapes.add_plain] at z; exact z)
              have bc_20 : Hid (Below Bt w w_20) := Lib.hid (by rw [hw_20]; exact bb_20.out.1)
              have bl_20 : Hid (Below w_19.heap.size w_19 w_20) := Lib.hid (by rw [hw_20]; exact below_alloc w_19 _)
              rw [← hw_20] at hHeld_20 ⊢
              clear bb_20 hw_20
              have ot_20 := Lib.hid (own_below ot_19.out bl_20.out)
              have of_20 := Lib.hid (own_below of_19.out bl_20.out)
              have op_20 := Lib.hid (own_below op_19.out bl_20.out)
              refine wpAnyH_ready (rs := [21]) (by kernel_rfl) (by simp) ?_
              refine AllReadyH.cons (o := { dst := some 75, op := Go.Op.call { callee := Go.Callee.builtin Go.Builtin.append, args := #[Go.Operand.tmp 72, Go.Operand.tmp 74], argTypes := #[77, 77] }, type := 77, pos := _, after := #[{ on := 18, ground := Go.Ground.data }, { on := 20, ground := Go.Ground.data }, { on := 17, ground := Go.Ground.chain }], guard := none }) rfl (fun K hK => ?_) AllReadyH.nil
              rw [if_pos (by rfl)]
              refine wp_append_at (.tmp 72) (.tmp 74) 77 rfl Bt 3 j0 (.int .i64 0) 8 Try.underlying77 hj0 hy0 hy1 hy2 rfl _ nf (il pl) rfl op_20.out ⟨w_19.heap.size, 0, none⟩ 1 1 [.int .i64 nt] rfl rfl (news1 nc_20.out) (one1 nt) (by unfold maxLen; omega) (by omega) (bsize bc_20.out) ?_
              intro v_21 w_21 own_21 gr_21 at_21
              have bc_21 : Hid (Below Bt w w_21) := Lib.hid (grown_b bc_20.out op_20.out gr_21)
              refine hK.out _ _ (KH.out _ bc_21.out) (fun hHeld_21 => ?_)
              clear hK K
              (try simp only [Act.put, List.setIfInBounds_toArray, List.set_cons_zero, List.set_cons_succ])
              have op_21 := Lib.hid own_21
              have ot_21 := Lib.hid (own_grown ot_20.out gr_21 (fun k hk hr => (own_own_ne ot_20.out op_20.out (by decide) k hk) hr))
              have of_21 := Lib.hid (own_grown of_20.out gr_21 (fun k hk hr => sp_19.out k hk hr))
              have sp_21 : Hid (∀ k, Value.ownBlock v_19 = some k → v_21.ownBlock ≠ some k) := Lib.hid (sep_new2 sp_19.out of_20.out at_21)
              clear own_21 gr_21 at_21
              refine wpAnyH_take (i := 22) (oi := { dst := some 10, op := Go.Op.assign (Go.Operand.tmp 55), type := 27, pos := _, after := #[{ on := 1, ground := Go.Ground.data }, { on := 21, ground := Go.Ground.chain }, { on := 0, ground := Go.Ground.phase }, { on := 1, ground := Go.Ground.phase }, { on := 2, ground := Go.Ground.textOnly Go.Departure.lateStores }, { on := 3, ground := Go.Ground.textOnly Go.Departure.lateStores }, { on := 4, ground := Go.Ground.textOnly Go.Departure.lateStores }, { on := 5, ground := Go.Ground.textOnly Go.Departure.lateStores }, { on := 6, ground := Go.Ground.textOnly Go.Departure.lateStores }, { on := 7, ground := Go.Ground.textOnly Go.Departure.lateStores }, { on := 8, ground := Go.Ground.textOnly Go.Departure.lateStores }, { on := 9, ground := Go.Ground.textOnly Go.Departure.lateStores }, { on := 10, ground := Go.Ground.textOnly Go.Departure.lateStores }, { on := 11, ground := Go.Ground.textOnly Go.Departure.lateStores }, { on := 12, ground := Go.Ground.textOnly Go.Departure.lateStoresUnsure }, { on := 13, ground := Go.Ground.textOnly Go.Departure.lateStoresUnsure }, { on := 14, ground := Go.Ground.textOnly Go.Departure.lateStores }, { on := 15, ground := Go.Ground.textOnly Go.Departure.lateStores }, { on := 16, ground := Go.Ground.textOnly Go.Departure.lateStores }, { on := 17, ground := Go.Ground.textOnly Go.Departure.lateStoresUnsure }, { on := 18, ground := Go.Ground.textOnly Go.Departure.lateStores }, { on := 19, ground := Go.Ground.textOnly Go.Departure.lateStores }, { on := 20, ground := Go.Ground.textOnly Go.Departure.lateStores }, { on := 21, ground := Go.Ground.textOnly Go.Departure.lateStoresUnsure }], guard := none }) (v := ?ve2122) rfl (by kernel_rfl) (by kernel_rfl) (by kernel_rfl) (fun _ _ _ h => h) (Or.inl ⟨by rfl, ?hye2122⟩) (by assumption) ?_
              case hye2122 => (intro wz hSw; (try dsimp only at hSw); go_simp; try with_reducible rfl)
              (try simp only [Act.put, List.setIfInBounds_toArray, List.set_cons_zero, List.set_cons_succ])
              refine wpAnyH_take (i := 23) (oi := { dst := some 11, op := Go.Op.assign (Go.Operand.tmp 67), type := 45, pos := _, after := #[{ on := 13, ground := Go.Ground.data }, { on := 22, ground := Go.Ground.chain }, { on := 0, ground := Go.Ground.phase }, { on := 1, ground := Go.Ground.phase }, { on := 2, ground := Go.Ground.phase }, { on := 3, ground := Go.Ground.phase }, { on := 4, ground := Go.Ground.phase }, { on := 5, ground := Go.Ground.phase }, { on := 6, ground := Go.Ground.phase }, { on := 7, ground := Go.Ground.phase }, { on := 8, ground := Go.Ground.phase }, { on := 9, ground := Go.Ground.phase }, { on := 10, ground := Go.Ground.phase }, { on := 11, ground := Go.Ground.phase }, { on := 12, ground := Go.Ground.phase }, { on := 13, ground := Go.Ground.phase }, { on := 14, ground := Go.Ground.textOnly Go.Departure.lateStores }, { on := 15, ground := Go.Ground.textOnly Go.Departure.lateStores }, { on := 16, ground := Go.Ground.textOnly Go.Departure.lateStores }, { on := 17, ground := Go.Ground.textOnly Go.Departure.lateStoresUnsure }, { on := 18, ground := Go.Ground.textOnly Go.Departure.lateStores }, { on := 19, ground := Go.Ground.textOnly Go.Departure.lateStores }, { on := 20, ground := Go.Ground.textOnly Go.Departure.lateStores }, { on := 21, ground := Go.Ground.textOnly Go.Departure.lateStoresUnsure }, { on := 22, ground := Go.Ground.phase }], guard := none }) (v := ?ve2123) rfl (by kernel_rfl) (by kernel_rfl) (by kernel_rfl) (fun _ _ _ h => h) (Or.inl ⟨by rfl, ?hye2123⟩) (by assumption) ?_
              case hye2123 => (intro wz hSw; (try dsimp only at hSw); go_simp; try with_reducible rfl)
              (try simp only [Act.put, List.setIfInBounds_toArray, List.set_cons_zero, List.set_cons_succ])
              refine wpAnyH_take (i := 24) (oi := { dst := some 12, op := Go.Op.assign (Go.Operand.tmp 71), type := 77, pos := _, after := #[{ on := 17, ground := Go.Ground.data }, { on := 23, ground := Go.Ground.chain }, { on := 0, ground := Go.Ground.phase }, { on := 1, ground := Go.Ground.phase }, { on := 2, ground := Go.Ground.phase }, { on := 3, ground := Go.Ground.phase }, { on := 4, ground := Go.Ground.phase }, { on := 5, ground := Go.Ground.phase }, { on := 6, ground := Go.Ground.phase }, { on := 7, ground := Go.Ground.phase }, { on := 8, ground := Go.Ground.phase }, { on := 9, ground := Go.Ground.phase }, { on := 10, ground := Go.Ground.phase }, { on := 11, ground := Go.Ground.phase }, { on := 12, ground := Go.Ground.phase }, { on := 13, ground := Go.Ground.phase }, { on := 14, ground := Go.Ground.phase }, { on := 15, ground := Go.Ground.phase }, { on := 16, ground := Go.Ground.phase }, { on := 17, ground := Go.Ground.phase }, { on := 18, ground := Go.Ground.textOnly Go.Departure.lateStores }, { on := 19, ground := Go.Ground.textOnly Go.Departure.lateStores }, { on := 20, ground := Go.Ground.textOnly Go.Departure.lateStores }, { on := 21, ground := Go.Ground.textOnly Go.Departure.lateStoresUnsure }, { on := 22, ground := Go.Ground.phase }, { on := 23, ground := Go.Ground.phase }], guard := none }) (v := ?ve2124) rfl (by kernel_rfl) (by kernel_rfl) (by kernel_rfl) (fun _ _ _ h => h) (Or.inl ⟨by rfl, ?hye2124⟩) (by assumption) ?_
              case hye2124 => (intro wz hSw; (try dsimp only at hSw); go_simp; try with_reducible rfl)
              (try simp only [Act.put, List.setIfInBounds_toArray, List.set_cons_zero, List.set_cons_succ])
              refine wpAnyH_take (i := 25) (oi := { dst := some 13, op := Go.Op.assign (Go.Operand.tmp 75), type := 77, pos := _, after := #[{ on := 21, ground := Go.Ground.data }, { on := 24, ground := Go.Ground.chain }, { on := 0, ground := Go.Ground.phase }, { on := 1, ground := Go.Ground.phase }, { on := 2, ground := Go.Ground.phase }, { on := 3, ground := Go.Ground.phase }, { on := 4, ground := Go.Ground.phase }, { on := 5, ground := Go.Ground.phase }, { on := 6, ground := Go.Ground.phase }, { on := 7, ground := Go.Ground.phase }, { on := 8, ground := Go.Ground.phase }, { on := 9, ground := Go.Ground.phase }, { on := 10, ground := Go.Ground.phase }, { on := 11, ground := Go.Ground.phase }, { on := 12, ground := Go.Ground.phase }, { on := 13, ground := Go.Ground.phase }, { on := 14, ground := Go.Ground.phase }, { on := 15, ground := Go.Ground.phase }, { on := 16, ground := Go.Ground.phase }, { on := 17, ground := Go.Ground.phase }, { on := 18, ground := Go.Ground.phase }, { on := 19, ground := Go.Ground.phase }, { on := 20, ground := Go.Ground.phase }, { on := 21, ground := Go.Ground.phase }, { on := 22, ground := Go.Ground.phase }, { on := 23, ground := Go.Ground.phase }, { on := 24, ground := Go.Ground.phase }], guard := none }) (v := ?ve2125) rfl (by kernel_rfl) (by kernel_rfl) (by kernel_rfl) (fun _ _ _ h => h) (Or.inl ⟨by rfl, ?hye2125⟩) (by assumption) ?_
              case hye2125 => (intro wz hSw; (try dsimp only at hSw); go_simp; try with_reducible rfl)
              (try simp only [Act.put, List.setIfInBounds_toArray, List.set_cons_zero, List.set_cons_succ])
              refine wpAnyH_done (by kernel_rfl) ?_ _
              go_wp2
              exact bodyPost_ret (res47 rfl rfl rfl rfl) rfl ⟨_, _, _, fr ++ [(a : Int)], pl ++ [(nt : Int)], by rw [HE.out.1]; rfl, Lib.hid (FIN.out _ _ _ _ bc_21.out ot_21.out of_21.out op_21.out sp_21.out), bc_21⟩
            refine AllReadyH.cons (o := { dst := some 74, op := Go.Op.buildSlice 77 1 #[(0, Go.Operand.tmp 73)], type := 77, pos := _, after := #[{ on := 19, ground := Go.Ground.data }], guard := none }) rfl (fun K hK => ?_) AllReadyH.nil
            go_simp
            have bb_23 : Hid (Below Bt w (w_18.alloc (.cells #[.int .i64 nt] 3)) ∧ w_18.heap.size < (w_18.alloc (.cells #[.int .i64 nt] 3)).heap.size) := Lib.hid ⟨below_then bc_18.out (below_alloc w_18 _) (bsize bc_18.out), by show _ < (Array.push _ _).size; simp⟩
            refine hK.out _ _ (KH.out _ bb_23.out.1) (fun hHeld_23 => ?_)
            clear hK K
            (try simp only [Act.put, List.setIfInBounds_toArray, List.set_cons_zero, List.set_cons_succ])
            obtain ⟨w_23, hw_23⟩ : ∃ z, z = w_18.alloc (.cells #[.int .i64 nt] 3) := ⟨_, rfl⟩
            have nc_23 : Hid (w_23.cell? ⟨w_18.heap.size, 0, none⟩ = some (.int .i64 nt)) := Lib.hid (by rw [hw_23]; have z := new_cell w_18 (.int .i64 nt) 3; rw [Go.WideShapes.add_plain] at z; exact z)
            have bc_23 : Hid (Below Bt w w_23) := Lib.hid (by rw [hw_23]; exact bb_23.out.1)
            have bl_23 : Hid (Below w_18.heap.size w_18 w_23) := Lib.hid (by rw [hw_23]; exact below_alloc w_18 _)
            rw [← hw_23] at hHeld_23 ⊢
            clear bb_23 hw_23
            have ot_23 := Lib.hid (own_below ot_18.out bl_23.out)
            have of_23 := Lib.hid (own_below of_18.out bl_23.out)
            have op_23 := Lib.hid (own_below op_18.out bl_23.out)
            have n16_23 := Lib.hid (cell_below n16_18.out bl_23.out)
            refine wpAnyH_ready (rs := [17]) (by kernel_rfl) (by simp) ?_
            refine AllReadyH.cons (o := { dst := some 71, op := Go.Op.call { callee := Go.Callee.builtin Go.Builtin.append, args := #[Go.Operand.tmp 68, Go.Operand.tmp 70], argTypes := #[77, 77] }, type := 77, pos := _, after := #[{ on := 14, ground := Go.Ground.data }, { on := 16, ground := Go.Ground.data }, { on := 13, ground := Go.Ground.chain }], guard := none }) rfl (fun K hK => ?_) AllReadyH.nil
            rw [if_pos (by rfl)]
            refine wp_append_at (.tmp 68) (.tmp 70) 77 rfl Bt 3 j0 (.int .i64 0) 8 Try.underlying77 hj0 hy0 hy1 hy2 rfl _ nf (il fr) rfl of_23.out ⟨w_0.heap.size, 0, none⟩ 1 1 [.int .i64 a] rfl rfl (news1 n16_23.out) (one1 a) (by unfold maxLen; omega) (by omega) (bsize bc_23.out) ?_
            intro v_24 w_24 own_24 gr_24 at_24
            have bc_24 : Hid (Below Bt w w_24) := Lib.hid (grown_b bc_23.out of_23.out gr_24)
            refine hK.out _ _ (KH.out _ bc_24.out) (fun hHeld_24 => ?_)
            clear hK K
            (try simp only [Act.put, List.setIfInBounds_toArray, List.set_cons_zero, List.set_cons_succ])
            have of_24 := Lib.hid own_24
            have ot_24 := Lib.hid (own_grown ot_23.out gr_24 (fun k hk hr => (own_own_ne ot_23.out of_23.out (by decide) k hk) hr))
            have op_24 := Lib.hid (own_grown op_23.out gr_24 (fun k hk hr => SP0.out k hr hk))
            have n20_24 := Lib.hid (cell_grown nc_23.out gr_24 (fun hr => by have := (Yof.out _ hr); have := bc_18.out.size; omega))
            have sp_24 : Hid (∀ k, Value.ownBlock v_24 = some k → (Value.slice Ap nf cP).ownBlock ≠ some k) := Lib.hid (sep_new1 SP0.out op_23.out at_24)
            clear own_24 gr_24 at_24
            refine wpAnyH_ready (rs := [21]) (by kernel_rfl) (by simp) ?_
            refine AllReadyH.cons (o := { dst := some 75, op := Go.Op.call { callee := Go.Callee.builtin Go.Builtin.append, args := #[Go.Operand.tmp 72, Go.Operand.tmp 74], argTypes := #[77, 77] }, type := 77, pos := _, after := #[{ on := 18, ground := Go.Ground.data }, { on := 20, ground := Go.Ground.data }, { on := 17, ground := Go.Ground.chain }], guard := none }) rfl (fun K hK => ?_) AllReadyH.nil
            rw [if_pos (by rfl)]
            refine wp_append_at (.tmp 72) (.tmp 74) 77 rfl Bt 3 j0 (.int .i64 0) 8 Try.underlying77 hj0 hy0 hy1 hy2 rfl _ nf (il pl) rfl op_24.out ⟨w_18.heap.size, 0, none⟩ 1 1 [.int .i64 nt] rfl rfl (news1 n20_24.out) (one1 nt) (by unfold maxLen; omega) (by omega) (bsize bc_24.out) ?_
            intro v_25 w_25 own_25 gr_25 at_25
            have bc_25 : Hid (Below Bt w w_25) := Lib.hid (grown_b bc_24.out op_24.out gr_25)
            refine hK.out _ _ (KH.out _ bc_25.out) (fun hHeld_25 => ?_)
            clear hK K
            (try simp only [Act.put, List.setIfInBounds_toArray, List.set_cons_zero, List.set_cons_succ])
            have op_25 := Lib.hid own_25
            have ot_25 := Lib.hid (own_grown ot_24.out gr_25 (fun k hk hr => (own_own_ne ot_24.out op_24.out (by decide) k hk) hr))
            have of_25 := Lib.hid (own_grown of_24.out gr_25 (fun k hk hr => sp_24.out k hk hr))
            have sp_25 : Hid (∀ k, Value.ownBlock v_24 = some k → v_25.ownBlock ≠ some k) := Lib.hid (sep_new2 sp_24.out of_24.out at_25)
            clear own_25 gr_25 at_25
            refine wpAnyH_take (i := 22) (oi := { dst := some 10, op := Go.Op.assign (Go.Operand.tmp 55), type := 27, pos := _, after := #[{ on := 1, ground := Go.Ground.data }, { on := 21, ground := Go.Ground.chain }, { on := 0, ground := Go.Ground.phase }, { on := 1, ground := Go.Ground.phase }, { on := 2, ground := Go.Ground.textOnly Go.Departure.lateStores }, { on := 3, ground := Go.Ground.textOnly Go.Departure.lateStores }, { on := 4, ground := Go.Ground.textOnly Go.Departure.lateStores }, { on := 5, ground := Go.Ground.textOnly Go.Departure.lateStores }, { on := 6, ground := Go.Ground.textOnly Go.Departure.lateStores }, { on := 7, ground := Go.Ground.textOnly Go.Departure.lateStores }, { on := 8, ground := Go.Ground.textOnly Go.Departure.lateStores }, { on := 9, ground := Go.Ground.textOnly Go.Departure.lateStores }, { on := 10, ground := Go.Ground.textOnly Go.Departure.lateStores }, { on := 11, ground := Go.Ground.textOnly Go.Departure.lateStores }, { on := 12, ground := Go.Ground.textOnly Go.Departure.lateStoresUnsure }, { on := 13, ground := Go.Ground.textOnly Go.Departure.lateStoresUnsure }, { on := 14, ground := Go.Ground.textOnly Go.Departure.lateStores }, { on := 15, ground := Go.Ground.textOnly Go.Departure.lateStores }, { on := 16, ground := Go.Ground.textOnly Go.Departure.lateStores }, { on := 17, ground := Go.Ground.textOnly Go.Departure.lateStoresUnsure }, { on := 18, ground := Go.Ground.textOnly Go.Departure.lateStores }, { on := 19, ground := Go.Ground.textOnly Go.Departure.lateStores }, { on := 20, ground := Go.Ground.textOnly Go.Departure.lateStores }, { on := 21, ground := Go.Ground.textOnly Go.Departure.lateStoresUnsure }], guard := none }) (v := ?ve2522) rfl (by kernel_rfl) (by kernel_rfl) (by kernel_rfl) (fun _ _ _ h => h) (Or.inl ⟨by rfl, ?hye2522⟩) (by assumption) ?_
            case hye2522 => (intro wz hSw; (try dsimp only at hSw); go_simp; try with_reducible rfl)
            (try simp only [Act.put, List.setIfInBounds_toArray, List.set_cons_zero, List.set_cons_succ])
            refine wpAnyH_take (i := 23) (oi := { dst := some 11, op := Go.Op.assign (Go.Operand.tmp 67), type := 45, pos := _, after := #[{ on := 13, ground := Go.Ground.data }, { on := 22, ground := Go.Ground.chain }, { on := 0, ground := Go.Ground.phase }, { on := 1, ground := Go.Ground.phase }, { on := 2, ground := Go.Ground.phase }, { on := 3, ground := Go.Ground.phase }, { on := 4, ground := Go.Ground.phase }, { on := 5, ground := Go.Ground.phase }, { on := 6, ground := Go.Ground.phase }, { on := 7, ground := Go.Ground.phase }, { on := 8, ground := Go.Ground.phase }, { on := 9, ground := Go.Ground.phase }, { on := 10, ground := Go.Ground.phase }, { on := 11, ground := Go.Ground.phase }, { on := 12, ground := Go.Ground.phase }, { on := 13, ground := Go.Ground.phase }, { on := 14, ground := Go.Ground.textOnly Go.Departure.lateStores }, { on := 15, ground := Go.Ground.textOnly Go.Departure.lateStores }, { on := 16, ground := Go.Ground.textOnly Go.Departure.lateStores }, { on := 17, ground := Go.Ground.textOnly Go.Departure.lateStoresUnsure }, { on := 18, ground := Go.Ground.textOnly Go.Departure.lateStores }, { on := 19, ground := Go.Ground.textOnly Go.Departure.lateStores }, { on := 20, ground := Go.Ground.textOnly Go.Departure.lateStores }, { on := 21, ground := Go.Ground.textOnly Go.Departure.lateStoresUnsure }, { on := 22, ground := Go.Ground.phase }], guard := none }) (v := ?ve2523) rfl (by kernel_rfl) (by kernel_rfl) (by kernel_rfl) (fun _ _ _ h => h) (Or.inl ⟨by rfl, ?hye2523⟩) (by assumption) ?_
            case hye2523 => (intro wz hSw; (try dsimp only at hSw); go_simp; try with_reducible rfl)
            (try simp only [Act.put, List.setIfInBounds_toArray, List.set_cons_zero, List.set_cons_succ])
            refine wpAnyH_take (i := 24) (oi := { dst := some 12, op := Go.Op.assign (Go.Operand.tmp 71), type := 77, pos := _, after := #[{ on := 17, ground := Go.Ground.data }, { on := 23, ground := Go.Ground.chain }, { on := 0, ground := Go.Ground.phase }, { on := 1, ground := Go.Ground.phase }, { on := 2, ground := Go.Ground.phase }, { on := 3, ground := Go.Ground.phase }, { on := 4, ground := Go.Ground.phase }, { on := 5, ground := Go.Ground.phase }, { on := 6, ground := Go.Ground.phase }, { on := 7, ground := Go.Ground.phase }, { on := 8, ground := Go.Ground.phase }, { on := 9, ground := Go.Ground.phase }, { on := 10, ground := Go.Ground.phase }, { on := 11, ground := Go.Ground.phase }, { on := 12, ground := Go.Ground.phase }, { on := 13, ground := Go.Ground.phase }, { on := 14, ground := Go.Ground.phase }, { on := 15, ground := Go.Ground.phase }, { on := 16, ground := Go.Ground.phase }, { on := 17, ground := Go.Ground.phase }, { on := 18, ground := Go.Ground.textOnly Go.Departure.lateStores }, { on := 19, ground := Go.Ground.textOnly Go.Departure.lateStores }, { on := 20, ground := Go.Ground.textOnly Go.Departure.lateStores }, { on := 21, ground := Go.Ground.textOnly Go.Departure.lateStoresUnsure }, { on := 22, ground := Go.Ground.phase }, { on := 23, ground := Go.Ground.phase }], guard := none }) (v := ?ve2524) rfl (by kernel_rfl) (by kernel_rfl) (by kernel_rfl) (fun _ _ _ h => h) (Or.inl ⟨by rfl, ?hye2524⟩) (by assumption) ?_
            case hye2524 => (intro wz hSw; (try dsimp only at hSw); go_simp; try with_reducible rfl)
            (try simp only [Act.put, List.setIfInBounds_toArray, List.set_cons_zero, List.set_cons_succ])
            refine wpAnyH_take (i := 25) (oi := { dst := some 13, op := Go.Op.assign (Go.Operand.tmp 75), type := 77, pos := _, after := #[{ on := 21, ground := Go.Ground.data }, { on := 24, ground := Go.Ground.chain }, { on := 0, ground := Go.Ground.phase }, { on := 1, ground := Go.Ground.phase }, { on := 2, ground := Go.Ground.phase }, { on := 3, ground := Go.Ground.phase }, { on := 4, ground := Go.Ground.phase }, { on := 5, ground := Go.Ground.phase }, { on := 6, ground := Go.Ground.phase }, { on := 7, ground := Go.Ground.phase }, { on := 8, ground := Go.Ground.phase }, { on := 9, ground := Go.Ground.phase }, { on := 10, ground := Go.Ground.phase }, { on := 11, ground := Go.Ground.phase }, { on := 12, ground := Go.Ground.phase }, { on := 13, ground := Go.Ground.phase }, { on := 14, ground := Go.Ground.phase }, { on := 15, ground := Go.Ground.phase }, { on := 16, ground := Go.Ground.phase }, { on := 17, ground := Go.Ground.phase }, { on := 18, ground := Go.Ground.phase }, { on := 19, ground := Go.Ground.phase }, { on := 20, ground := Go.Ground.phase }, { on := 21, ground := Go.Ground.phase }, { on := 22, ground := Go.Ground.phase }, { on := 23, ground := Go.Ground.phase }, { on := 24, ground := Go.Ground.phase }], guard := none }) (v := ?ve2525) rfl (by kernel_rfl) (by kernel_rfl) (by kernel_rfl) (fun _ _ _ h => h) (Or.inl ⟨by rfl, ?hye2525⟩) (by assumption) ?_
            case hye2525 => (intro wz hSw; (try dsimp only at hSw); go_simp; try with_reducible rfl)
            (try simp only [Act.put, List.setIfInBounds_toArray, List.set_cons_zero, List.set_cons_succ])
            refine wpAnyH_done (by kernel_rfl) ?_ _
            go_wp2
            exact bodyPost_ret (res47 rfl rfl rfl rfl) rfl ⟨_, _, _, fr ++ [(a : Int)], pl ++ [(nt : Int)], by rw [HE.out.1]; rfl, Lib.hid (FIN.out _ _ _ _ bc_25.out ot_25.out of_25.out op_25.out sp_25.out), bc_25⟩
          refine AllReadyH.cons (o := { dst := some 74, op := Go.Op.buildSlice 77 1 #[(0, Go.Operand.tmp 73)], type := 77, pos := _, after := #[{ on := 19, ground := Go.Ground.data }], guard := none }) rfl (fun K hK => ?_) AllReadyH.nil
          go_simp
          have bb_27 : Hid (Below Bt w (w_17.alloc (.cells #[.int .i64 nt] 3)) ∧ w_17.heap.size < (w_17.alloc (.cells #[.int .i64 nt] 3)).heap.size) := Lib.hid ⟨below_then bc_17.out (below_alloc w_17 _) (bsize bc_17.out), by show _ < (Array.push _ _).size; simp⟩
          refine hK.out _ _ (KH.out _ bb_27.out.1) (fun hHeld_27 => ?_)
          clear hK K
          (try simp only [Act.put, List.setIfInBounds_toArray, List.set_cons_zero, List.set_cons_succ])
          obtain ⟨w_27, hw_27⟩ : ∃ z, z = w_17.alloc (.cells #[.int .i64 nt] 3) := ⟨_, rfl⟩
          have nc_27 : Hid (w_27.cell? ⟨w_17.heap.size, 0, none⟩ = some (.int .i64 nt)) := Lib.hid (by rw [hw_27]; have z := new_cell w_17 (.int .i64 nt) 3; rw [Go.WideShapes.add_plain] at z; exact z)
          have bc_27 : Hid (Below Bt w w_27) := Lib.hid (by rw [hw_27]; exact bb_27.out.1)
          have bl_27 : Hid (Below w_17.heap.size w_17 w_27) := Lib.hid (by rw [hw_27]; exact below_alloc w_17 _)
          rw [← hw_27] at hHeld_27 ⊢
          clear bb_27 hw_27
          have ot_27 := Lib.hid (own_below ot_17.out bl_27.out)
          have of_27 := Lib.hid (own_below of_17.out bl_27.out)
          have op_27 := Lib.hid (own_below op_17.out bl_27.out)
          have n16_27 := Lib.hid (cell_below nc_17.out bl_27.out)
          refine wpAnyH_ready (rs := [13]) (by kernel_rfl) (by simp) ?_
          refine AllReadyH.cons (o := { dst := some 67, op := Go.Op.call { callee := Go.Callee.builtin Go.Builtin.append, args := #[Go.Operand.tmp 56, Go.Operand.tmp 66], argTypes := #[45, 45] }, type := 45, pos := _, after := #[{ on := 2, ground := Go.Ground.data }, { on := 12, ground := Go.Ground.data }, { on := 1, ground := Go.Ground.chain }], guard := none }) rfl (fun K hK => ?_) AllReadyH.nil
          rw [if_pos (by rfl)]
          refine wp_append_at (.tmp 56) (.tmp 66) 45 rfl Bt 27 i0 (.int .u64 0) 8 Try.underlying45 hi0 hz0 hz1 hz2 rfl _ nt (wd s.T.ws) rfl ot_27.out ⟨g, off, none⟩ (sz + 1) (c0 - a) (wd (F.ws.getD a 0 :: objOf F a)) rfl (by rw [wd_len]; exact NWL.out) (NW.out _ bc_27.out) (one_wd _) (by unfold maxLen; omega) (by omega) (bsize bc_27.out) ?_
          intro v_28 w_28 own_28 gr_28 at_28
          have bc_28 : Hid (Below Bt w w_28) := Lib.hid (grown_b bc_27.out ot_27.out gr_28)
          refine hK.out _ _ (KH.out _ bc_28.out) (fun hHeld_28 => ?_)
          clear hK K
          (try simp only [Act.put, List.setIfInBounds_toArray, List.set_cons_zero, List.set_cons_succ])
          have ot_28 := Lib.hid own_28
          have of_28 := Lib.hid (own_grown of_27.out gr_28 (fun k hk hr => (own_own_ne of_27.out ot_27.out (by decide) k hk) hr))
          have op_28 := Lib.hid (own_grown op_27.out gr_28 (fun k hk hr => (own_own_ne op_27.out ot_27.out (by decide) k hk) hr))
          have n16_28 := Lib.hid (cell_grown n16_27.out gr_28 (fun hr => by have := (Yot.out _ hr); have := BB0.out.size; omega))
          have n20_28 := Lib.hid (cell_grown nc_27.out gr_28 (fun hr => by have := (Yot.out _ hr); have := bc_17.out.size; omega))
          clear own_28 gr_28 at_28
          refine wpAnyH_ready (rs := [17]) (by kernel_rfl) (by simp) ?_
          refine AllReadyH.cons (o := { dst := some 71, op := Go.Op.call { callee := Go.Callee.builtin Go.Builtin.append, args := #[Go.Operand.tmp 68, Go.Operand.tmp 70], argTypes := #[77, 77] }, type := 77, pos := _, after := #[{ on := 14, ground := Go.Ground.data }, { on := 16, ground := Go.Ground.data }, { on := 13, ground := Go.Ground.chain }], guard := none }) rfl (fun K hK => ?_) AllReadyH.nil
          rw [if_pos (by rfl)]
          refine wp_append_at (.tmp 68) (.tmp 70) 77 rfl Bt 3 j0 (.int .i64 0) 8 Try.underlying77 hj0 hy0 hy1 hy2 rfl _ nf (il fr) rfl of_28.out ⟨w_0.heap.size, 0, none⟩ 1 1 [.int .i64 a] rfl rfl (news1 n16_28.out) (one1 a) (by unfold maxLen; omega) (by omega) (bsize bc_28.out) ?_
          intro v_29 w_29 own_29 gr_29 at_29
          have bc_29 : Hid (Below Bt w w_29) := Lib.hid (grown_b bc_28.out of_28.out gr_29)
          refine hK.out _ _ (KH.out _ bc_29.out) (fun hHeld_29 => ?_)
          clear hK K
          (try simp only [Act.put, List.setIfInBounds_toArray, List.set_cons_zero, List.set_cons_succ])
          have of_29 := Lib.hid own_29
          have ot_29 := Lib.hid (own_grown ot_28.out gr_29 (fun k hk hr => (own_own_ne ot_28.out of_28.out (by decide) k hk) hr))
          have op_29 := Lib.hid (own_grown op_28.out gr_29 (fun k hk hr => SP0.out k hr hk))
          have n20_29 := Lib.hid (cell_grown n20_28.out gr_29 (fun hr => by have := (Yof.out _ hr); have := bc_17.out.size; omega))
          have sp_29 : Hid (∀ k, Value.ownBlock v_29 = some k → (Value.slice Ap nf cP).ownBlock ≠ some k) := Lib.hid (sep_new1 SP0.out op_28.out at_29)
          clear own_29 gr_29 at_29
          refine wpAnyH_ready (rs := [21]) (by kernel_rfl) (by simp) ?_
          refine AllReadyH.cons (o := { dst := some 75, op := Go.Op.call { callee := Go.Callee.builtin Go.Builtin.append, args := #[Go.Operand.tmp 72, Go.Operand.tmp 74], argTypes := #[77, 77] }, type := 77, pos := _, after := #[{ on := 18, ground := Go.Ground.data }, { on := 20, ground := Go.Ground.data }, { on := 17, ground := Go.Ground.chain }], guard := none }) rfl (fun K hK => ?_) AllReadyH.nil
          rw [if_pos (by rfl)]
          refine wp_append_at (.tmp 72) (.tmp 74) 77 rfl Bt 3 j0 (.int .i64 0) 8 Try.underlying77 hj0 hy0 hy1 hy2 rfl _ nf (il pl) rfl op_29.out ⟨w_17.heap.size, 0, none⟩ 1 1 [.int .i64 nt] rfl rfl (news1 n20_29.out) (one1 nt) (by unfold maxLen; omega) (by omega) (bsize bc_29.out) ?_
          intro v_30 w_30 own_30 gr_30 at_30
          have bc_30 : Hid (Below Bt w w_30) := Lib.hid (grown_b bc_29.out op_29.out gr_30)
          refine hK.out _ _ (KH.out _ bc_30.out) (fun hHeld_30 => ?_)
          clear hK K
          (try simp only [Act.put, List.setIfInBounds_toArray, List.set_cons_zero, List.set_cons_succ])
          have op_30 := Lib.hid own_30
          have ot_30 := Lib.hid (own_grown ot_29.out gr_30 (fun k hk hr => (own_own_ne ot_29.out op_29.out (by decide) k hk) hr))
          have of_30 := Lib.hid (own_grown of_29.out gr_30 (fun k hk hr => sp_29.out k hk hr))
          have sp_30 : Hid (∀ k, Value.ownBlock v_29 = some k → v_30.ownBlock ≠ some k) := Lib.hid (sep_new2 sp_29.out of_29.out at_30)
          clear own_30 gr_30 at_30
          refine wpAnyH_take (i := 22) (oi := { dst := some 10, op := Go.Op.assign (Go.Operand.tmp 55), type := 27, pos := _, after := #[{ on := 1, ground := Go.Ground.data }, { on := 21, ground := Go.Ground.chain }, { on := 0, ground := Go.Ground.phase }, { on := 1, ground := Go.Ground.phase }, { on := 2, ground := Go.Ground.textOnly Go.Departure.lateStores }, { on := 3, ground := Go.Ground.textOnly Go.Departure.lateStores }, { on := 4, ground := Go.Ground.textOnly Go.Departure.lateStores }, { on := 5, ground := Go.Ground.textOnly Go.Departure.lateStores }, { on := 6, ground := Go.Ground.textOnly Go.Departure.lateStores }, { on := 7, ground := Go.Ground.textOnly Go.Departure.lateStores }, { on := 8, ground := Go.Ground.textOnly Go.Departure.lateStores }, { on := 9, ground := Go.Ground.textOnly Go.Departure.lateStores }, { on := 10, ground := Go.Ground.textOnly Go.Departure.lateStores }, { on := 11, ground := Go.Ground.textOnly Go.Departure.lateStores }, { on := 12, ground := Go.Ground.textOnly Go.Departure.lateStoresUnsure }, { on := 13, ground := Go.Ground.textOnly Go.Departure.lateStoresUnsure }, { on := 14, ground := Go.Ground.textOnly Go.Departure.lateStores }, { on := 15, ground := Go.Ground.textOnly Go.Departure.lateStores }, { on := 16, ground := Go.Ground.textOnly Go.Departure.lateStores }, { on := 17, ground := Go.Ground.textOnly Go.Departure.lateStoresUnsure }, { on := 18, ground := Go.Ground.textOnly Go.Departure.lateStores }, { on := 19, ground := Go.Ground.textOnly Go.Departure.lateStores }, { on := 20, ground := Go.Ground.textOnly Go.Departure.lateStores }, { on := 21, ground := Go.Ground.textOnly Go.Departure.lateStoresUnsure }], guard := none }) (v := ?ve3022) rfl (by kernel_rfl) (by kernel_rfl) (by kernel_rfl) (fun _ _ _ h => h) (Or.inl ⟨by rfl, ?hye3022⟩) (by assumption) ?_
          case hye3022 => (intro wz hSw; (try dsimp only at hSw); go_simp; try with_reducible rfl)
          (try simp only [Act.put, List.setIfInBounds_toArray, List.set_cons_zero, List.set_cons_succ])
          refine wpAnyH_take (i := 23) (oi := { dst := some 11, op := Go.Op.assign (Go.Operand.tmp 67), type := 45, pos := _, after := #[{ on := 13, ground := Go.Ground.data }, { on := 22, ground := Go.Ground.chain }, { on := 0, ground := Go.Ground.phase }, { on := 1, ground := Go.Ground.phase }, { on := 2, ground := Go.Ground.phase }, { on := 3, ground := Go.Ground.phase }, { on := 4, ground := Go.Ground.phase }, { on := 5, ground := Go.Ground.phase }, { on := 6, ground := Go.Ground.phase }, { on := 7, ground := Go.Ground.phase }, { on := 8, ground := Go.Ground.phase }, { on := 9, ground := Go.Ground.phase }, { on := 10, ground := Go.Ground.phase }, { on := 11, ground := Go.Ground.phase }, { on := 12, ground := Go.Ground.phase }, { on := 13, ground := Go.Ground.phase }, { on := 14, ground := Go.Ground.textOnly Go.Departure.lateStores }, { on := 15, ground := Go.Ground.textOnly Go.Departure.lateStores }, { on := 16, ground := Go.Ground.textOnly Go.Departure.lateStores }, { on := 17, ground := Go.Ground.textOnly Go.Departure.lateStoresUnsure }, { on := 18, ground := Go.Ground.textOnly Go.Departure.lateStores }, { on := 19, ground := Go.Ground.textOnly Go.Departure.lateStores }, { on := 20, ground := Go.Ground.textOnly Go.Departure.lateStores }, { on := 21, ground := Go.Ground.textOnly Go.Departure.lateStoresUnsure }, { on := 22, ground := Go.Ground.phase }], guard := none }) (v := ?ve3023) rfl (by kernel_rfl) (by kernel_rfl) (by kernel_rfl) (fun _ _ _ h => h) (Or.inl ⟨by rfl, ?hye3023⟩) (by assumption) ?_
          case hye3023 => (intro wz hSw; (try dsimp only at hSw); go_simp; try with_reducible rfl)
          (try simp only [Act.put, List.setIfInBounds_toArray, List.set_cons_zero, List.set_cons_succ])
          refine wpAnyH_take (i := 24) (oi := { dst := some 12, op := Go.Op.assign (Go.Operand.tmp 71), type := 77, pos := _, after := #[{ on := 17, ground := Go.Ground.data }, { on := 23, ground := Go.Ground.chain }, { on := 0, ground := Go.Ground.phase }, { on := 1, ground := Go.Ground.phase }, { on := 2, ground := Go.Ground.phase }, { on := 3, ground := Go.Ground.phase }, { on := 4, ground := Go.Ground.phase }, { on := 5, ground := Go.Ground.phase }, { on := 6, ground := Go.Ground.phase }, { on := 7, ground := Go.Ground.phase }, { on := 8, ground := Go.Ground.phase }, { on := 9, ground := Go.Ground.phase }, { on := 10, ground := Go.Ground.phase }, { on := 11, ground := Go.Ground.phase }, { on := 12, ground := Go.Ground.phase }, { on := 13, ground := Go.Ground.phase }, { on := 14, ground := Go.Ground.phase }, { on := 15, ground := Go.Ground.phase }, { on := 16, ground := Go.Ground.phase }, { on := 17, ground := Go.Ground.phase }, { on := 18, ground := Go.Ground.textOnly Go.Departure.lateStores }, { on := 19, ground := Go.Ground.textOnly Go.Departure.lateStores }, { on := 20, ground := Go.Ground.textOnly Go.Departure.lateStores }, { on := 21, ground := Go.Ground.textOnly Go.Departure.lateStoresUnsure }, { on := 22, ground := Go.Ground.phase }, { on := 23, ground := Go.Ground.phase }], guard := none }) (v := ?ve3024) rfl (by kernel_rfl) (by kernel_rfl) (by kernel_rfl) (fun _ _ _ h => h) (Or.inl ⟨by rfl, ?hye3024⟩) (by assumption) ?_
          case hye3024 => (intro wz hSw; (try dsimp only at hSw); go_simp; try with_reducible rfl)
          (try simp only [Act.put, List.setIfInBounds_toArray, List.set_cons_zero, List.set_cons_succ])
          refine wpAnyH_take (i := 25) (oi := { dst := some 13, op := Go.Op.assign (Go.Operand.tmp 75), type := 77, pos := _, after := #[{ on := 21, ground := Go.Ground.data }, { on := 24, ground := Go.Ground.chain }, { on := 0, ground := Go.Ground.phase }, { on := 1, ground := Go.Ground.phase }, { on := 2, ground := Go.Ground.phase }, { on := 3, ground := Go.Ground.phase }, { on := 4, ground := Go.Ground.phase }, { on := 5, ground := Go.Ground.phase }, { on := 6, ground := Go.Ground.phase }, { on := 7, ground := Go.Ground.phase }, { on := 8, ground := Go.Ground.phase }, { on := 9, ground := Go.Ground.phase }, { on := 10, ground := Go.Ground.phase }, { on := 11, ground := Go.Ground.phase }, { on := 12, ground := Go.Ground.phase }, { on := 13, ground := Go.Ground.phase }, { on := 14, ground := Go.Ground.phase }, { on := 15, ground := Go.Ground.phase }, { on := 16, ground := Go.Ground.phase }, { on := 17, ground := Go.Ground.phase }, { on := 18, ground := Go.Ground.phase }, { on := 19, ground := Go.Ground.phase }, { on := 20, ground := Go.Ground.phase }, { on := 21, ground := Go.Ground.phase }, { on := 22, ground := Go.Ground.phase }, { on := 23, ground := Go.Ground.phase }, { on := 24, ground := Go.Ground.phase }], guard := none }) (v := ?ve3025) rfl (by kernel_rfl) (by kernel_rfl) (by kernel_rfl) (fun _ _ _ h => h) (Or.inl ⟨by rfl, ?hye3025⟩) (by assumption) ?_
          case hye3025 => (intro wz hSw; (try dsimp only at hSw); go_simp; try with_reducible rfl)
          (try simp only [Act.put, List.setIfInBounds_toArray, List.set_cons_zero, List.set_cons_succ])
          refine wpAnyH_done (by kernel_rfl) ?_ _
          go_wp2
          exact bodyPost_ret (res47 rfl rfl rfl rfl) rfl ⟨_, _, _, fr ++ [(a : Int)], pl ++ [(nt : Int)], by rw [HE.out.1]; rfl, Lib.hid (FIN.out _ _ _ _ bc_30.out ot_30.out of_30.out op_30.out sp_30.out), bc_30⟩
        refine AllReadyH.cons (o := { dst := some 74, op := Go.Op.buildSlice 77 1 #[(0, Go.Operand.tmp 73)], type := 77, pos := _, after := #[{ on := 19, ground := Go.Ground.data }], guard := none }) rfl (fun K hK => ?_) AllReadyH.nil
        go_simp
        have bb_32 : Hid (Below Bt w (w_0.alloc (.cells #[.int .i64 nt] 3)) ∧ w_0.heap.size < (w_0.alloc (.cells #[.int .i64 nt] 3)).heap.size) := Lib.hid ⟨below_then BB0.out (below_alloc w_0 _) (bsize BB0.out), by show _ < (Array.push _ _).size; simp⟩
        refine hK.out _ _ (KH.out _ bb_32.out.1) (fun hHeld_32 => ?_)
        clear hK K
        (try simp only [Act.put, List.setIfInBounds_toArray, List.set_cons_zero, List.set_cons_succ])
        obtain ⟨w_32, hw_32⟩ : ∃ z, z = w_0.alloc (.cells #[.int .i64 nt] 3) := ⟨_, rfl⟩
        have nc_32 : Hid (w_32.cell? ⟨w_0.heap.size, 0, none⟩ = some (.int .i64 nt)) := Lib.hid (by rw [hw_32]; have z := new_cell w_0 (.int .i64 nt) 3; rw [Go.WideShapes.add_plain] at z; exact z)
        have bc_32 : Hid (Below Bt w w_32) := Lib.hid (by rw [hw_32]; exact bb_32.out.1)
        have bl_32 : Hid (Below w_0.heap.size w_0 w_32) := Lib.hid (by rw [hw_32]; exact below_alloc w_0 _)
        rw [← hw_32] at hHeld_32 ⊢
        clear bb_32 hw_32
        have ot_32 := Lib.hid (own_below OT0.out bl_32.out)
        have of_32 := Lib.hid (own_below OF0.out bl_32.out)
        have op_32 := Lib.hid (own_below OP0.out bl_32.out)
        refine wpAnyH_ready (rs := [13, 16]) (by kernel_rfl) (by simp) ?_
        refine AllReadyH.cons (o := { dst := some 67, op := Go.Op.call { callee := Go.Callee.builtin Go.Builtin.append, args := #[Go.Operand.tmp 56, Go.Operand.tmp 66], argTypes := #[45, 45] }, type := 45, pos := _, after := #[{ on := 2, ground := Go.Ground.data }, { on := 12, ground := Go.Ground.data }, { on := 1, ground := Go.Ground.chain }], guard := none }) rfl (fun K hK => ?_) ?_
        · rw [if_pos (by rfl)]
          refine wp_append_at (.tmp 56) (.tmp 66) 45 rfl Bt 27 i0 (.int .u64 0) 8 Try.underlying45 hi0 hz0 hz1 hz2 rfl _ nt (wd s.T.ws) rfl ot_32.out ⟨g, off, none⟩ (sz + 1) (c0 - a) (wd (F.ws.getD a 0 :: objOf F a)) rfl (by rw [wd_len]; exact NWL.out) (NW.out _ bc_32.out) (one_wd _) (by unfold maxLen; omega) (by omega) (bsize bc_32.out) ?_
          intro v_33 w_33 own_33 gr_33 at_33
          have bc_33 : Hid (Below Bt w w_33) := Lib.hid (grown_b bc_32.out ot_32.out gr_33)
          refine hK.out _ _ (KH.out _ bc_33.out) (fun hHeld_33 => ?_)
          clear hK K
          (try simp only [Act.put, List.setIfInBounds_toArray, List.set_cons_zero, List.set_cons_succ])
          have ot_33 := Lib.hid own_33
          have of_33 := Lib.hid (own_grown of_32.out gr_33 (fun k hk hr => (own_own_ne of_32.out ot_32.out (by decide) k hk) hr))
          have op_33 := Lib.hid (own_grown op_32.out gr_33 (fun k hk hr => (own_own_ne op_32.out ot_32.out (by decide) k hk) hr))
          have n20_33 := Lib.hid (cell_grown nc_32.out gr_33 (fun hr => by have := (Yot.out _ hr); have := BB0.out.size; omega))
          clear own_33 gr_33 at_33
          refine wpAnyH_ready (rs := [16]) (by kernel_rfl) (by simp) ?_
          refine AllReadyH.cons (o := { dst := some 70, op := Go.Op.buildSlice 77 1 #[(0, Go.Operand.tmp 69)], type := 77, pos := _, after := #[{ on := 15, ground := Go.Ground.data }], guard := none }) rfl (fun K hK => ?_) AllReadyH.nil
          go_simp
          have bb_34 : Hid (Below Bt w (w_33.alloc (.cells #[.int .i64 a] 3)) ∧ w_33.heap.size < (w_33.alloc (.cells #[.int .i64 a] 3)).heap.size) := Lib.hid ⟨below_then bc_33.out (below_alloc w_33 _) (bsize bc_33.out), by show _ < (Array.push _ _).size; simp⟩
          refine hK.out _ _ (KH.out _ bb_34.out.1) (fun hHeld_34 => ?_)
          clear hK K
          (try simp only [Act.put, List.setIfInBounds_toArray, List.set_cons_zero, List.set_cons_succ])
          obtain ⟨w_34, hw_34⟩ : ∃ z, z = w_33.alloc (.cells #[.int .i64 a] 3) := ⟨_, rfl⟩
          have nc_34 : Hid (w_34.cell? ⟨w_33.heap.size, 0, none⟩ = some (.int .i64 a)) := Lib.hid (by rw [hw_34]; have z := new_cell w_33 (.int .i64 a) 3; rw [Go.WideShapes.add_plain] at z; exact z)
          have bc_34 : Hid (Below Bt w w_34) := Lib.hid (by rw [hw_34]; exact bb_34.out.1)
          have bl_34 : Hid (Below w_33.heap.size w_33 w_34) := Lib.hid (by rw [hw_34]; exact below_alloc w_33 _)
          rw [← hw_34] at hHeld_34 ⊢
          clear bb_34 hw_34
          have ot_34 := Lib.hid (own_below ot_33.out bl_34.out)
          have of_34 := Lib.hid (own_below of_33.out bl_34.out)
          have op_34 := Lib.hid (own_below op_33.out bl_34.out)
          have n20_34 := Lib.hid (cell_below n20_33.out bl_34.out)
          refine wpAnyH_ready (rs := [17]) (by kernel_rfl) (by simp) ?_
          refine AllReadyH.cons (o := { dst := some 71, op := Go.Op.call { callee := Go.Callee.builtin Go.Builtin.append, args := #[Go.Operand.tmp 68, Go.Operand.tmp 70], argTypes := #[77, 77] }, type := 77, pos := _, after := #[{ on := 14, ground := Go.Ground.data }, { on := 16, ground := Go.Ground.data }, { on := 13, ground := Go.Ground.chain }], guard := none }) rfl (fun K hK => ?_) AllReadyH.nil
          rw [if_pos (by rfl)]
          refine wp_append_at (.tmp 68) (.tmp 70) 77 rfl Bt 3 j0 (.int .i64 0) 8 Try.underlying77 hj0 hy0 hy1 hy2 rfl _ nf (il fr) rfl of_34.out ⟨w_33.heap.size, 0, none⟩ 1 1 [.int .i64 a] rfl rfl (news1 nc_34.out) (one1 a) (by unfold maxLen; omega) (by omega) (bsize bc_34.out) ?_
          intro v_35 w_35 own_35 gr_35 at_35
          have bc_35 : Hid (Below Bt w w_35) := Lib.hid (grown_b bc_34.out of_34.out gr_35)
          refine hK.out _ _ (KH.out _ bc_35.out) (fun hHeld_35 => ?_)
          clear hK K
          (try simp only [Act.put, List.setIfInBounds_toArray, List.set_cons_zero, List.set_cons_succ])
          have of_35 := Lib.hid own_35
          have ot_35 := Lib.hid (own_grown ot_34.out gr_35 (fun k hk hr => (own_own_ne ot_34.out of_34.out (by decide) k hk) hr))
          have op_35 := Lib.hid (own_grown op_34.out gr_35 (fun k hk hr => SP0.out k hr hk))
          have n20_35 := Lib.hid (cell_grown n20_34.out gr_35 (fun hr => by have := (Yof.out _ hr); have := BB0.out.size; omega))
          have sp_35 : Hid (∀ k, Value.ownBlock v_35 = some k → (Value.slice Ap nf cP).ownBlock ≠ some k) := Lib.hid (sep_new1 SP0.out op_34.out at_35)
          clear own_35 gr_35 at_35
          refine wpAnyH_ready (rs := [21]) (by kernel_rfl) (by simp) ?_
          refine AllReadyH.cons (o := { dst := some 75, op := Go.Op.call { callee := Go.Callee.builtin Go.Builtin.append, args := #[Go.Operand.tmp 72, Go.Operand.tmp 74], argTypes := #[77, 77] }, type := 77, pos := _, after := #[{ on := 18, ground := Go.Ground.data }, { on := 20, ground := Go.Ground.data }, { on := 17, ground := Go.Ground.chain }], guard := none }) rfl (fun K hK => ?_) AllReadyH.nil
          rw [if_pos (by rfl)]
          refine wp_append_at (.tmp 72) (.tmp 74) 77 rfl Bt 3 j0 (.int .i64 0) 8 Try.underlying77 hj0 hy0 hy1 hy2 rfl _ nf (il pl) rfl op_35.out ⟨w_0.heap.size, 0, none⟩ 1 1 [.int .i64 nt] rfl rfl (news1 n20_35.out) (one1 nt) (by unfold maxLen; omega) (by omega) (bsize bc_35.out) ?_
          intro v_36 w_36 own_36 gr_36 at_36
          have bc_36 : Hid (Below Bt w w_36) := Lib.hid (grown_b bc_35.out op_35.out gr_36)
          refine hK.out _ _ (KH.out _ bc_36.out) (fun hHeld_36 => ?_)
          clear hK K
          (try simp only [Act.put, List.setIfInBounds_toArray, List.set_cons_zero, List.set_cons_succ])
          have op_36 := Lib.hid own_36
          have ot_36 := Lib.hid (own_grown ot_35.out gr_36 (fun k hk hr => (own_own_ne ot_35.out op_35.out (by decide) k hk) hr))
          have of_36 := Lib.hid (own_grown of_35.out gr_36 (fun k hk hr => sp_35.out k hk hr))
          have sp_36 : Hid (∀ k, Value.ownBlock v_35 = some k → v_36.ownBlock ≠ some k) := Lib.hid (sep_new2 sp_35.out of_35.out at_36)
          clear own_36 gr_36 at_36
          refine wpAnyH_take (i := 22) (oi := { dst := some 10, op := Go.Op.assign (Go.Operand.tmp 55), type := 27, pos := _, after := #[{ on := 1, ground := Go.Ground.data }, { on := 21, ground := Go.Ground.chain }, { on := 0, ground := Go.Ground.phase }, { on := 1, ground := Go.Ground.phase }, { on := 2, ground := Go.Ground.textOnly Go.Departure.lateStores }, { on := 3, ground := Go.Ground.textOnly Go.Departure.lateStores }, { on := 4, ground := Go.Ground.textOnly Go.Departure.lateStores }, { on := 5, ground := Go.Ground.textOnly Go.Departure.lateStores }, { on := 6, ground := Go.Ground.textOnly Go.Departure.lateStores }, { on := 7, ground := Go.Ground.textOnly Go.Departure.lateStores }, { on := 8, ground := Go.Ground.textOnly Go.Departure.lateStores }, { on := 9, ground := Go.Ground.textOnly Go.Departure.lateStores }, { on := 10, ground := Go.Ground.textOnly Go.Departure.lateStores }, { on := 11, ground := Go.Ground.textOnly Go.Departure.lateStores }, { on := 12, ground := Go.Ground.textOnly Go.Departure.lateStoresUnsure }, { on := 13, ground := Go.Ground.textOnly Go.Departure.lateStoresUnsure }, { on := 14, ground := Go.Ground.textOnly Go.Departure.lateStores }, { on := 15, ground := Go.Ground.textOnly Go.Departure.lateStores }, { on := 16, ground := Go.Ground.textOnly Go.Departure.lateStores }, { on := 17, ground := Go.Ground.textOnly Go.Departure.lateStoresUnsure }, { on := 18, ground := Go.Ground.textOnly Go.Departure.lateStores }, { on := 19, ground := Go.Ground.textOnly Go.Departure.lateStores }, { on := 20, ground := Go.Ground.textOnly Go.Departure.lateStores }, { on := 21, ground := Go.Ground.textOnly Go.Departure.lateStoresUnsure }], guard := none }) (v := ?ve3622) rfl (by kernel_rfl) (by kernel_rfl) (by kernel_rfl) (fun _ _ _ h => h) (Or.inl ⟨by rfl, ?hye3622⟩) (by assumption) ?_
          case hye3622 => (intro wz hSw; (try dsimp only at hSw); go_simp; try with_reducible rfl)
          (try simp only [Act.put, List.setIfInBounds_toArray, List.set_cons_zero, List.set_cons_succ])
          refine wpAnyH_take (i := 23) (oi := { dst := some 11, op := Go.Op.assign (Go.Operand.tmp 67), type := 45, pos := _, after := #[{ on := 13, ground := Go.Ground.data }, { on := 22, ground := Go.Ground.chain }, { on := 0, ground := Go.Ground.phase }, { on := 1, ground := Go.Ground.phase }, { on := 2, ground := Go.Ground.phase }, { on := 3, ground := Go.Ground.phase }, { on := 4, ground := Go.Ground.phase }, { on := 5, ground := Go.Ground.phase }, { on := 6, ground := Go.Ground.phase }, { on := 7, ground := Go.Ground.phase }, { on := 8, ground := Go.Ground.phase }, { on := 9, ground := Go.Ground.phase }, { on := 10, ground := Go.Ground.phase }, { on := 11, ground := Go.Ground.phase }, { on := 12, ground := Go.Ground.phase }, { on := 13, ground := Go.Ground.phase }, { on := 14, ground := Go.Ground.textOnly Go.Departure.lateStores }, { on := 15, ground := Go.Ground.textOnly Go.Departure.lateStores }, { on := 16, ground := Go.Ground.textOnly Go.Departure.lateStores }, { on := 17, ground := Go.Ground.textOnly Go.Departure.lateStoresUnsure }, { on := 18, ground := Go.Ground.textOnly Go.Departure.lateStores }, { on := 19, ground := Go.Ground.textOnly Go.Departure.lateStores }, { on := 20, ground := Go.Ground.textOnly Go.Departure.lateStores }, { on := 21, ground := Go.Ground.textOnly Go.Departure.lateStoresUnsure }, { on := 22, ground := Go.Ground.phase }], guard := none }) (v := ?ve3623) rfl (by kernel_rfl) (by kernel_rfl) (by kernel_rfl) (fun _ _ _ h => h) (Or.inl ⟨by rfl, ?hye3623⟩) (by assumption) ?_
          case hye3623 => (intro wz hSw; (try dsimp only at hSw); go_simp; try with_reducible rfl)
          (try simp only [Act.put, List.setIfInBounds_toArray, List.set_cons_zero, List.set_cons_succ])
          refine wpAnyH_take (i := 24) (oi := { dst := some 12, op := Go.Op.assign (Go.Operand.tmp 71), type := 77, pos := _, after := #[{ on := 17, ground := Go.Ground.data }, { on := 23, ground := Go.Ground.chain }, { on := 0, ground := Go.Ground.phase }, { on := 1, ground := Go.Ground.phase }, { on := 2, ground := Go.Ground.phase }, { on := 3, ground := Go.Ground.phase }, { on := 4, ground := Go.Ground.phase }, { on := 5, ground := Go.Ground.phase }, { on := 6, ground := Go.Ground.phase }, { on := 7, ground := Go.Ground.phase }, { on := 8, ground := Go.Ground.phase }, { on := 9, ground := Go.Ground.phase }, { on := 10, ground := Go.Ground.phase }, { on := 11, ground := Go.Ground.phase }, { on := 12, ground := Go.Ground.phase }, { on := 13, ground := Go.Ground.phase }, { on := 14, ground := Go.Ground.phase }, { on := 15, ground := Go.Ground.phase }, { on := 16, ground := Go.Ground.phase }, { on := 17, ground := Go.Ground.phase }, { on := 18, ground := Go.Ground.textOnly Go.Departure.lateStores }, { on := 19, ground := Go.Ground.textOnly Go.Departure.lateStores }, { on := 20, ground := Go.Ground.textOnly Go.Departure.lateStores }, { on := 21, ground := Go.Ground.textOnly Go.Departure.lateStoresUnsure }, { on := 22, ground := Go.Ground.phase }, { on := 23, ground := Go.Ground.phase }], guard := none }) (v := ?ve3624) rfl (by kernel_rfl) (by kernel_rfl) (by kernel_rfl) (fun _ _ _ h => h) (Or.inl ⟨by rfl, ?hye3624⟩) (by assumption) ?_
          case hye3624 => (intro wz hSw; (try dsimp only at hSw); go_simp; try with_reducible rfl)
          (try simp only [Act.put, List.setIfInBounds_toArray, List.set_cons_zero, List.set_cons_succ])
          refine wpAnyH_take (i := 25) (oi := { dst := some 13, op := Go.Op.assign (Go.Operand.tmp 75), type := 77, pos := _, after := #[{ on := 21, ground := Go.Ground.data }, { on := 24, ground := Go.Ground.chain }, { on := 0, ground := Go.Ground.phase }, { on := 1, ground := Go.Ground.phase }, { on := 2, ground := Go.Ground.phase }, { on := 3, ground := Go.Ground.phase }, { on := 4, ground := Go.Ground.phase }, { on := 5, ground := Go.Ground.phase }, { on := 6, ground := Go.Ground.phase }, { on := 7, ground := Go.Ground.phase }, { on := 8, ground := Go.Ground.phase }, { on := 9, ground := Go.Ground.phase }, { on := 10, ground := Go.Ground.phase }, { on := 11, ground := Go.Ground.phase }, { on := 12, ground := Go.Ground.phase }, { on := 13, ground := Go.Ground.phase }, { on := 14, ground := Go.Ground.phase }, { on := 15, ground := Go.Ground.phase }, { on := 16, ground := Go.Ground.phase }, { on := 17, ground := Go.Ground.phase }, { on := 18, ground := Go.Ground.phase }, { on := 19, ground := Go.Ground.phase }, { on := 20, ground := Go.Ground.phase }, { on := 21, ground := Go.Ground.phase }, { on := 22, ground := Go.Ground.phase }, { on := 23, ground := Go.Ground.phase }, { on := 24, ground := Go.Ground.phase }], guard := none }) (v := ?ve3625) rfl (by kernel_rfl) (by kernel_rfl) (by kernel_rfl) (fun _ _ _ h => h) (Or.inl ⟨by rfl, ?hye3625⟩) (by assumption) ?_
          case hye3625 => (intro wz hSw; (try dsimp only at hSw); go_simp; try with_reducible rfl)
          (try simp only [Act.put, List.setIfInBounds_toArray, List.set_cons_zero, List.set_cons_succ])
          refine wpAnyH_done (by kernel_rfl) ?_ _
          go_wp2
          exact bodyPost_ret (res47 rfl rfl rfl rfl) rfl ⟨_, _, _, fr ++ [(a : Int)], pl ++ [(nt : Int)], by rw [HE.out.1]; rfl, Lib.hid (FIN.out _ _ _ _ bc_36.out ot_36.out of_36.out op_36.out sp_36.out), bc_36⟩
        refine AllReadyH.cons (o := { dst := some 70, op := Go.Op.buildSlice 77 1 #[(0, Go.Operand.tmp 69)], type := 77, pos := _, after := #[{ on := 15, ground := Go.Ground.data }], guard := none }) rfl (fun K hK => ?_) AllReadyH.nil
        go_simp
        have bb_38 : Hid (Below Bt w (w_32.alloc (.cells #[.int .i64 a] 3)) ∧ w_32.heap.size < (w_32.alloc (.cells #[.int .i64 a] 3)).heap.size) := Lib.hid ⟨below_then bc_32.out (below_alloc w_32 _) (bsize bc_32.out), by show _ < (Array.push _ _).size; simp⟩
        refine hK.out _ _ (KH.out _ bb_38.out.1) (fun hHeld_38 => ?_)
        clear hK K
        (try simp only [Act.put, List.setIfInBounds_toArray, List.set_cons_zero, List.set_cons_succ])
        obtain ⟨w_38, hw_38⟩ : ∃ z, z = w_32.alloc (.cells #[.int .i64 a] 3) := ⟨_, rfl⟩
        have nc_38 : Hid (w_38.cell? ⟨w_32.heap.size, 0, none⟩ = some (.int .i64 a)) := Lib.hid (by rw [hw_38]; have z := new_cell w_32 (.int .i64 a) 3; rw [Go.WideShapes.add_plain] at z; exact z)
        have bc_38 : Hid (Below Bt w w_38) := Lib.hid (by rw [hw_38]; exact bb_38.out.1)
        have bl_38 : Hid (Below w_32.heap.size w_32 w_38) := Lib.hid (by rw [hw_38]; exact below_alloc w_32 _)
        rw [← hw_38] at hHeld_38 ⊢
        clear bb_38 hw_38
        have ot_38 := Lib.hid (own_below ot_32.out bl_38.out)
        have of_38 := Lib.hid (own_below of_32.out bl_38.out)
        have op_38 := Lib.hid (own_below op_32.out bl_38.out)
        have n20_38 := Lib.hid (cell_below nc_32.out bl_38.out)
        refine wpAnyH_ready (rs := [13]) (by kernel_rfl) (by simp) ?_
        refine AllReadyH.cons (o := { dst := some 67, op := Go.Op.call { callee := Go.Callee.builtin Go.Builtin.append, args := #[Go.Operand.tmp 56, Go.Operand.tmp 66], argTypes := #[45, 45] }, type := 45, pos := _, after := #[{ on := 2, ground := Go.Ground.data }, { on := 12, ground := Go.Ground.data }, { on := 1, ground := Go.Ground.chain }], guard := none }) rfl (fun K hK => ?_) AllReadyH.nil
        rw [if_pos (by rfl)]
        refine wp_append_at (.tmp 56) (.tmp 66) 45 rfl Bt 27 i0 (.int .u64 0) 8 Try.underlying45 hi0 hz0 hz1 hz2 rfl _ nt (wd s.T.ws) rfl ot_38.out ⟨g, off, none⟩ (sz + 1) (c0 - a) (wd (F.ws.getD a 0 :: objOf F a)) rfl (by rw [wd_len]; exact NWL.out) (NW.out _ bc_38.out) (one_wd _) (by unfold maxLen; omega) (by omega) (bsize bc_38.out) ?_
        intro v_39 w_39 own_39 gr_39 at_39
        have bc_39 : Hid (Below Bt w w_39) := Lib.hid (grown_b bc_38.out ot_38.out gr_39)
        refine hK.out _ _ (KH.out _ bc_39.out) (fun hHeld_39 => ?_)
        clear hK K
        (try simp only [Act.put, List.setIfInBounds_toArray, List.set_cons_zero, List.set_cons_succ])
        have ot_39 := Lib.hid own_39
        have of_39 := Lib.hid (own_grown of_38.out gr_39 (fun k hk hr => (own_own_ne of_38.out ot_38.out (by decide) k hk) hr))
        have op_39 := Lib.hid (own_grown op_38.out gr_39 (fun k hk hr => (own_own_ne op_38.out ot_38.out (by decide) k hk) hr))
        have n16_39 := Lib.hid (cell_grown nc_38.out gr_39 (fun hr => by have := (Yot.out _ hr); have := bc_32.out.size; omega))
        have n20_39 := Lib.hid (cell_grown n20_38.out gr_39 (fun hr => by have := (Yot.out _ hr); have := BB0.out.size; omega))
        clear own_39 gr_39 at_39
        refine wpAnyH_ready (rs := [17]) (by kernel_rfl) (by simp) ?_
        refine AllReadyH.cons (o := { dst := some 71, op := Go.Op.call { callee := Go.Callee.builtin Go.Builtin.append, args := #[Go.Operand.tmp 68, Go.Operand.tmp 70], argTypes := #[77, 77] }, type := 77, pos := _, after := #[{ on := 14, ground := Go.Ground.data }, { on := 16, ground := Go.Ground.data }, { on := 13, ground := Go.Ground.chain }], guard := none }) rfl (fun K hK => ?_) AllReadyH.nil
        rw [if_pos (by rfl)]
        refine wp_append_at (.tmp 68) (.tmp 70) 77 rfl Bt 3 j0 (.int .i64 0) 8 Try.underlying77 hj0 hy0 hy1 hy2 rfl _ nf (il fr) rfl of_39.out ⟨w_32.heap.size, 0, none⟩ 1 1 [.int .i64 a] rfl rfl (news1 n16_39.out) (one1 a) (by unfold maxLen; omega) (by omega) (bsize bc_39.out) ?_
        intro v_40 w_40 own_40 gr_40 at_40
        have bc_40 : Hid (Below Bt w w_40) := Lib.hid (grown_b bc_39.out of_39.out gr_40)
        refine hK.out _ _ (KH.out _ bc_40.out) (fun hHeld_40 => ?_)
        clear hK K
        (try simp only [Act.put, List.setIfInBounds_toArray, List.set_cons_zero, List.set_cons_succ])
        have of_40 := Lib.hid own_40
        have ot_40 := Lib.hid (own_grown ot_39.out gr_40 (fun k hk hr => (own_own_ne ot_39.out of_39.out (by decide) k hk) hr))
        have op_40 := Lib.hid (own_grown op_39.out gr_40 (fun k hk hr => SP0.out k hr hk))
        have n20_40 := Lib.hid (cell_grown n20_39.out gr_40 (fun hr => by have := (Yof.out _ hr); have := BB0.out.size; omega))
        have sp_40 : Hid (∀ k, Value.ownBlock v_40 = some k → (Value.slice Ap nf cP).ownBlock ≠ some k) := Lib.hid (sep_new1 SP0.out op_39.out at_40)
        clear own_40 gr_40 at_40
        refine wpAnyH_ready (rs := [21]) (by kernel_rfl) (by simp) ?_
        refine AllReadyH.cons (o := { dst := some 75, op := Go.Op.call { callee := Go.Callee.builtin Go.Builtin.append, args := #[Go.Operand.tmp 72, Go.Operand.tmp 74], argTypes := #[77, 77] }, type := 77, pos := _, after := #[{ on := 18, ground := Go.Ground.data }, { on := 20, ground := Go.Ground.data }, { on := 17, ground := Go.Ground.chain }], guard := none }) rfl (fun K hK => ?_) AllReadyH.nil
        rw [if_pos (by rfl)]
        refine wp_append_at (.tmp 72) (.tmp 74) 77 rfl Bt 3 j0 (.int .i64 0) 8 Try.underlying77 hj0 hy0 hy1 hy2 rfl _ nf (il pl) rfl op_40.out ⟨w_0.heap.size, 0, none⟩ 1 1 [.int .i64 nt] rfl rfl (news1 n20_40.out) (one1 nt) (by unfold maxLen; omega) (by omega) (bsize bc_40.out) ?_
        intro v_41 w_41 own_41 gr_41 at_41
        have bc_41 : Hid (Below Bt w w_41) := Lib.hid (grown_b bc_40.out op_40.out gr_41)
        refine hK.out _ _ (KH.out _ bc_41.out) (fun hHeld_41 => ?_)
        clear hK K
        (try simp only [Act.put, List.setIfInBounds_toArray, List.set_cons_zero, List.set_cons_succ])
        have op_41 := Lib.hid own_41
        have ot_41 := Lib.hid (own_grown ot_40.out gr_41 (fun k hk hr => (own_own_ne ot_40.out op_40.out (by decide) k hk) hr))
        have of_41 := Lib.hid (own_grown of_40.out gr_41 (fun k hk hr => sp_40.out k hk hr))
        have sp_41 : Hid (∀ k, Value.ownBlock v_40 = some k → v_41.ownBlock ≠ some k) := Lib.hid (sep_new2 sp_40.out of_40.out at_41)
        clear own_41 gr_41 at_41
        refine wpAnyH_take (i := 22) (oi := { dst := some 10, op := Go.Op.assign (Go.Operand.tmp 55), type := 27, pos := _, after := #[{ on := 1, ground := Go.Ground.data }, { on := 21, ground := Go.Ground.chain }, { on := 0, ground := Go.Ground.phase }, { on := 1, ground := Go.Ground.phase }, { on := 2, ground := Go.Ground.textOnly Go.Departure.lateStores }, { on := 3, ground := Go.Ground.textOnly Go.Departure.lateStores }, { on := 4, ground := Go.Ground.textOnly Go.Departure.lateStores }, { on := 5, ground := Go.Ground.textOnly Go.Departure.lateStores }, { on := 6, ground := Go.Ground.textOnly Go.Departure.lateStores }, { on := 7, ground := Go.Ground.textOnly Go.Departure.lateStores }, { on := 8, ground := Go.Ground.textOnly Go.Departure.lateStores }, { on := 9, ground := Go.Ground.textOnly Go.Departure.lateStores }, { on := 10, ground := Go.Ground.textOnly Go.Departure.lateStores }, { on := 11, ground := Go.Ground.textOnly Go.Departure.lateStores }, { on := 12, ground := Go.Ground.textOnly Go.Departure.lateStoresUnsure }, { on := 13, ground := Go.Ground.textOnly Go.Departure.lateStoresUnsure }, { on := 14, ground := Go.Ground.textOnly Go.Departure.lateStores }, { on := 15, ground := Go.Ground.textOnly Go.Departure.lateStores }, { on := 16, ground := Go.Ground.textOnly Go.Departure.lateStores }, { on := 17, ground := Go.Ground.textOnly Go.Departure.lateStoresUnsure }, { on := 18, ground := Go.Ground.textOnly Go.Departure.lateStores }, { on := 19, ground := Go.Ground.textOnly Go.Departure.lateStores }, { on := 20, ground := Go.Ground.textOnly Go.Departure.lateStores }, { on := 21, ground := Go.Ground.textOnly Go.Departure.lateStoresUnsure }], guard := none }) (v := ?ve4122) rfl (by kernel_rfl) (by kernel_rfl) (by kernel_rfl) (fun _ _ _ h => h) (Or.inl ⟨by rfl, ?hye4122⟩) (by assumption) ?_
        case hye4122 => (intro wz hSw; (try dsimp only at hSw); go_simp; try with_reducible rfl)
        (try simp only [Act.put, List.setIfInBounds_toArray, List.set_cons_zero, List.set_cons_succ])
        refine wpAnyH_take (i := 23) (oi := { dst := some 11, op := Go.Op.assign (Go.Operand.tmp 67), type := 45, pos := _, after := #[{ on := 13, ground := Go.Ground.data }, { on := 22, ground := Go.Ground.chain }, { on := 0, ground := Go.Ground.phase }, { on := 1, ground := Go.Ground.phase }, { on := 2, ground := Go.Ground.phase }, { on := 3, ground := Go.Ground.phase }, { on := 4, ground := Go.Ground.phase }, { on := 5, ground := Go.Ground.phase }, { on := 6, ground := Go.Ground.phase }, { on := 7, ground := Go.Ground.phase }, { on := 8, ground := Go.Ground.phase }, { on := 9, ground := Go.Ground.phase }, { on := 10, ground := Go.Ground.phase }, { on := 11, ground := Go.Ground.phase }, { on := 12, ground := Go.Ground.phase }, { on := 13, ground := Go.Ground.phase }, { on := 14, ground := Go.Ground.textOnly Go.Departure.lateStores }, { on := 15, ground := Go.Ground.textOnly Go.Departure.lateStores }, { on := 16, ground := Go.Ground.textOnly Go.Departure.lateStores }, { on := 17, ground := Go.Ground.textOnly Go.Departure.lateStoresUnsure }, { on := 18, ground := Go.Ground.textOnly Go.Departure.lateStores }, { on := 19, ground := Go.Ground.textOnly Go.Departure.lateStores }, { on := 20, ground := Go.Ground.textOnly Go.Departure.lateStores }, { on := 21, ground := Go.Ground.textOnly Go.Departure.lateStoresUnsure }, { on := 22, ground := Go.Ground.phase }], guard := none }) (v := ?ve4123) rfl (by kernel_rfl) (by kernel_rfl) (by kernel_rfl) (fun _ _ _ h => h) (Or.inl ⟨by rfl, ?hye4123⟩) (by assumption) ?_
        case hye4123 => (intro wz hSw; (try dsimp only at hSw); go_simp; try with_reducible rfl)
        (try simp only [Act.put, List.setIfInBounds_toArray, List.set_cons_zero, List.set_cons_succ])
        refine wpAnyH_take (i := 24) (oi := { dst := some 12, op := Go.Op.assign (Go.Operand.tmp 71), type := 77, pos := _, after := #[{ on := 17, ground := Go.Ground.data }, { on := 23, ground := Go.Ground.chain }, { on := 0, ground := Go.Ground.phase }, { on := 1, ground := Go.Ground.phase }, { on := 2, ground := Go.Ground.phase }, { on := 3, ground := Go.Ground.phase }, { on := 4, ground := Go.Ground.phase }, { on := 5, ground := Go.Ground.phase }, { on := 6, ground := Go.Ground.phase }, { on := 7, ground := Go.Ground.phase }, { on := 8, ground := Go.Ground.phase }, { on := 9, ground := Go.Ground.phase }, { on := 10, ground := Go.Ground.phase }, { on := 11, ground := Go.Ground.phase }, { on := 12, ground := Go.Ground.phase }, { on := 13, ground := Go.Ground.phase }, { on := 14, ground := Go.Ground.phase }, { on := 15, ground := Go.Ground.phase }, { on := 16, ground := Go.Ground.phase }, { on := 17, ground := Go.Ground.phase }, { on := 18, ground := Go.Ground.textOnly Go.Departure.lateStores }, { on := 19, ground := Go.Ground.textOnly Go.Departure.lateStores }, { on := 20, ground := Go.Ground.textOnly Go.Departure.lateStores }, { on := 21, ground := Go.Ground.textOnly Go.Departure.lateStoresUnsure }, { on := 22, ground := Go.Ground.phase }, { on := 23, ground := Go.Ground.phase }], guard := none }) (v := ?ve4124) rfl (by kernel_rfl) (by kernel_rfl) (by kernel_rfl) (fun _ _ _ h => h) (Or.inl ⟨by rfl, ?hye4124⟩) (by assumption) ?_
        case hye4124 => (intro wz hSw; (try dsimp only at hSw); go_simp; try with_reducible rfl)
        (try simp only [Act.put, List.setIfInBounds_toArray, List.set_cons_zero, List.set_cons_succ])
        refine wpAnyH_take (i := 25) (oi := { dst := some 13, op := Go.Op.assign (Go.Operand.tmp 75), type := 77, pos := _, after := #[{ on := 21, ground := Go.Ground.data }, { on := 24, ground := Go.Ground.chain }, { on := 0, ground := Go.Ground.phase }, { on := 1, ground := Go.Ground.phase }, { on := 2, ground := Go.Ground.phase }, { on := 3, ground := Go.Ground.phase }, { on := 4, ground := Go.Ground.phase }, { on := 5, ground := Go.Ground.phase }, { on := 6, ground := Go.Ground.phase }, { on := 7, ground := Go.Ground.phase }, { on := 8, ground := Go.Ground.phase }, { on := 9, ground := Go.Ground.phase }, { on := 10, ground := Go.Ground.phase }, { on := 11, ground := Go.Ground.phase }, { on := 12, ground := Go.Ground.phase }, { on := 13, ground := Go.Ground.phase }, { on := 14, ground := Go.Ground.phase }, { on := 15, ground := Go.Ground.phase }, { on := 16, ground := Go.Ground.phase }, { on := 17, ground := Go.Ground.phase }, { on := 18, ground := Go.Ground.phase }, { on := 19, ground := Go.Ground.phase }, { on := 20, ground := Go.Ground.phase }, { on := 21, ground := Go.Ground.phase }, { on := 22, ground := Go.Ground.phase }, { on := 23, ground := Go.Ground.phase }, { on := 24, ground := Go.Ground.phase }], guard := none }) (v := ?ve4125) rfl (by kernel_rfl) (by kernel_rfl) (by kernel_rfl) (fun _ _ _ h => h) (Or.inl ⟨by rfl, ?hye4125⟩) (by assumption) ?_
        case hye4125 => (intro wz hSw; (try dsimp only at hSw); go_simp; try with_reducible rfl)
        (try simp only [Act.put, List.setIfInBounds_toArray, List.set_cons_zero, List.set_cons_succ])
        refine wpAnyH_done (by kernel_rfl) ?_ _
        go_wp2
        exact bodyPost_ret (res47 rfl rfl rfl rfl) rfl ⟨_, _, _, fr ++ [(a : Int)], pl ++ [(nt : Int)], by rw [HE.out.1]; rfl, Lib.hid (FIN.out _ _ _ _ bc_41.out ot_41.out of_41.out op_41.out sp_41.out), bc_41⟩
      refine AllReadyH.cons (o := { dst := some 70, op := Go.Op.buildSlice 77 1 #[(0, Go.Operand.tmp 69)], type := 77, pos := _, after := #[{ on := 15, ground := Go.Ground.data }], guard := none }) rfl (fun K hK => ?_) ?_
      · go_simp
        have bb_43 : Hid (Below Bt w (w_0.alloc (.cells #[.int .i64 a] 3)) ∧ w_0.heap.size < (w_0.alloc (.cells #[.int .i64 a] 3)).heap.size) := Lib.hid ⟨below_then BB0.out (below_alloc w_0 _) (bsize BB0.out), by show _ < (Array.push _ _).size; simp⟩
        refine hK.out _ _ (KH.out _ bb_43.out.1) (fun hHeld_43 => ?_)
        clear hK K
        (try simp only [Act.put, List.setIfInBounds_toArray, List.set_cons_zero, List.set_cons_succ])
        obtain ⟨w_43, hw_43⟩ : ∃ z, z = w_0.alloc (.cells #[.int .i64 a] 3) := ⟨_, rfl⟩
        have nc_43 : Hid (w_43.cell? ⟨w_0.heap.size, 0, none⟩ = some (.int .i64 a)) := Lib.hid (by rw [hw_43]; have z := new_cell w_0 (.int .i64 a) 3; rw [Go.WideShapes.add_plain] at z; exact z)
        have bc_43 : Hid (Below Bt w w_43) := Lib.hid (by rw [hw_43]; exact bb_43.out.1)
        have bl_43 : Hid (Below w_0.heap.size w_0 w_43) := Lib.hid (by rw [hw_43]; exact below_alloc w_0 _)
        rw [← hw_43] at hHeld_43 ⊢
        clear bb_43 hw_43
        have ot_43 := Lib.hid (own_below OT0.out bl_43.out)
        have of_43 := Lib.hid (own_below OF0.out bl_43.out)
        have op_43 := Lib.hid (own_below OP0.out bl_43.out)
        refine wpAnyH_ready (rs := [1, 20]) (by kernel_rfl) (by simp) ?_
        refine AllReadyH.cons (o := { dst := some 55, op := Go.Op.call { callee := Go.Callee.value (Go.Operand.func 45), args := #[Go.Operand.tmp 54], argTypes := #[3] }, type := 27, pos := _, after := #[{ on := 0, ground := Go.Ground.data }], guard := none }) rfl (fun K hK => ?_) ?_
        · rw [if_pos (by rfl)]
          go_simp
          refine (PT.out _).mono ?_; rintro e w_44 ⟨rfl, heq_44⟩
          subst heq_44
          go_wp2_with fail
          refine hK.out _ _ (KH.out _ bc_43.out) (fun hHeld_44 => ?_)
          clear hK K
          (try simp only [Act.put, List.setIfInBounds_toArray, List.set_cons_zero, List.set_cons_succ])
          refine wpAnyH_ready (rs := [13, 20]) (by kernel_rfl) (by simp) ?_
          refine AllReadyH.cons (o := { dst := some 67, op := Go.Op.call { callee := Go.Callee.builtin Go.Builtin.append, args := #[Go.Operand.tmp 56, Go.Operand.tmp 66], argTypes := #[45, 45] }, type := 45, pos := _, after := #[{ on := 2, ground := Go.Ground.data }, { on := 12, ground := Go.Ground.data }, { on := 1, ground := Go.Ground.chain }], guard := none }) rfl (fun K hK => ?_) ?_
          · rw [if_pos (by rfl)]
            refine wp_append_at (.tmp 56) (.tmp 66) 45 rfl Bt 27 i0 (.int .u64 0) 8 Try.underlying45 hi0 hz0 hz1 hz2 rfl _ nt (wd s.T.ws) rfl ot_43.out ⟨g, off, none⟩ (sz + 1) (c0 - a) (wd (F.ws.getD a 0 :: objOf F a)) rfl (by rw [wd_len]; exact NWL.out) (NW.out _ bc_43.out) (one_wd _) (by unfold maxLen; omega) (by omega) (bsize bc_43.out) ?_
            intro v_45 w_45 own_45 gr_45 at_45
            have bc_45 : Hid (Below Bt w w_45) := Lib.hid (grown_b bc_43.out ot_43.out gr_45)
            refine hK.out _ _ (KH.out _ bc_45.out) (fun hHeld_45 => ?_)
            clear hK K
            (try simp only [Act.put, List.setIfInBounds_toArray, List.set_cons_zero, List.set_cons_succ])
            have ot_45 := Lib.hid own_45
            have of_45 := Lib.hid (own_grown of_43.out gr_45 (fun k hk hr => (own_own_ne of_43.out ot_43.out (by decide) k hk) hr))
            have op_45 := Lib.hid (own_grown op_43.out gr_45 (fun k hk hr => (own_own_ne op_43.out ot_43.out (by decide) k hk) hr))
            have n16_45 := Lib.hid (cell_grown nc_43.out gr_45 (fun hr => by have := (Yot.out _ hr); have := BB0.out.size; omega))
            clear own_45 gr_45 at_45
            refine wpAnyH_ready (rs := [17, 20]) (by kernel_rfl) (by simp) ?_
            refine AllReadyH.cons (o := { dst := some 71, op := Go.Op.call { callee := Go.Callee.builtin Go.Builtin.append, args := #[Go.Operand.tmp 68, Go.Operand.tmp 70], argTypes := #[77, 77] }, type := 77, pos := _, after := #[{ on := 14, ground := Go.Ground.data }, { on := 16, ground := Go.Ground.data }, { on := 13, ground := Go.Ground.chain }], guard := none }) rfl (fun K hK => ?_) ?_
            · rw [if_pos (by rfl)]
              refine wp_append_at (.tmp 68) (.tmp 70) 77 rfl Bt 3 j0 (.int .i64 0) 8 Try.underlying77 hj0 hy0 hy1 hy2 rfl _ nf (il fr) rfl of_45.out ⟨w_0.heap.size, 0, none⟩ 1 1 [.int .i64 a] rfl rfl (news1 n16_45.out) (one1 a) (by unfold maxLen; omega) (by omega) (bsize bc_45.out) ?_
              intro v_46 w_46 own_46 gr_46 at_46
              have bc_46 : Hid (Below Bt w w_46) := Lib.hid (grown_b bc_45.out of_45.out gr_46)
              refine hK.out _ _ (KH.out _ bc_46.out) (fun hHeld_46 => ?_)
              clear hK K
              (try simp only [Act.put, List.setIfInBounds_toArray, List.set_cons_zero, List.set_cons_succ])
              have of_46 := Lib.hid own_46
              have ot_46 := Lib.hid (own_grown ot_45.out gr_46 (fun k hk hr => (own_own_ne ot_45.out of_45.out (by decide) k hk) hr))
              have op_46 := Lib.hid (own_grown op_45.out gr_46 (fun k hk hr => SP0.out k hr hk))
              have sp_46 : Hid (∀ k, Value.ownBlock v_46 = some k → (Value.slice Ap nf cP).ownBlock ≠ some k) := Lib.hid (sep_new1 SP0.out op_45.out at_46)
              clear own_46 gr_46 at_46
              refine wpAnyH_ready (rs := [20]) (by kernel_rfl) (by simp) ?_
              refine AllReadyH.cons (o := { dst := some 74, op := Go.Op.buildSlice 77 1 #[(0, Go.Operand.tmp 73)], type := 77, pos := _, after := #[{ on := 19, ground := Go.Ground.data }], guard := none }) rfl (fun K hK => ?_) AllReadyH.nil
              go_simp
              have bb_47 : Hid (Below Bt w (w_46.alloc (.cells #[.int .i64 nt] 3)) ∧ w_46.heap.size < (w_46.alloc (.cells #[.int .i64 nt] 3)).heap.size) := Lib.hid ⟨below_then bc_46.out (below_alloc w_46 _) (bsize bc_46.out), by show _ < (Array.push _ _).size; simp⟩
              refine hK.out _ _ (KH.out _ bb_47.out.1) (fun hHeld_47 => ?_)
              clear hK K
              (try simp only [Act.put, List.setIfInBounds_toArray, List.set_cons_zero, List.set_cons_succ])
              obtain ⟨w_47, hw_47⟩ : ∃ z, z = w_46.alloc (.cells #[.int .i64 nt] 3) := ⟨_, rfl⟩
              have nc_47 : Hid (w_47.cell? ⟨w_46.heap.size, 0, none⟩ = some (.int .i64 nt)) := Lib.hid (by rw [hw_47]; have z := new_cell w_46 (.int .i64 nt) 3; rw [Go.WideShapes.add_plain] at z; exact z)
              have bc_47 : Hid (Below Bt w w_47) := Lib.hid (by rw [hw_47]; exact bb_47.out.1)
              have bl_47 : Hid (Below w_46.heap.size w_46 w_47) := Lib.hid (by rw [hw_47]; exact below_alloc w_46 _)
              rw [← hw_47] at hHeld_47 ⊢
              clear bb_47 hw_47
              have ot_47 := Lib.hid (own_below ot_46.out bl_47.out)
              have of_47 := Lib.hid (own_below of_46.out bl_47.out)
              have op_47 := Lib.hid (own_below op_46.out bl_47.out)
              refine wpAnyH_ready (rs := [21]) (by kernel_rfl) (by simp) ?_
              refine AllReadyH.cons (o := { dst := some 75, op := Go.Op.call { callee := Go.Callee.builtin Go.Builtin.append, args := #[Go.Operand.tmp 72, Go.Operand.tmp 74], argTypes := #[77, 77] }, type := 77, pos := _, after := #[{ on := 18, ground := Go.Ground.data }, { on := 20, ground := Go.Ground.data }, { on := 17, ground := Go.Ground.chain }], guard := none }) rfl (fun K hK => ?_) AllReadyH.nil
              rw [if_pos (by rfl)]
              refine wp_append_at (.tmp 72) (.tmp 74) 77 rfl Bt 3 j0 (.int .i64 0) 8 Try.underlying77 hj0 hy0 hy1 hy2 rfl _ nf (il pl) rfl op_47.out ⟨w_46.heap.size, 0, none⟩ 1 1 [.int .i64 nt] rfl rfl (news1 nc_47.out) (one1 nt) (by unfold maxLen; omega) (by omega) (bsize bc_47.out) ?_
              intro v_48 w_48 own_48 gr_48 at_48
              have bc_48 : Hid (Below Bt w w_48) := Lib.hid (grown_b bc_47.out op_47.out gr_48)
              refine hK.out _ _ (KH.out _ bc_48.out) (fun hHeld_48 => ?_)
              clear hK K
              (try simp only [Act.put, List.setIfInBounds_toArray, List.set_cons_zero, List.set_cons_succ])
              have op_48 := Lib.hid own_48
              have ot_48 := Lib.hid (own_grown ot_47.out gr_48 (fun k hk hr => (own_own_ne ot_47.out op_47.out (by decide) k hk) hr))
              have of_48 := Lib.hid (own_grown of_47.out gr_48 (fun k hk hr => sp_46.out k hk hr))
              have sp_48 : Hid (∀ k, Value.ownBlock v_46 = some k → v_48.ownBlock ≠ some k) := Lib.hid (sep_new2 sp_46.out of_47.out at_48)
              clear own_48 gr_48 at_48
              refine wpAnyH_take (i := 22) (oi := { dst := some 10, op := Go.Op.assign (Go.Operand.tmp 55), type := 27, pos := _, after := #[{ on := 1, ground := Go.Ground.data }, { on := 21, ground := Go.Ground.chain }, { on := 0, ground := Go.Ground.phase }, { on := 1, ground := Go.Ground.phase }, { on := 2, ground := Go.Ground.textOnly Go.Departure.lateStores }, { on := 3, ground := Go.Ground.textOnly Go.Departure.lateStores }, { on := 4, ground := Go.Ground.textOnly Go.Departure.lateStores }, { on := 5, ground := Go.Ground.textOnly Go.Departure.lateStores }, { on := 6, ground := Go.Ground.textOnly Go.Departure.lateStores }, { on := 7, ground := Go.Ground.textOnly Go.Departure.lateStores }, { on := 8, ground := Go.Ground.textOnly Go.Departure.lateStores }, { on := 9, ground := Go.Ground.textOnly Go.Departure.lateStores }, { on := 10, ground := Go.Ground.textOnly Go.Departure.lateStores }, { on := 11, ground := Go.Ground.textOnly Go.Departure.lateStores }, { on := 12, ground := Go.Ground.textOnly Go.Departure.lateStoresUnsure }, { on := 13, ground := Go.Ground.textOnly Go.Departure.lateStoresUnsure }, { on := 14, ground := Go.Ground.textOnly Go.Departure.lateStores }, { on := 15, ground := Go.Ground.textOnly Go.Departure.lateStores }, { on := 16, ground := Go.Ground.textOnly Go.Departure.lateStores }, { on := 17, ground := Go.Ground.textOnly Go.Departure.lateStoresUnsure }, { on := 18, ground := Go.Ground.textOnly Go.Departure.lateStores }, { on := 19, ground := Go.Ground.textOnly Go.Departure.lateStores }, { on := 20, ground := Go.Ground.textOnly Go.Departure.lateStores }, { on := 21, ground := Go.Ground.textOnly Go.Departure.lateStoresUnsure }], guard := none }) (v := ?ve4822) rfl (by kernel_rfl) (by kernel_rfl) (by kernel_rfl) (fun _ _ _ h => h) (Or.inl ⟨by rfl, ?hye4822⟩) (by assumption) ?_
              case hye4822 => (intro wz hSw; (try dsimp only at hSw); go_simp; try with_reducible rfl)
              (try simp only [Act.put, List.setIfInBounds_toArray, List.set_cons_zero, List.set_cons_succ])
              refine wpAnyH_take (i := 23) (oi := { dst := some 11, op := Go.Op.assign (Go.Operand.tmp 67), type := 45, pos := _, after := #[{ on := 13, ground := Go.Ground.data }, { on := 22, ground := Go.Ground.chain }, { on := 0, ground := Go.Ground.phase }, { on := 1, ground := Go.Ground.phase }, { on := 2, ground := Go.Ground.phase }, { on := 3, ground := Go.Ground.phase }, { on := 4, ground := Go.Ground.phase }, { on := 5, ground := Go.Ground.phase }, { on := 6, ground := Go.Ground.phase }, { on := 7, ground := Go.Ground.phase }, { on := 8, ground := Go.Ground.phase }, { on := 9, ground := Go.Ground.phase }, { on := 10, ground := Go.Ground.phase }, { on := 11, ground := Go.Ground.phase }, { on := 12, ground := Go.Ground.phase }, { on := 13, ground := Go.Ground.phase }, { on := 14, ground := Go.Ground.textOnly Go.Departure.lateStores }, { on := 15, ground := Go.Ground.textOnly Go.Departure.lateStores }, { on := 16, ground := Go.Ground.textOnly Go.Departure.lateStores }, { on := 17, ground := Go.Ground.textOnly Go.Departure.lateStoresUnsure }, { on := 18, ground := Go.Ground.textOnly Go.Departure.lateStores }, { on := 19, ground := Go.Ground.textOnly Go.Departure.lateStores }, { on := 20, ground := Go.Ground.textOnly Go.Departure.lateStores }, { on := 21, ground := Go.Ground.textOnly Go.Departure.lateStoresUnsure }, { on := 22, ground := Go.Ground.phase }], guard := none }) (v := ?ve4823) rfl (by kernel_rfl) (by kernel_rfl) (by kernel_rfl) (fun _ _ _ h => h) (Or.inl ⟨by rfl, ?hye4823⟩) (by assumption) ?_
              case hye4823 => (intro wz hSw; (try dsimp only at hSw); go_simp; try with_reducible rfl)
              (try simp only [Act.put, List.setIfInBounds_toArray, List.set_cons_zero, List.set_cons_succ])
              refine wpAnyH_take (i := 24) (oi := { dst := some 12, op := Go.Op.assign (Go.Operand.tmp 71), type := 77, pos := _, after := #[{ on := 17, ground := Go.Ground.data }, { on := 23, ground := Go.Ground.chain }, { on := 0, ground := Go.Ground.phase }, { on := 1, ground := Go.Ground.phase }, { on := 2, ground := Go.Ground.phase }, { on := 3, ground := Go.Ground.phase }, { on := 4, ground := Go.Ground.phase }, { on := 5, ground := Go.Ground.phase }, { on := 6, ground := Go.Ground.phase }, { on := 7, ground := Go.Ground.phase }, { on := 8, ground := Go.Ground.phase }, { on := 9, ground := Go.Ground.phase }, { on := 10, ground := Go.Ground.phase }, { on := 11, ground := Go.Ground.phase }, { on := 12, ground := Go.Ground.phase }, { on := 13, ground := Go.Ground.phase }, { on := 14, ground := Go.Ground.phase }, { on := 15, ground := Go.Ground.phase }, { on := 16, ground := Go.Ground.phase }, { on := 17, ground := Go.Ground.phase }, { on := 18, ground := Go.Ground.textOnly Go.Departure.lateStores }, { on := 19, ground := Go.Ground.textOnly Go.Departure.lateStores }, { on := 20, ground := Go.Ground.textOnly Go.Departure.lateStores }, { on := 21, ground := Go.Ground.textOnly Go.Departure.lateStoresUnsure }, { on := 22, ground := Go.Ground.phase }, { on := 23, ground := Go.Ground.phase }], guard := none }) (v := ?ve4824) rfl (by kernel_rfl) (by kernel_rfl) (by kernel_rfl) (fun _ _ _ h => h) (Or.inl ⟨by rfl, ?hye4824⟩) (by assumption) ?_
              case hye4824 => (intro wz hSw; (try dsimp only at hSw); go_simp; try with_reducible rfl)
              (try simp only [Act.put, List.setIfInBounds_toArray, List.set_cons_zero, List.set_cons_succ])
              refine wpAnyH_take (i := 25) (oi := { dst := some 13, op := Go.Op.assign (Go.Operand.tmp 75), type := 77, pos := _, after := #[{ on := 21, ground := Go.Ground.data }, { on := 24, ground := Go.Ground.chain }, { on := 0, ground := Go.Ground.phase }, { on := 1, ground := Go.Ground.phase }, { on := 2, ground := Go.Ground.phase }, { on := 3, ground := Go.Ground.phase }, { on := 4, ground := Go.Ground.phase }, { on := 5, ground := Go.Ground.phase }, { on := 6, ground := Go.Ground.phase }, { on := 7, ground := Go.Ground.phase }, { on := 8, ground := Go.Ground.phase }, { on := 9, ground := Go.Ground.phase }, { on := 10, ground := Go.Ground.phase }, { on := 11, ground := Go.Ground.phase }, { on := 12, ground := Go.Ground.phase }, { on := 13, ground := Go.Ground.phase }, { on := 14, ground := Go.Ground.phase }, { on := 15, ground := Go.Ground.phase }, { on := 16, ground := Go.Ground.phase }, { on := 17, ground := Go.Ground.phase }, { on := 18, ground := Go.Ground.phase }, { on := 19, ground := Go.Ground.phase }, { on := 20, ground := Go.Ground.phase }, { on := 21, ground := Go.Ground.phase }, { on := 22, ground := Go.Ground.phase }, { on := 23, ground := Go.Ground.phase }, { on := 24, ground := Go.Ground.phase }], guard := none }) (v := ?ve4825) rfl (by kernel_rfl) (by kernel_rfl) (by kernel_rfl) (fun _ _ _ h => h) (Or.inl ⟨by rfl, ?hye4825⟩) (by assumption) ?_
              case hye4825 => (intro wz hSw; (try dsimp only at hSw); go_simp; try with_reducible rfl)
              (try simp only [Act.put, List.setIfInBounds_toArray, List.set_cons_zero, List.set_cons_succ])
              refine wpAnyH_done (by kernel_rfl) ?_ _
              go_wp2
              exact bodyPost_ret (res47 rfl rfl rfl rfl) rfl ⟨_, _, _, fr ++ [(a : Int)], pl ++ [(nt : Int)], by rw [HE.out.1]; rfl, Lib.hid (FIN.out _ _ _ _ bc_48.out ot_48.out of_48.out op_48.out sp_48.out), bc_48⟩
            refine AllReadyH.cons (o := { dst := some 74, op := Go.Op.buildSlice 77 1 #[(0, Go.Operand.tmp 73)], type := 77, pos := _, after := #[{ on := 19, ground := Go.Ground.data }], guard := none }) rfl (fun K hK => ?_) AllReadyH.nil
            go_simp
            have bb_50 : Hid (Below Bt w (w_45.alloc (.cells #[.int .i64 nt] 3)) ∧ w_45.heap.size < (w_45.alloc (.cells #[.int .i64 nt] 3)).heap.size) := Lib.hid ⟨below_then bc_45.out (below_alloc w_45 _) (bsize bc_45.out), by show _ < (Array.push _ _).size; simp⟩
            refine hK.out _ _ (KH.out _ bb_50.out.1) (fun hHeld_50 => ?_)
            clear hK K
            (try simp only [Act.put, List.setIfInBounds_toArray, List.set_cons_zero, List.set_cons_succ])
            obtain ⟨w_50, hw_50⟩ : ∃ z, z = w_45.alloc (.cells #[.int .i64 nt] 3) := ⟨_, rfl⟩
            have nc_50 : Hid (w_50.cell? ⟨w_45.heap.size, 0, none⟩ = some (.int .i64 nt)) := Lib.hid (by rw [hw_50]; have z := new_cell w_45 (.int .i64 nt) 3; rw [Go.WideShapes.add_plain] at z; exact z)
            have bc_50 : Hid (Below Bt w w_50) := Lib.hid (by rw [hw_50]; exact bb_50.out.1)
            have bl_50 : Hid (Below w_45.heap.size w_45 w_50) := Lib.hid (by rw [hw_50]; exact below_alloc w_45 _)
            rw [← hw_50] at hHeld_50 ⊢
            clear bb_50 hw_50
            have ot_50 := Lib.hid (own_below ot_45.out bl_50.out)
            have of_50 := Lib.hid (own_below of_45.out bl_50.out)
            have op_50 := Lib.hid (own_below op_45.out bl_50.out)
            have n16_50 := Lib.hid (cell_below n16_45.out bl_50.out)
            refine wpAnyH_ready (rs := [17]) (by kernel_rfl) (by simp) ?_
            refine AllReadyH.cons (o := { dst := some 71, op := Go.Op.call { callee := Go.Callee.builtin Go.Builtin.append, args := #[Go.Operand.tmp 68, Go.Operand.tmp 70], argTypes := #[77, 77] }, type := 77, pos := _, after := #[{ on := 14, ground := Go.Ground.data }, { on := 16, ground := Go.Ground.data }, { on := 13, ground := Go.Ground.chain }], guard := none }) rfl (fun K hK => ?_) AllReadyH.nil
            rw [if_pos (by rfl)]
            refine wp_append_at (.tmp 68) (.tmp 70) 77 rfl Bt 3 j0 (.int .i64 0) 8 Try.underlying77 hj0 hy0 hy1 hy2 rfl _ nf (il fr) rfl of_50.out ⟨w_0.heap.size, 0, none⟩ 1 1 [.int .i64 a] rfl rfl (news1 n16_50.out) (one1 a) (by unfold maxLen; omega) (by omega) (bsize bc_50.out) ?_
            intro v_51 w_51 own_51 gr_51 at_51
            have bc_51 : Hid (Below Bt w w_51) := Lib.hid (grown_b bc_50.out of_50.out gr_51)
            refine hK.out _ _ (KH.out _ bc_51.out) (fun hHeld_51 => ?_)
            clear hK K
            (try simp only [Act.put, List.setIfInBounds_toArray, List.set_cons_zero, List.set_cons_succ])
            have of_51 := Lib.hid own_51
            have ot_51 := Lib.hid (own_grown ot_50.out gr_51 (fun k hk hr => (own_own_ne ot_50.out of_50.out (by decide) k hk) hr))
            have op_51 := Lib.hid (own_grown op_50.out gr_51 (fun k hk hr => SP0.out k hr hk))
            have n20_51 := Lib.hid (cell_grown nc_50.out gr_51 (fun hr => by have := (Yof.out _ hr); have := bc_45.out.size; omega))
            have sp_51 : Hid (∀ k, Value.ownBlock v_51 = some k → (Value.slice Ap nf cP).ownBlock ≠ some k) := Lib.hid (sep_new1 SP0.out op_50.out at_51)
            clear own_51 gr_51 at_51
            refine wpAnyH_ready (rs := [21]) (by kernel_rfl) (by simp) ?_
            refine AllReadyH.cons (o := { dst := some 75, op := Go.Op.call { callee := Go.Callee.builtin Go.Builtin.append, args := #[Go.Operand.tmp 72, Go.Operand.tmp 74], argTypes := #[77, 77] }, type := 77, pos := _, after := #[{ on := 18, ground := Go.Ground.data }, { on := 20, ground := Go.Ground.data }, { on := 17, ground := Go.Ground.chain }], guard := none }) rfl (fun K hK => ?_) AllReadyH.nil
            rw [if_pos (by rfl)]
            refine wp_append_at (.tmp 72) (.tmp 74) 77 rfl Bt 3 j0 (.int .i64 0) 8 Try.underlying77 hj0 hy0 hy1 hy2 rfl _ nf (il pl) rfl op_51.out ⟨w_45.heap.size, 0, none⟩ 1 1 [.int .i64 nt] rfl rfl (news1 n20_51.out) (one1 nt) (by unfold maxLen; omega) (by omega) (bsize bc_51.out) ?_
            intro v_52 w_52 own_52 gr_52 at_52
            have bc_52 : Hid (Below Bt w w_52) := Lib.hid (grown_b bc_51.out op_51.out gr_52)
            refine hK.out _ _ (KH.out _ bc_52.out) (fun hHeld_52 => ?_)
            clear hK K
            (try simp only [Act.put, List.setIfInBounds_toArray, List.set_cons_zero, List.set_cons_succ])
            have op_52 := Lib.hid own_52
            have ot_52 := Lib.hid (own_grown ot_51.out gr_52 (fun k hk hr => (own_own_ne ot_51.out op_51.out (by decide) k hk) hr))
            have of_52 := Lib.hid (own_grown of_51.out gr_52 (fun k hk hr => sp_51.out k hk hr))
            have sp_52 : Hid (∀ k, Value.ownBlock v_51 = some k → v_52.ownBlock ≠ some k) := Lib.hid (sep_new2 sp_51.out of_51.out at_52)
            clear own_52 gr_52 at_52
            refine wpAnyH_take (i := 22) (oi := { dst := some 10, op := Go.Op.assign (Go.Operand.tmp 55), type := 27, pos := _, after := #[{ on := 1, ground := Go.Ground.data }, { on := 21, ground := Go.Ground.chain }, { on := 0, ground := Go.Ground.phase }, { on := 1, ground := Go.Ground.phase }, { on := 2, ground := Go.Ground.textOnly Go.Departure.lateStores }, { on := 3, ground := Go.Ground.textOnly Go.Departure.lateStores }, { on := 4, ground := Go.Ground.textOnly Go.Departure.lateStores }, { on := 5, ground := Go.Ground.textOnly Go.Departure.lateStores }, { on := 6, ground := Go.Ground.textOnly Go.Departure.lateStores }, { on := 7, ground := Go.Ground.textOnly Go.Departure.lateStores }, { on := 8, ground := Go.Ground.textOnly Go.Departure.lateStores }, { on := 9, ground := Go.Ground.textOnly Go.Departure.lateStores }, { on := 10, ground := Go.Ground.textOnly Go.Departure.lateStores }, { on := 11, ground := Go.Ground.textOnly Go.Departure.lateStores }, { on := 12, ground := Go.Ground.textOnly Go.Departure.lateStoresUnsure }, { on := 13, ground := Go.Ground.textOnly Go.Departure.lateStoresUnsure }, { on := 14, ground := Go.Ground.textOnly Go.Departure.lateStores }, { on := 15, ground := Go.Ground.textOnly Go.Departure.lateStores }, { on := 16, ground := Go.Ground.textOnly Go.Departure.lateStores }, { on := 17, ground := Go.Ground.textOnly Go.Departure.lateStoresUnsure }, { on := 18, ground := Go.Ground.textOnly Go.Departure.lateStores }, { on := 19, ground := Go.Ground.textOnly Go.Departure.lateStores }, { on := 20, ground := Go.Ground.textOnly Go.Departure.lateStores }, { on := 21, ground := Go.Ground.textOnly Go.Departure.lateStoresUnsure }], guard := none }) (v := ?ve5222) rfl (by kernel_rfl) (by kernel_rfl) (by kernel_rfl) (fun _ _ _ h => h) (Or.inl ⟨by rfl, ?hye5222⟩) (by assumption) ?_
            case hye5222 => (intro wz hSw; (try dsimp only at hSw); go_simp; try with_reducible rfl)
            (try simp only [Act.put, List.setIfInBounds_toArray, List.set_cons_zero, List.set_cons_succ])
            refine wpAnyH_take (i := 23) (oi := { dst := some 11, op := Go.Op.assign (Go.Operand.tmp 67), type := 45, pos := _, after := #[{ on := 13, ground := Go.Ground.data }, { on := 22, ground := Go.Ground.chain }, { on := 0, ground := Go.Ground.phase }, { on := 1, ground := Go.Ground.phase }, { on := 2, ground := Go.Ground.phase }, { on := 3, ground := Go.Ground.phase }, { on := 4, ground := Go.Ground.phase }, { on := 5, ground := Go.Ground.phase }, { on := 6, ground := Go.Ground.phase }, { on := 7, ground := Go.Ground.phase }, { on := 8, ground := Go.Ground.phase }, { on := 9, ground := Go.Ground.phase }, { on := 10, ground := Go.Ground.phase }, { on := 11, ground := Go.Ground.phase }, { on := 12, ground := Go.Ground.phase }, { on := 13, ground := Go.Ground.phase }, { on := 14, ground := Go.Ground.textOnly Go.Departure.lateStores }, { on := 15, ground := Go.Ground.textOnly Go.Departure.lateStores }, { on := 16, ground := Go.Ground.textOnly Go.Departure.lateStores }, { on := 17, ground := Go.Ground.textOnly Go.Departure.lateStoresUnsure }, { on := 18, ground := Go.Ground.textOnly Go.Departure.lateStores }, { on := 19, ground := Go.Ground.textOnly Go.Departure.lateStores }, { on := 20, ground := Go.Ground.textOnly Go.Departure.lateStores }, { on := 21, ground := Go.Ground.textOnly Go.Departure.lateStoresUnsure }, { on := 22, ground := Go.Ground.phase }], guard := none }) (v := ?ve5223) rfl (by kernel_rfl) (by kernel_rfl) (by kernel_rfl) (fun _ _ _ h => h) (Or.inl ⟨by rfl, ?hye5223⟩) (by assumption) ?_
            case hye5223 => (intro wz hSw; (try dsimp only at hSw); go_simp; try with_reducible rfl)
            (try simp only [Act.put, List.setIfInBounds_toArray, List.set_cons_zero, List.set_cons_succ])
            refine wpAnyH_take (i := 24) (oi := { dst := some 12, op := Go.Op.assign (Go.Operand.tmp 71), type := 77, pos := _, after := #[{ on := 17, ground := Go.Ground.data }, { on := 23, ground := Go.Ground.chain }, { on := 0, ground := Go.Ground.phase }, { on := 1, ground := Go.Ground.phase }, { on := 2, ground := Go.Ground.phase }, { on := 3, ground := Go.Ground.phase }, { on := 4, ground := Go.Ground.phase }, { on := 5, ground := Go.Ground.phase }, { on := 6, ground := Go.Ground.phase }, { on := 7, ground := Go.Ground.phase }, { on := 8, ground := Go.Ground.phase }, { on := 9, ground := Go.Ground.phase }, { on := 10, ground := Go.Ground.phase }, { on := 11, ground := Go.Ground.phase }, { on := 12, ground := Go.Ground.phase }, { on := 13, ground := Go.Ground.phase }, { on := 14, ground := Go.Ground.phase }, { on := 15, ground := Go.Ground.phase }, { on := 16, ground := Go.Ground.phase }, { on := 17, ground := Go.Ground.phase }, { on := 18, ground := Go.Ground.textOnly Go.Departure.lateStores }, { on := 19, ground := Go.Ground.textOnly Go.Departure.lateStores }, { on := 20, ground := Go.Ground.textOnly Go.Departure.lateStores }, { on := 21, ground := Go.Ground.textOnly Go.Departure.lateStoresUnsure }, { on := 22, ground := Go.Ground.phase }, { on := 23, ground := Go.Ground.phase }], guard := none }) (v := ?ve5224) rfl (by kernel_rfl) (by kernel_rfl) (by kernel_rfl) (fun _ _ _ h => h) (Or.inl ⟨by rfl, ?hye5224⟩) (by assumption) ?_
            case hye5224 => (intro wz hSw; (try dsimp only at hSw); go_simp; try with_reducible rfl)
            (try simp only [Act.put, List.setIfInBounds_toArray, List.set_cons_zero, List.set_cons_succ])
            refine wpAnyH_take (i := 25) (oi := { dst := some 13, op := Go.Op.assign (Go.Operand.tmp 75), type := 77, pos := _, after := #[{ on := 21, ground := Go.Ground.data }, { on := 24, ground := Go.Ground.chain }, { on := 0, ground := Go.Ground.phase }, { on := 1, ground := Go.Ground.phase }, { on := 2, ground := Go.Ground.phase }, { on := 3, ground := Go.Ground.phase }, { on := 4, ground := Go.Ground.phase }, { on := 5, ground := Go.Ground.phase }, { on := 6, ground := Go.Ground.phase }, { on := 7, ground := Go.Ground.phase }, { on := 8, ground := Go.Ground.phase }, { on := 9, ground := Go.Ground.phase }, { on := 10, ground := Go.Ground.phase }, { on := 11, ground := Go.Ground.phase }, { on := 12, ground := Go.Ground.phase }, { on := 13, ground := Go.Ground.phase }, { on := 14, ground := Go.Ground.phase }, { on := 15, ground := Go.Ground.phase }, { on := 16, ground := Go.Ground.phase }, { on := 17, ground := Go.Ground.phase }, { on := 18, ground := Go.Ground.phase }, { on := 19, ground := Go.Ground.phase }, { on := 20, ground := Go.Ground.phase }, { on := 21, ground := Go.Ground.phase }, { on := 22, ground := Go.Ground.phase }, { on := 23, ground := Go.Ground.phase }, { on := 24, ground := Go.Ground.phase }], guard := none }) (v := ?ve5225) rfl (by kernel_rfl) (by kernel_rfl) (by kernel_rfl) (fun _ _ _ h => h) (Or.inl ⟨by rfl, ?hye5225⟩) (by assumption) ?_
            case hye5225 => (intro wz hSw; (try dsimp only at hSw); go_simp; try with_reducible rfl)
            (try simp only [Act.put, List.setIfInBounds_toArray, List.set_cons_zero, List.set_cons_succ])
            refine wpAnyH_done (by kernel_rfl) ?_ _
            go_wp2
            exact bodyPost_ret (res47 rfl rfl rfl rfl) rfl ⟨_, _, _, fr ++ [(a : Int)], pl ++ [(nt : Int)], by rw [HE.out.1]; rfl, Lib.hid (FIN.out _ _ _ _ bc_52.out ot_52.out of_52.out op_52.out sp_52.out), bc_52⟩
          refine AllReadyH.cons (o := { dst := some 74, op := Go.Op.buildSlice 77 1 #[(0, Go.Operand.tmp 73)], type := 77, pos := _, after := #[{ on := 19, ground := Go.Ground.data }], guard := none }) rfl (fun K hK => ?_) AllReadyH.nil
          go_simp
          have bb_54 : Hid (Below Bt w (w_43.alloc (.cells #[.int .i64 nt] 3)) ∧ w_43.heap.size < (w_43.alloc (.cells #[.int .i64 nt] 3)).heap.size) := Lib.hid ⟨below_then bc_43.out (below_alloc w_43 _) (bsize bc_43.out), by show _ < (Array.push _ _).size; simp⟩
          refine hK.out _ _ (KH.out _ bb_54.out.1) (fun hHeld_54 => ?_)
          clear hK K
          (try simp only [Act.put, List.setIfInBounds_toArray, List.set_cons_zero, List.set_cons_succ])
          obtain ⟨w_54, hw_54⟩ : ∃ z, z = w_43.alloc (.cells #[.int .i64 nt] 3) := ⟨_, rfl⟩
          have nc_54 : Hid (w_54.cell? ⟨w_43.heap.size, 0, none⟩ = some (.int .i64 nt)) := Lib.hid (by rw [hw_54]; have z := new_cell w_43 (.int .i64 nt) 3; rw [Go.WideShapes.add_plain] at z; exact z)
          have bc_54 : Hid (Below Bt w w_54) := Lib.hid (by rw [hw_54]; exact bb_54.out.1)
          have bl_54 : Hid (Below w_43.heap.size w_43 w_54) := Lib.hid (by rw [hw_54]; exact below_alloc w_43 _)
          rw [← hw_54] at hHeld_54 ⊢
          clear bb_54 hw_54
          have ot_54 := Lib.hid (own_below ot_43.out bl_54.out)
          have of_54 := Lib.hid (own_below of_43.out bl_54.out)
          have op_54 := Lib.hid (own_below op_43.out bl_54.out)
          have n16_54 := Lib.hid (cell_below nc_43.out bl_54.out)
          refine wpAnyH_ready (rs := [13]) (by kernel_rfl) (by simp) ?_
          refine AllReadyH.cons (o := { dst := some 67, op := Go.Op.call { callee := Go.Callee.builtin Go.Builtin.append, args := #[Go.Operand.tmp 56, Go.Operand.tmp 66], argTypes := #[45, 45] }, type := 45, pos := _, after := #[{ on := 2, ground := Go.Ground.data }, { on := 12, ground := Go.Ground.data }, { on := 1, ground := Go.Ground.chain }], guard := none }) rfl (fun K hK => ?_) AllReadyH.nil
          rw [if_pos (by rfl)]
          refine wp_append_at (.tmp 56) (.tmp 66) 45 rfl Bt 27 i0 (.int .u64 0) 8 Try.underlying45 hi0 hz0 hz1 hz2 rfl _ nt (wd s.T.ws) rfl ot_54.out ⟨g, off, none⟩ (sz + 1) (c0 - a) (wd (F.ws.getD a 0 :: objOf F a)) rfl (by rw [wd_len]; exact NWL.out) (NW.out _ bc_54.out) (one_wd _) (by unfold maxLen; omega) (by omega) (bsize bc_54.out) ?_
          intro v_55 w_55 own_55 gr_55 at_55
          have bc_55 : Hid (Below Bt w w_55) := Lib.hid (grown_b bc_54.out ot_54.out gr_55)
          refine hK.out _ _ (KH.out _ bc_55.out) (fun hHeld_55 => ?_)
          clear hK K
          (try simp only [Act.put, List.setIfInBounds_toArray, List.set_cons_zero, List.set_cons_succ])
          have ot_55 := Lib.hid own_55
          have of_55 := Lib.hid (own_grown of_54.out gr_55 (fun k hk hr => (own_own_ne of_54.out ot_54.out (by decide) k hk) hr))
          have op_55 := Lib.hid (own_grown op_54.out gr_55 (fun k hk hr => (own_own_ne op_54.out ot_54.out (by decide) k hk) hr))
          have n16_55 := Lib.hid (cell_grown n16_54.out gr_55 (fun hr => by have := (Yot.out _ hr); have := BB0.out.size; omega))
          have n20_55 := Lib.hid (cell_grown nc_54.out gr_55 (fun hr => by have := (Yot.out _ hr); have := bc_43.out.size; omega))
          clear own_55 gr_55 at_55
          refine wpAnyH_ready (rs := [17]) (by kernel_rfl) (by simp) ?_
          refine AllReadyH.cons (o := { dst := some 71, op := Go.Op.call { callee := Go.Callee.builtin Go.Builtin.append, args := #[Go.Operand.tmp 68, Go.Operand.tmp 70], argTypes := #[77, 77] }, type := 77, pos := _, after := #[{ on := 14, ground := Go.Ground.data }, { on := 16, ground := Go.Ground.data }, { on := 13, ground := Go.Ground.chain }], guard := none }) rfl (fun K hK => ?_) AllReadyH.nil
          rw [if_pos (by rfl)]
          refine wp_append_at (.tmp 68) (.tmp 70) 77 rfl Bt 3 j0 (.int .i64 0) 8 Try.underlying77 hj0 hy0 hy1 hy2 rfl _ nf (il fr) rfl of_55.out ⟨w_0.heap.size, 0, none⟩ 1 1 [.int .i64 a] rfl rfl (news1 n16_55.out) (one1 a) (by unfold maxLen; omega) (by omega) (bsize bc_55.out) ?_
          intro v_56 w_56 own_56 gr_56 at_56
          have bc_56 : Hid (Below Bt w w_56) := Lib.hid (grown_b bc_55.out of_55.out gr_56)
          refine hK.out _ _ (KH.out _ bc_56.out) (fun hHeld_56 => ?_)
          clear hK K
          (try simp only [Act.put, List.setIfInBounds_toArray, List.set_cons_zero, List.set_cons_succ])
          have of_56 := Lib.hid own_56
          have ot_56 := Lib.hid (own_grown ot_55.out gr_56 (fun k hk hr => (own_own_ne ot_55.out of_55.out (by decide) k hk) hr))
          have op_56 := Lib.hid (own_grown op_55.out gr_56 (fun k hk hr => SP0.out k hr hk))
          have n20_56 := Lib.hid (cell_grown n20_55.out gr_56 (fun hr => by have := (Yof.out _ hr); have := bc_43.out.size; omega))
          have sp_56 : Hid (∀ k, Value.ownBlock v_56 = some k → (Value.slice Ap nf cP).ownBlock ≠ some k) := Lib.hid (sep_new1 SP0.out op_55.out at_56)
          clear own_56 gr_56 at_56
          refine wpAnyH_ready (rs := [21]) (by kernel_rfl) (by simp) ?_
          refine AllReadyH.cons (o := { dst := some 75, op := Go.Op.call { callee := Go.Callee.builtin Go.Builtin.append, args := #[Go.Operand.tmp 72, Go.Operand.tmp 74], argTypes := #[77, 77] }, type := 77, pos := _, after := #[{ on := 18, ground := Go.Ground.data }, { on := 20, ground := Go.Ground.data }, { on := 17, ground := Go.Ground.chain }], guard := none }) rfl (fun K hK => ?_) AllReadyH.nil
          rw [if_pos (by rfl)]
          refine wp_append_at (.tmp 72) (.tmp 74) 77 rfl Bt 3 j0 (.int .i64 0) 8 Try.underlying77 hj0 hy0 hy1 hy2 rfl _ nf (il pl) rfl op_56.out ⟨w_43.heap.size, 0, none⟩ 1 1 [.int .i64 nt] rfl rfl (news1 n20_56.out) (one1 nt) (by unfold maxLen; omega) (by omega) (bsize bc_56.out) ?_
          intro v_57 w_57 own_57 gr_57 at_57
          have bc_57 : Hid (Below Bt w w_57) := Lib.hid (grown_b bc_56.out op_56.out gr_57)
          refine hK.out _ _ (KH.out _ bc_57.out) (fun hHeld_57 => ?_)
          clear hK K
          (try simp only [Act.put, List.setIfInBounds_toArray, List.set_cons_zero, List.set_cons_succ])
          have op_57 := Lib.hid own_57
          have ot_57 := Lib.hid (own_grown ot_56.out gr_57 (fun k hk hr => (own_own_ne ot_56.out op_56.out (by decide) k hk) hr))
          have of_57 := Lib.hid (own_grown of_56.out gr_57 (fun k hk hr => sp_56.out k hk hr))
          have sp_57 : Hid (∀ k, Value.ownBlock v_56 = some k → v_57.ownBlock ≠ some k) := Lib.hid (sep_new2 sp_56.out of_56.out at_57)
          clear own_57 gr_57 at_57
          refine wpAnyH_take (i := 22) (oi := { dst := some 10, op := Go.Op.assign (Go.Operand.tmp 55), type := 27, pos := _, after := #[{ on := 1, ground := Go.Ground.data }, { on := 21, ground := Go.Ground.chain }, { on := 0, ground := Go.Ground.phase }, { on := 1, ground := Go.Ground.phase }, { on := 2, ground := Go.Ground.textOnly Go.Departure.lateStores }, { on := 3, ground := Go.Ground.textOnly Go.Departure.lateStores }, { on := 4, ground := Go.Ground.textOnly Go.Departure.lateStores }, { on := 5, ground := Go.Ground.textOnly Go.Departure.lateStores }, { on := 6, ground := Go.Ground.textOnly Go.Departure.lateStores }, { on := 7, ground := Go.Ground.textOnly Go.Departure.lateStores }, { on := 8, ground := Go.Ground.textOnly Go.Departure.lateStores }, { on := 9, ground := Go.Ground.textOnly Go.Departure.lateStores }, { on := 10, ground := Go.Ground.textOnly Go.Departure.lateStores }, { on := 11, ground := Go.Ground.textOnly Go.Departure.lateStores }, { on := 12, ground := Go.Ground.textOnly Go.Departure.lateStoresUnsure }, { on := 13, ground := Go.Ground.textOnly Go.Departure.lateStoresUnsure }, { on := 14, ground := Go.Ground.textOnly Go.Departure.lateStores }, { on := 15, ground := Go.Ground.textOnly Go.Departure.lateStores }, { on := 16, ground := Go.Ground.textOnly Go.Departure.lateStores }, { on := 17, ground := Go.Ground.textOnly Go.Departure.lateStoresUnsure }, { on := 18, ground := Go.Ground.textOnly Go.Departure.lateStores }, { on := 19, ground := Go.Ground.textOnly Go.Departure.lateStores }, { on := 20, ground := Go.Ground.textOnly Go.Departure.lateStores }, { on := 21, ground := Go.Ground.textOnly Go.Departure.lateStoresUnsure }], guard := none }) (v := ?ve5722) rfl (by kernel_rfl) (by kernel_rfl) (by kernel_rfl) (fun _ _ _ h => h) (Or.inl ⟨by rfl, ?hye5722⟩) (by assumption) ?_
          case hye5722 => (intro wz hSw; (try dsimp only at hSw); go_simp; try with_reducible rfl)
          (try simp only [Act.put, List.setIfInBounds_toArray, List.set_cons_zero, List.set_cons_succ])
          refine wpAnyH_take (i := 23) (oi := { dst := some 11, op := Go.Op.assign (Go.Operand.tmp 67), type := 45, pos := _, after := #[{ on := 13, ground := Go.Ground.data }, { on := 22, ground := Go.Ground.chain }, { on := 0, ground := Go.Ground.phase }, { on := 1, ground := Go.Ground.phase }, { on := 2, ground := Go.Ground.phase }, { on := 3, ground := Go.Ground.phase }, { on := 4, ground := Go.Ground.phase }, { on := 5, ground := Go.Ground.phase }, { on := 6, ground := Go.Ground.phase }, { on := 7, ground := Go.Ground.phase }, { on := 8, ground := Go.Ground.phase }, { on := 9, ground := Go.Ground.phase }, { on := 10, ground := Go.Ground.phase }, { on := 11, ground := Go.Ground.phase }, { on := 12, ground := Go.Ground.phase }, { on := 13, ground := Go.Ground.phase }, { on := 14, ground := Go.Ground.textOnly Go.Departure.lateStores }, { on := 15, ground := Go.Ground.textOnly Go.Departure.lateStores }, { on := 16, ground := Go.Ground.textOnly Go.Departure.lateStores }, { on := 17, ground := Go.Ground.textOnly Go.Departure.lateStoresUnsure }, { on := 18, ground := Go.Ground.textOnly Go.Departure.lateStores }, { on := 19, ground := Go.Ground.textOnly Go.Departure.lateStores }, { on := 20, ground := Go.Ground.textOnly Go.Departure.lateStores }, { on := 21, ground := Go.Ground.textOnly Go.Departure.lateStoresUnsure }, { on := 22, ground := Go.Ground.phase }], guard := none }) (v := ?ve5723) rfl (by kernel_rfl) (by kernel_rfl) (by kernel_rfl) (fun _ _ _ h => h) (Or.inl ⟨by rfl, ?hye5723⟩) (by assumption) ?_
          case hye5723 => (intro wz hSw; (try dsimp only at hSw); go_simp; try with_reducible rfl)
          (try simp only [Act.put, List.setIfInBounds_toArray, List.set_cons_zero, List.set_cons_succ])
          refine wpAnyH_take (i := 24) (oi := { dst := some 12, op := Go.Op.assign (Go.Operand.tmp 71), type := 77, pos := _, after := #[{ on := 17, ground := Go.Ground.data }, { on := 23, ground := Go.Ground.chain }, { on := 0, ground := Go.Ground.phase }, { on := 1, ground := Go.Ground.phase }, { on := 2, ground := Go.Ground.phase }, { on := 3, ground := Go.Ground.phase }, { on := 4, ground := Go.Ground.phase }, { on := 5, ground := Go.Ground.phase }, { on := 6, ground := Go.Ground.phase }, { on := 7, ground := Go.Ground.phase }, { on := 8, ground := Go.Ground.phase }, { on := 9, ground := Go.Ground.phase }, { on := 10, ground := Go.Ground.phase }, { on := 11, ground := Go.Ground.phase }, { on := 12, ground := Go.Ground.phase }, { on := 13, ground := Go.Ground.phase }, { on := 14, ground := Go.Ground.phase }, { on := 15, ground := Go.Ground.phase }, { on := 16, ground := Go.Ground.phase }, { on := 17, ground := Go.Ground.phase }, { on := 18, ground := Go.Ground.textOnly Go.Departure.lateStores }, { on := 19, ground := Go.Ground.textOnly Go.Departure.lateStores }, { on := 20, ground := Go.Ground.textOnly Go.Departure.lateStores }, { on := 21, ground := Go.Ground.textOnly Go.Departure.lateStoresUnsure }, { on := 22, ground := Go.Ground.phase }, { on := 23, ground := Go.Ground.phase }], guard := none }) (v := ?ve5724) rfl (by kernel_rfl) (by kernel_rfl) (by kernel_rfl) (fun _ _ _ h => h) (Or.inl ⟨by rfl, ?hye5724⟩) (by assumption) ?_
          case hye5724 => (intro wz hSw; (try dsimp only at hSw); go_simp; try with_reducible rfl)
          (try simp only [Act.put, List.setIfInBounds_toArray, List.set_cons_zero, List.set_cons_succ])
          refine wpAnyH_take (i := 25) (oi := { dst := some 13, op := Go.Op.assign (Go.Operand.tmp 75), type := 77, pos := _, after := #[{ on := 21, ground := Go.Ground.data }, { on := 24, ground := Go.Ground.chain }, { on := 0, ground := Go.Ground.phase }, { on := 1, ground := Go.Ground.phase }, { on := 2, ground := Go.Ground.phase }, { on := 3, ground := Go.Ground.phase }, { on := 4, ground := Go.Ground.phase }, { on := 5, ground := Go.Ground.phase }, { on := 6, ground := Go.Ground.phase }, { on := 7, ground := Go.Ground.phase }, { on := 8, ground := Go.Ground.phase }, { on := 9, ground := Go.Ground.phase }, { on := 10, ground := Go.Ground.phase }, { on := 11, ground := Go.Ground.phase }, { on := 12, ground := Go.Ground.phase }, { on := 13, ground := Go.Ground.phase }, { on := 14, ground := Go.Ground.phase }, { on := 15, ground := Go.Ground.phase }, { on := 16, ground := Go.Ground.phase }, { on := 17, ground := Go.Ground.phase }, { on := 18, ground := Go.Ground.phase }, { on := 19, ground := Go.Ground.phase }, { on := 20, ground := Go.Ground.phase }, { on := 21, ground := Go.Ground.phase }, { on := 22, ground := Go.Ground.phase }, { on := 23, ground := Go.Ground.phase }, { on := 24, ground := Go.Ground.phase }], guard := none }) (v := ?ve5725) rfl (by kernel_rfl) (by kernel_rfl) (by kernel_rfl) (fun _ _ _ h => h) (Or.inl ⟨by rfl, ?hye5725⟩) (by assumption) ?_
          case hye5725 => (intro wz hSw; (try dsimp only at hSw); go_simp; try with_reducible rfl)
          (try simp only [Act.put, List.setIfInBounds_toArray, List.set_cons_zero, List.set_cons_succ])
          refine wpAnyH_done (by kernel_rfl) ?_ _
          go_wp2
          exact bodyPost_ret (res47 rfl rfl rfl rfl) rfl ⟨_, _, _, fr ++ [(a : Int)], pl ++ [(nt : Int)], by rw [HE.out.1]; rfl, Lib.hid (FIN.out _ _ _ _ bc_57.out ot_57.out of_57.out op_57.out sp_57.out), bc_57⟩
        refine AllReadyH.cons (o := { dst := some 74, op := Go.Op.buildSlice 77 1 #[(0, Go.Operand.tmp 73)], type := 77, pos := _, after := #[{ on := 19, ground := Go.Ground.data }], guard := none }) rfl (fun K hK => ?_) AllReadyH.nil
        go_simp
        have bb_59 : Hid (Below Bt w (w_43.alloc (.cells #[.int .i64 nt] 3)) ∧ w_43.heap.size < (w_43.alloc (.cells #[.int .i64 nt] 3)).heap.size) := Lib.hid ⟨below_then bc_43.out (below_alloc w_43 _) (bsize bc_43.out), by show _ < (Array.push _ _).size; simp⟩
        refine hK.out _ _ (KH.out _ bb_59.out.1) (fun hHeld_59 => ?_)
        clear hK K
        (try simp only [Act.put, List.setIfInBounds_toArray, List.set_cons_zero, List.set_cons_succ])
        obtain ⟨w_59, hw_59⟩ : ∃ z, z = w_43.alloc (.cells #[.int .i64 nt] 3) := ⟨_, rfl⟩
        have nc_59 : Hid (w_59.cell? ⟨w_43.heap.size, 0, none⟩ = some (.int .i64 nt)) := Lib.hid (by rw [hw_59]; have z := new_cell w_43 (.int .i64 nt) 3; rw [Go.WideShapes.add_plain] at z; exact z)
        have bc_59 : Hid (Below Bt w w_59) := Lib.hid (by rw [hw_59]; exact bb_59.out.1)
        have bl_59 : Hid (Below w_43.heap.size w_43 w_59) := Lib.hid (by rw [hw_59]; exact below_alloc w_43 _)
        rw [← hw_59] at hHeld_59 ⊢
        clear bb_59 hw_59
        have ot_59 := Lib.hid (own_below ot_43.out bl_59.out)
        have of_59 := Lib.hid (own_below of_43.out bl_59.out)
        have op_59 := Lib.hid (own_below op_43.out bl_59.out)
        have n16_59 := Lib.hid (cell_below nc_43.out bl_59.out)
        refine wpAnyH_ready (rs := [1]) (by kernel_rfl) (by simp) ?_
        refine AllReadyH.cons (o := { dst := some 55, op := Go.Op.call { callee := Go.Callee.value (Go.Operand.func 45), args := #[Go.Operand.tmp 54], argTypes := #[3] }, type := 27, pos := _, after := #[{ on := 0, ground := Go.Ground.data }], guard := none }) rfl (fun K hK => ?_) AllReadyH.nil
        rw [if_pos (by rfl)]
        go_simp
        refine (PT.out _).mono ?_; rintro e w_60 ⟨rfl, heq_60⟩
        subst heq_60
        go_wp2_with fail
        refine hK.out _ _ (KH.out _ bc_59.out) (fun hHeld_60 => ?_)
        clear hK K
        (try simp only [Act.put, List.setIfInBounds_toArray, List.set_cons_zero, List.set_cons_succ])
        refine wpAnyH_ready (rs := [13]) (by kernel_rfl) (by simp) ?_
        refine AllReadyH.cons (o := { dst := some 67, op := Go.Op.call { callee := Go.Callee.builtin Go.Builtin.append, args := #[Go.Operand.tmp 56, Go.Operand.tmp 66], argTypes := #[45, 45] }, type := 45, pos := _, after := #[{ on := 2, ground := Go.Ground.data }, { on := 12, ground := Go.Ground.data }, { on := 1, ground := Go.Ground.chain }], guard := none }) rfl (fun K hK => ?_) AllReadyH.nil
        rw [if_pos (by rfl)]
        refine wp_append_at (.tmp 56) (.tmp 66) 45 rfl Bt 27 i0 (.int .u64 0) 8 Try.underlying45 hi0 hz0 hz1 hz2 rfl _ nt (wd s.T.ws) rfl ot_59.out ⟨g, off, none⟩ (sz + 1) (c0 - a) (wd (F.ws.getD a 0 :: objOf F a)) rfl (by rw [wd_len]; exact NWL.out) (NW.out _ bc_59.out) (one_wd _) (by unfold maxLen; omega) (by omega) (bsize bc_59.out) ?_
        intro v_61 w_61 own_61 gr_61 at_61
        have bc_61 : Hid (Below Bt w w_61) := Lib.hid (grown_b bc_59.out ot_59.out gr_61)
        refine hK.out _ _ (KH.out _ bc_61.out) (fun hHeld_61 => ?_)
        clear hK K
        (try simp only [Act.put, List.setIfInBounds_toArray, List.set_cons_zero, List.set_cons_succ])
        have ot_61 := Lib.hid own_61
        have of_61 := Lib.hid (own_grown of_59.out gr_61 (fun k hk hr => (own_own_ne of_59.out ot_59.out (by decide) k hk) hr))
        have op_61 := Lib.hid (own_grown op_59.out gr_61 (fun k hk hr => (own_own_ne op_59.out ot_59.out (by decide) k hk) hr))
        have n16_61 := Lib.hid (cell_grown n16_59.out gr_61 (fun hr => by have := (Yot.out _ hr); have := BB0.out.size; omega))
        have n20_61 := Lib.hid (cell_grown nc_59.out gr_61 (fun hr => by have := (Yot.out _ hr); have := bc_43.out.size; omega))
        clear own_61 gr_61 at_61
        refine wpAnyH_ready (rs := [17]) (by kernel_rfl) (by simp) ?_
        refine AllReadyH.cons (o := { dst := some 71, op := Go.Op.call { callee := Go.Callee.builtin Go.Builtin.append, args := #[Go.Operand.tmp 68, Go.Operand.tmp 70], argTypes := #[77, 77] }, type := 77, pos := _, after := #[{ on := 14, ground := Go.Ground.data }, { on := 16, ground := Go.Ground.data }, { on := 13, ground := Go.Ground.chain }], guard := none }) rfl (fun K hK => ?_) AllReadyH.nil
        rw [if_pos (by rfl)]
        refine wp_append_at (.tmp 68) (.tmp 70) 77 rfl Bt 3 j0 (.int .i64 0) 8 Try.underlying77 hj0 hy0 hy1 hy2 rfl _ nf (il fr) rfl of_61.out ⟨w_0.heap.size, 0, none⟩ 1 1 [.int .i64 a] rfl rfl (news1 n16_61.out) (one1 a) (by unfold maxLen; omega) (by omega) (bsize bc_61.out) ?_
        intro v_62 w_62 own_62 gr_62 at_62
        have bc_62 : Hid (Below Bt w w_62) := Lib.hid (grown_b bc_61.out of_61.out gr_62)
        refine hK.out _ _ (KH.out _ bc_62.out) (fun hHeld_62 => ?_)
        clear hK K
        (try simp only [Act.put, List.setIfInBounds_toArray, List.set_cons_zero, List.set_cons_succ])
        have of_62 := Lib.hid own_62
        have ot_62 := Lib.hid (own_grown ot_61.out gr_62 (fun k hk hr => (own_own_ne ot_61.out of_61.out (by decide) k hk) hr))
        have op_62 := Lib.hid (own_grown op_61.out gr_62 (fun k hk hr => SP0.out k hr hk))
        have n20_62 := Lib.hid (cell_grown n20_61.out gr_62 (fun hr => by have := (Yof.out _ hr); have := bc_43.out.size; omega))
        have sp_62 : Hid (∀ k, Value.ownBlock v_62 = some k → (Value.slice Ap nf cP).ownBlock ≠ some k) := Lib.hid (sep_new1 SP0.out op_61.out at_62)
        clear own_62 gr_62 at_62
        refine wpAnyH_ready (rs := [21]) (by kernel_rfl) (by simp) ?_
        refine AllReadyH.cons (o := { dst := some 75, op := Go.Op.call { callee := Go.Callee.builtin Go.Builtin.append, args := #[Go.Operand.tmp 72, Go.Operand.tmp 74], argTypes := #[77, 77] }, type := 77, pos := _, after := #[{ on := 18, ground := Go.Ground.data }, { on := 20, ground := Go.Ground.data }, { on := 17, ground := Go.Ground.chain }], guard := none }) rfl (fun K hK => ?_) AllReadyH.nil
        rw [if_pos (by rfl)]
        refine wp_append_at (.tmp 72) (.tmp 74) 77 rfl Bt 3 j0 (.int .i64 0) 8 Try.underlying77 hj0 hy0 hy1 hy2 rfl _ nf (il pl) rfl op_62.out ⟨w_43.heap.size, 0, none⟩ 1 1 [.int .i64 nt] rfl rfl (news1 n20_62.out) (one1 nt) (by unfold maxLen; omega) (by omega) (bsize bc_62.out) ?_
        intro v_63 w_63 own_63 gr_63 at_63
        have bc_63 : Hid (Below Bt w w_63) := Lib.hid (grown_b bc_62.out op_62.out gr_63)
        refine hK.out _ _ (KH.out _ bc_63.out) (fun hHeld_63 => ?_)
        clear hK K
        (try simp only [Act.put, List.setIfInBounds_toArray, List.set_cons_zero, List.set_cons_succ])
        have op_63 := Lib.hid own_63
        have ot_63 := Lib.hid (own_grown ot_62.out gr_63 (fun k hk hr => (own_own_ne ot_62.out op_62.out (by decide) k hk) hr))
        have of_63 := Lib.hid (own_grown of_62.out gr_63 (fun k hk hr => sp_62.out k hk hr))
        have sp_63 : Hid (∀ k, Value.ownBlock v_62 = some k → v_63.ownBlock ≠ some k) := Lib.hid (sep_new2 sp_62.out of_62.out at_63)
        clear own_63 gr_63 at_63
        refine wpAnyH_take (i := 22) (oi := { dst := some 10, op := Go.Op.assign (Go.Operand.tmp 55), type := 27, pos := _, after := #[{ on := 1, ground := Go.Ground.data }, { on := 21, ground := Go.Ground.chain }, { on := 0, ground := Go.Ground.phase }, { on := 1, ground := Go.Ground.phase }, { on := 2, ground := Go.Ground.textOnly Go.Departure.lateStores }, { on := 3, ground := Go.Ground.textOnly Go.Departure.lateStores }, { on := 4, ground := Go.Ground.textOnly Go.Departure.lateStores }, { on := 5, ground := Go.Ground.textOnly Go.Departure.lateStores }, { on := 6, ground := Go.Ground.textOnly Go.Departure.lateStores }, { on := 7, ground := Go.Ground.textOnly Go.Departure.lateStores }, { on := 8, ground := Go.Ground.textOnly Go.Departure.lateStores }, { on := 9, ground := Go.Ground.textOnly Go.Departure.lateStores }, { on := 10, ground := Go.Ground.textOnly Go.Departure.lateStores }, { on := 11, ground := Go.Ground.textOnly Go.Departure.lateStores }, { on := 12, ground := Go.Ground.textOnly Go.Departure.lateStoresUnsure }, { on := 13, ground := Go.Ground.textOnly Go.Departure.lateStoresUnsure }, { on := 14, ground := Go.Ground.textOnly Go.Departure.lateStores }, { on := 15, ground := Go.Ground.textOnly Go.Departure.lateStores }, { on := 16, ground := Go.Ground.textOnly Go.Departure.lateStores }, { on := 17, ground := Go.Ground.textOnly Go.Departure.lateStoresUnsure }, { on := 18, ground := Go.Ground.textOnly Go.Departure.lateStores }, { on := 19, ground := Go.Ground.textOnly Go.Departure.lateStores }, { on := 20, ground := Go.Ground.textOnly Go.Departure.lateStores }, { on := 21, ground := Go.Ground.textOnly Go.Departure.lateStoresUnsure }], guard := none }) (v := ?ve6322) rfl (by kernel_rfl) (by kernel_rfl) (by kernel_rfl) (fun _ _ _ h => h) (Or.inl ⟨by rfl, ?hye6322⟩) (by assumption) ?_
        case hye6322 => (intro wz hSw; (try dsimp only at hSw); go_simp; try with_reducible rfl)
        (try simp only [Act.put, List.setIfInBounds_toArray, List.set_cons_zero, List.set_cons_succ])
        refine wpAnyH_take (i := 23) (oi := { dst := some 11, op := Go.Op.assign (Go.Operand.tmp 67), type := 45, pos := _, after := #[{ on := 13, ground := Go.Ground.data }, { on := 22, ground := Go.Ground.chain }, { on := 0, ground := Go.Ground.phase }, { on := 1, ground := Go.Ground.phase }, { on := 2, ground := Go.Ground.phase }, { on := 3, ground := Go.Ground.phase }, { on := 4, ground := Go.Ground.phase }, { on := 5, ground := Go.Ground.phase }, { on := 6, ground := Go.Ground.phase }, { on := 7, ground := Go.Ground.phase }, { on := 8, ground := Go.Ground.phase }, { on := 9, ground := Go.Ground.phase }, { on := 10, ground := Go.Ground.phase }, { on := 11, ground := Go.Ground.phase }, { on := 12, ground := Go.Ground.phase }, { on := 13, ground := Go.Ground.phase }, { on := 14, ground := Go.Ground.textOnly Go.Departure.lateStores }, { on := 15, ground := Go.Ground.textOnly Go.Departure.lateStores }, { on := 16, ground := Go.Ground.textOnly Go.Departure.lateStores }, { on := 17, ground := Go.Ground.textOnly Go.Departure.lateStoresUnsure }, { on := 18, ground := Go.Ground.textOnly Go.Departure.lateStores }, { on := 19, ground := Go.Ground.textOnly Go.Departure.lateStores }, { on := 20, ground := Go.Ground.textOnly Go.Departure.lateStores }, { on := 21, ground := Go.Ground.textOnly Go.Departure.lateStoresUnsure }, { on := 22, ground := Go.Ground.phase }], guard := none }) (v := ?ve6323) rfl (by kernel_rfl) (by kernel_rfl) (by kernel_rfl) (fun _ _ _ h => h) (Or.inl ⟨by rfl, ?hye6323⟩) (by assumption) ?_
        case hye6323 => (intro wz hSw; (try dsimp only at hSw); go_simp; try with_reducible rfl)
        (try simp only [Act.put, List.setIfInBounds_toArray, List.set_cons_zero, List.set_cons_succ])
        refine wpAnyH_take (i := 24) (oi := { dst := some 12, op := Go.Op.assign (Go.Operand.tmp 71), type := 77, pos := _, after := #[{ on := 17, ground := Go.Ground.data }, { on := 23, ground := Go.Ground.chain }, { on := 0, ground := Go.Ground.phase }, { on := 1, ground := Go.Ground.phase }, { on := 2, ground := Go.Ground.phase }, { on := 3, ground := Go.Ground.phase }, { on := 4, ground := Go.Ground.phase }, { on := 5, ground := Go.Ground.phase }, { on := 6, ground := Go.Ground.phase }, { on := 7, ground := Go.Ground.phase }, { on := 8, ground := Go.Ground.phase }, { on := 9, ground := Go.Ground.phase }, { on := 10, ground := Go.Ground.phase }, { on := 11, ground := Go.Ground.phase }, { on := 12, ground := Go.Ground.phase }, { on := 13, ground := Go.Ground.phase }, { on := 14, ground := Go.Ground.phase }, { on := 15, ground := Go.Ground.phase }, { on := 16, ground := Go.Ground.phase }, { on := 17, ground := Go.Ground.phase }, { on := 18, ground := Go.Ground.textOnly Go.Departure.lateStores }, { on := 19, ground := Go.Ground.textOnly Go.Departure.lateStores }, { on := 20, ground := Go.Ground.textOnly Go.Departure.lateStores }, { on := 21, ground := Go.Ground.textOnly Go.Departure.lateStoresUnsure }, { on := 22, ground := Go.Ground.phase }, { on := 23, ground := Go.Ground.phase }], guard := none }) (v := ?ve6324) rfl (by kernel_rfl) (by kernel_rfl) (by kernel_rfl) (fun _ _ _ h => h) (Or.inl ⟨by rfl, ?hye6324⟩) (by assumption) ?_
        case hye6324 => (intro wz hSw; (try dsimp only at hSw); go_simp; try with_reducible rfl)
        (try simp only [Act.put, List.setIfInBounds_toArray, List.set_cons_zero, List.set_cons_succ])
        refine wpAnyH_take (i := 25) (oi := { dst := some 13, op := Go.Op.assign (Go.Operand.tmp 75), type := 77, pos := _, after := #[{ on := 21, ground := Go.Ground.data }, { on := 24, ground := Go.Ground.chain }, { on := 0, ground := Go.Ground.phase }, { on := 1, ground := Go.Ground.phase }, { on := 2, ground := Go.Ground.phase }, { on := 3, ground := Go.Ground.phase }, { on := 4, ground := Go.Ground.phase }, { on := 5, ground := Go.Ground.phase }, { on := 6, ground := Go.Ground.phase }, { on := 7, ground := Go.Ground.phase }, { on := 8, ground := Go.Ground.phase }, { on := 9, ground := Go.Ground.phase }, { on := 10, ground := Go.Ground.phase }, { on := 11, ground := Go.Ground.phase }, { on := 12, ground := Go.Ground.phase }, { on := 13, ground := Go.Ground.phase }, { on := 14, ground := Go.Ground.phase }, { on := 15, ground := Go.Ground.phase }, { on := 16, ground := Go.Ground.phase }, { on := 17, ground := Go.Ground.phase }, { on := 18, ground := Go.Ground.phase }, { on := 19, ground := Go.Ground.phase }, { on := 20, ground := Go.Ground.phase }, { on := 21, ground := Go.Ground.phase }, { on := 22, ground := Go.Ground.phase }, { on := 23, ground := Go.Ground.phase }, { on := 24, ground := Go.Ground.phase }], guard := none }) (v := ?ve6325) rfl (by kernel_rfl) (by kernel_rfl) (by kernel_rfl) (fun _ _ _ h => h) (Or.inl ⟨by rfl, ?hye6325⟩) (by assumption) ?_
        case hye6325 => (intro wz hSw; (try dsimp only at hSw); go_simp; try with_reducible rfl)
        (try simp only [Act.put, List.setIfInBounds_toArray, List.set_cons_zero, List.set_cons_succ])
        refine wpAnyH_done (by kernel_rfl) ?_ _
        go_wp2
        exact bodyPost_ret (res47 rfl rfl rfl rfl) rfl ⟨_, _, _, fr ++ [(a : Int)], pl ++ [(nt : Int)], by rw [HE.out.1]; rfl, Lib.hid (FIN.out _ _ _ _ bc_63.out ot_63.out of_63.out op_63.out sp_63.out), bc_63⟩
      refine AllReadyH.cons (o := { dst := some 74, op := Go.Op.buildSlice 77 1 #[(0, Go.Operand.tmp 73)], type := 77, pos := _, after := #[{ on := 19, ground := Go.Ground.data }], guard := none }) rfl (fun K hK => ?_) AllReadyH.nil
      go_simp
      have bb_65 : Hid (Below Bt w (w_0.alloc (.cells #[.int .i64 nt] 3)) ∧ w_0.heap.size < (w_0.alloc (.cells #[.int .i64 nt] 3)).heap.size) := Lib.hid ⟨below_then BB0.out (below_alloc w_0 _) (bsize BB0.out), by show _ < (Array.push _ _).size; simp⟩
      refine hK.out _ _ (KH.out _ bb_65.out.1) (fun hHeld_65 => ?_)
      clear hK K
      (try simp only [Act.put, List.setIfInBounds_toArray, List.set_cons_zero, List.set_cons_succ])
      obtain ⟨w_65, hw_65⟩ : ∃ z, z = w_0.alloc (.cells #[.int .i64 nt] 3) := ⟨_, rfl⟩
      have nc_65 : Hid (w_65.cell? ⟨w_0.heap.size, 0, none⟩ = some (.int .i64 nt)) := Lib.hid (by rw [hw_65]; have z := new_cell w_0 (.int .i64 nt) 3; rw [Go.WideShapes.add_plain] at z; exact z)
      have bc_65 : Hid (Below Bt w w_65) := Lib.hid (by rw [hw_65]; exact bb_65.out.1)
      have bl_65 : Hid (Below w_0.heap.size w_0 w_65) := Lib.hid (by rw [hw_65]; exact below_alloc w_0 _)
      rw [← hw_65] at hHeld_65 ⊢
      clear bb_65 hw_65
      have ot_65 := Lib.hid (own_below OT0.out bl_65.out)
      have of_65 := Lib.hid (own_below OF0.out bl_65.out)
      have op_65 := Lib.hid (own_below OP0.out bl_65.out)
      refine wpAnyH_ready (rs := [1, 16]) (by kernel_rfl) (by simp) ?_
      refine AllReadyH.cons (o := { dst := some 55, op := Go.Op.call { callee := Go.Callee.value (Go.Operand.func 45), args := #[Go.Operand.tmp 54], argTypes := #[3] }, type := 27, pos := _, after := #[{ on := 0, ground := Go.Ground.data }], guard := none }) rfl (fun K hK => ?_) ?_
      · rw [if_pos (by rfl)]
        go_simp
        refine (PT.out _).mono ?_; rintro e w_66 ⟨rfl, heq_66⟩
        subst heq_66
        go_wp2_with fail
        refine hK.out _ _ (KH.out _ bc_65.out) (fun hHeld_66 => ?_)
        clear hK K
        (try simp only [Act.put, List.setIfInBounds_toArray, List.set_cons_zero, List.set_cons_succ])
        refine wpAnyH_ready (rs := [13, 16]) (by kernel_rfl) (by simp) ?_
        refine AllReadyH.cons (o := { dst := some 67, op := Go.Op.call { callee := Go.Callee.builtin Go.Builtin.append, args := #[Go.Operand.tmp 56, Go.Operand.tmp 66], argTypes := #[45, 45] }, type := 45, pos := _, after := #[{ on := 2, ground := Go.Ground.data }, { on := 12, ground := Go.Ground.data }, { on := 1, ground := Go.Ground.chain }], guard := none }) rfl (fun K hK => ?_) ?_
        · rw [if_pos (by rfl)]
          refine wp_append_at (.tmp 56) (.tmp 66) 45 rfl Bt 27 i0 (.int .u64 0) 8 Try.underlying45 hi0 hz0 hz1 hz2 rfl _ nt (wd s.T.ws) rfl ot_65.out ⟨g, off, none⟩ (sz + 1) (c0 - a) (wd (F.ws.getD a 0 :: objOf F a)) rfl (by rw [wd_len]; exact NWL.out) (NW.out _ bc_65.out) (one_wd _) (by unfold maxLen; omega) (by omega) (bsize bc_65.out) ?_
          intro v_67 w_67 own_67 gr_67 at_67
          have bc_67 : Hid (Below Bt w w_67) := Lib.hid (grown_b bc_65.out ot_65.out gr_67)
          refine hK.out _ _ (KH.out _ bc_67.out) (fun hHeld_67 => ?_)
          clear hK K
          (try simp only [Act.put, List.setIfInBounds_toArray, List.set_cons_zero, List.set_cons_succ])
          have ot_67 := Lib.hid own_67
          have of_67 := Lib.hid (own_grown of_65.out gr_67 (fun k hk hr => (own_own_ne of_65.out ot_65.out (by decide) k hk) hr))
          have op_67 := Lib.hid (own_grown op_65.out gr_67 (fun k hk hr => (own_own_ne op_65.out ot_65.out (by decide) k hk) hr))
          have n20_67 := Lib.hid (cell_grown nc_65.out gr_67 (fun hr => by have := (Yot.out _ hr); have := BB0.out.size; omega))
          clear own_67 gr_67 at_67
          refine wpAnyH_ready (rs := [16]) (by kernel_rfl) (by simp) ?_
          refine AllReadyH.cons (o := { dst := some 70, op := Go.Op.buildSlice 77 1 #[(0, Go.Operand.tmp 69)], type := 77, pos := _, after := #[{ on := 15, ground := Go.Ground.data }], guard := none }) rfl (fun K hK => ?_) AllReadyH.nil
          go_simp
          have bb_68 : Hid (Below Bt w (w_67.alloc (.cells #[.int .i64 a] 3)) ∧ w_67.heap.size < (w_67.alloc (.cells #[.int .i64 a] 3)).heap.size) := Lib.hid ⟨below_then bc_67.out (below_alloc w_67 _) (bsize bc_67.out), by show _ < (Array.push _ _).size; simp⟩
          refine hK.out _ _ (KH.out _ bb_68.out.1) (fun hHeld_68 => ?_)
          clear hK K
          (try simp only [Act.put, List.setIfInBounds_toArray, List.set_cons_zero, List.set_cons_succ])
          obtain ⟨w_68, hw_68⟩ : ∃ z, z = w_67.alloc (.cells #[.int .i64 a] 3) := ⟨_, rfl⟩
          have nc_68 : Hid (w_68.cell? ⟨w_67.heap.size, 0, none⟩ = some (.int .i64 a)) := Lib.hid (by rw [hw_68]; have z := new_cell w_67 (.int .i64 a) 3; rw [Go.WideShapes.add_plain] at z; exact z)
          have bc_68 : Hid (Below Bt w w_68) := Lib.hid (by rw [hw_68]; exact bb_68.out.1)
          have bl_68 : Hid (Below w_67.heap.size w_67 w_68) := Lib.hid (by rw [hw_68]; exact below_alloc w_67 _)
          rw [← hw_68] at hHeld_68 ⊢
          clear bb_68 hw_68
          have ot_68 := Lib.hid (own_below ot_67.out bl_68.out)
          have of_68 := Lib.hid (own_below of_67.out bl_68.out)
          have op_68 := Lib.hid (own_below op_67.out bl_68.out)
          have n20_68 := Lib.hid (cell_below n20_67.out bl_68.out)
          refine wpAnyH_ready (rs := [17]) (by kernel_rfl) (by simp) ?_
          refine AllReadyH.cons (o := { dst := some 71, op := Go.Op.call { callee := Go.Callee.builtin Go.Builtin.append, args := #[Go.Operand.tmp 68, Go.Operand.tmp 70], argTypes := #[77, 77] }, type := 77, pos := _, after := #[{ on := 14, ground := Go.Ground.data }, { on := 16, ground := Go.Ground.data }, { on := 13, ground := Go.Ground.chain }], guard := none }) rfl (fun K hK => ?_) AllReadyH.nil
          rw [if_pos (by rfl)]
          refine wp_append_at (.tmp 68) (.tmp 70) 77 rfl Bt 3 j0 (.int .i64 0) 8 Try.underlying77 hj0 hy0 hy1 hy2 rfl _ nf (il fr) rfl of_68.out ⟨w_67.heap.size, 0, none⟩ 1 1 [.int .i64 a] rfl rfl (news1 nc_68.out) (one1 a) (by unfold maxLen; omega) (by omega) (bsize bc_68.out) ?_
          intro v_69 w_69 own_69 gr_69 at_69
          have bc_69 : Hid (Below Bt w w_69) := Lib.hid (grown_b bc_68.out of_68.out gr_69)
          refine hK.out _ _ (KH.out _ bc_69.out) (fun hHeld_69 => ?_)
          clear hK K
          (try simp only [Act.put, List.setIfInBounds_toArray, List.set_cons_zero, List.set_cons_succ])
          have of_69 := Lib.hid own_69
          have ot_69 := Lib.hid (own_grown ot_68.out gr_69 (fun k hk hr => (own_own_ne ot_68.out of_68.out (by decide) k hk) hr))
          have op_69 := Lib.hid (own_grown op_68.out gr_69 (fun k hk hr => SP0.out k hr hk))
          have n20_69 := Lib.hid (cell_grown n20_68.out gr_69 (fun hr => by have := (Yof.out _ hr); have := BB0.out.size; omega))
          have sp_69 : Hid (∀ k, Value.ownBlock v_69 = some k → (Value.slice Ap nf cP).ownBlock ≠ some k) := Lib.hid (sep_new1 SP0.out op_68.out at_69)
          clear own_69 gr_69 at_69
          refine wpAnyH_ready (rs := [21]) (by kernel_rfl) (by simp) ?_
          refine AllReadyH.cons (o := { dst := some 75, op := Go.Op.call { callee := Go.Callee.builtin Go.Builtin.append, args := #[Go.Operand.tmp 72, Go.Operand.tmp 74], argTypes := #[77, 77] }, type := 77, pos := _, after := #[{ on := 18, ground := Go.Ground.data }, { on := 20, ground := Go.Ground.data }, { on := 17, ground := Go.Ground.chain }], guard := none }) rfl (fun K hK => ?_) AllReadyH.nil
          rw [if_pos (by rfl)]
          refine wp_append_at (.tmp 72) (.tmp 74) 77 rfl Bt 3 j0 (.int .i64 0) 8 Try.underlying77 hj0 hy0 hy1 hy2 rfl _ nf (il pl) rfl op_69.out ⟨w_0.heap.size, 0, none⟩ 1 1 [.int .i64 nt] rfl rfl (news1 n20_69.out) (one1 nt) (by unfold maxLen; omega) (by omega) (bsize bc_69.out) ?_
          intro v_70 w_70 own_70 gr_70 at_70
          have bc_70 : Hid (Below Bt w w_70) := Lib.hid (grown_b bc_69.out op_69.out gr_70)
          refine hK.out _ _ (KH.out _ bc_70.out) (fun hHeld_70 => ?_)
          clear hK K
          (try simp only [Act.put, List.setIfInBounds_toArray, List.set_cons_zero, List.set_cons_succ])
          have op_70 := Lib.hid own_70
          have ot_70 := Lib.hid (own_grown ot_69.out gr_70 (fun k hk hr => (own_own_ne ot_69.out op_69.out (by decide) k hk) hr))
          have of_70 := Lib.hid (own_grown of_69.out gr_70 (fun k hk hr => sp_69.out k hk hr))
          have sp_70 : Hid (∀ k, Value.ownBlock v_69 = some k → v_70.ownBlock ≠ some k) := Lib.hid (sep_new2 sp_69.out of_69.out at_70)
          clear own_70 gr_70 at_70
          refine wpAnyH_take (i := 22) (oi := { dst := some 10, op := Go.Op.assign (Go.Operand.tmp 55), type := 27, pos := _, after := #[{ on := 1, ground := Go.Ground.data }, { on := 21, ground := Go.Ground.chain }, { on := 0, ground := Go.Ground.phase }, { on := 1, ground := Go.Ground.phase }, { on := 2, ground := Go.Ground.textOnly Go.Departure.lateStores }, { on := 3, ground := Go.Ground.textOnly Go.Departure.lateStores }, { on := 4, ground := Go.Ground.textOnly Go.Departure.lateStores }, { on := 5, ground := Go.Ground.textOnly Go.Departure.lateStores }, { on := 6, ground := Go.Ground.textOnly Go.Departure.lateStores }, { on := 7, ground := Go.Ground.textOnly Go.Departure.lateStores }, { on := 8, ground := Go.Ground.textOnly Go.Departure.lateStores }, { on := 9, ground := Go.Ground.textOnly Go.Departure.lateStores }, { on := 10, ground := Go.Ground.textOnly Go.Departure.lateStores }, { on := 11, ground := Go.Ground.textOnly Go.Departure.lateStores }, { on := 12, ground := Go.Ground.textOnly Go.Departure.lateStoresUnsure }, { on := 13, ground := Go.Ground.textOnly Go.Departure.lateStoresUnsure }, { on := 14, ground := Go.Ground.textOnly Go.Departure.lateStores }, { on := 15, ground := Go.Ground.textOnly Go.Departure.lateStores }, { on := 16, ground := Go.Ground.textOnly Go.Departure.lateStores }, { on := 17, ground := Go.Ground.textOnly Go.Departure.lateStoresUnsure }, { on := 18, ground := Go.Ground.textOnly Go.Departure.lateStores }, { on := 19, ground := Go.Ground.textOnly Go.Departure.lateStores }, { on := 20, ground := Go.Ground.textOnly Go.Departure.lateStores }, { on := 21, ground := Go.Ground.textOnly Go.Departure.lateStoresUnsure }], guard := none }) (v := ?ve7022) rfl (by kernel_rfl) (by kernel_rfl) (by kernel_rfl) (fun _ _ _ h => h) (Or.inl ⟨by rfl, ?hye7022⟩) (by assumption) ?_
          case hye7022 => (intro wz hSw; (try dsimp only at hSw); go_simp; try with_reducible rfl)
          (try simp only [Act.put, List.setIfInBounds_toArray, List.set_cons_zero, List.set_cons_succ])
          refine wpAnyH_take (i := 23) (oi := { dst := some 11, op := Go.Op.assign (Go.Operand.tmp 67), type := 45, pos := _, after := #[{ on := 13, ground := Go.Ground.data }, { on := 22, ground := Go.Ground.chain }, { on := 0, ground := Go.Ground.phase }, { on := 1, ground := Go.Ground.phase }, { on := 2, ground := Go.Ground.phase }, { on := 3, ground := Go.Ground.phase }, { on := 4, ground := Go.Ground.phase }, { on := 5, ground := Go.Ground.phase }, { on := 6, ground := Go.Ground.phase }, { on := 7, ground := Go.Ground.phase }, { on := 8, ground := Go.Ground.phase }, { on := 9, ground := Go.Ground.phase }, { on := 10, ground := Go.Ground.phase }, { on := 11, ground := Go.Ground.phase }, { on := 12, ground := Go.Ground.phase }, { on := 13, ground := Go.Ground.phase }, { on := 14, ground := Go.Ground.textOnly Go.Departure.lateStores }, { on := 15, ground := Go.Ground.textOnly Go.Departure.lateStores }, { on := 16, ground := Go.Ground.textOnly Go.Departure.lateStores }, { on := 17, ground := Go.Ground.textOnly Go.Departure.lateStoresUnsure }, { on := 18, ground := Go.Ground.textOnly Go.Departure.lateStores }, { on := 19, ground := Go.Ground.textOnly Go.Departure.lateStores }, { on := 20, ground := Go.Ground.textOnly Go.Departure.lateStores }, { on := 21, ground := Go.Ground.textOnly Go.Departure.lateStoresUnsure }, { on := 22, ground := Go.Ground.phase }], guard := none }) (v := ?ve7023) rfl (by kernel_rfl) (by kernel_rfl) (by kernel_rfl) (fun _ _ _ h => h) (Or.inl ⟨by rfl, ?hye7023⟩) (by assumption) ?_
          case hye7023 => (intro wz hSw; (try dsimp only at hSw); go_simp; try with_reducible rfl)
          (try simp only [Act.put, List.setIfInBounds_toArray, List.set_cons_zero, List.set_cons_succ])
          refine wpAnyH_take (i := 24) (oi := { dst := some 12, op := Go.Op.assign (Go.Operand.tmp 71), type := 77, pos := _, after := #[{ on := 17, ground := Go.Ground.data }, { on := 23, ground := Go.Ground.chain }, { on := 0, ground := Go.Ground.phase }, { on := 1, ground := Go.Ground.phase }, { on := 2, ground := Go.Ground.phase }, { on := 3, ground := Go.Ground.phase }, { on := 4, ground := Go.Ground.phase }, { on := 5, ground := Go.Ground.phase }, { on := 6, ground := Go.Ground.phase }, { on := 7, ground := Go.Ground.phase }, { on := 8, ground := Go.Ground.phase }, { on := 9, ground := Go.Ground.phase }, { on := 10, ground := Go.Ground.phase }, { on := 11, ground := Go.Ground.phase }, { on := 12, ground := Go.Ground.phase }, { on := 13, ground := Go.Ground.phase }, { on := 14, ground := Go.Ground.phase }, { on := 15, ground := Go.Ground.phase }, { on := 16, ground := Go.Ground.phase }, { on := 17, ground := Go.Ground.phase }, { on := 18, ground := Go.Ground.textOnly Go.Departure.lateStores }, { on := 19, ground := Go.Ground.textOnly Go.Departure.lateStores }, { on := 20, ground := Go.Ground.textOnly Go.Departure.lateStores }, { on := 21, ground := Go.Ground.textOnly Go.Departure.lateStoresUnsure }, { on := 22, ground := Go.Ground.phase }, { on := 23, ground := Go.Ground.phase }], guard := none }) (v := ?ve7024) rfl (by kernel_rfl) (by kernel_rfl) (by kernel_rfl) (fun _ _ _ h => h) (Or.inl ⟨by rfl, ?hye7024⟩) (by assumption) ?_
          case hye7024 => (intro wz hSw; (try dsimp only at hSw); go_simp; try with_reducible rfl)
          (try simp only [Act.put, List.setIfInBounds_toArray, List.set_cons_zero, List.set_cons_succ])
          refine wpAnyH_take (i := 25) (oi := { dst := some 13, op := Go.Op.assign (Go.Operand.tmp 75), type := 77, pos := _, after := #[{ on := 21, ground := Go.Ground.data }, { on := 24, ground := Go.Ground.chain }, { on := 0, ground := Go.Ground.phase }, { on := 1, ground := Go.Ground.phase }, { on := 2, ground := Go.Ground.phase }, { on := 3, ground := Go.Ground.phase }, { on := 4, ground := Go.Ground.phase }, { on := 5, ground := Go.Ground.phase }, { on := 6, ground := Go.Ground.phase }, { on := 7, ground := Go.Ground.phase }, { on := 8, ground := Go.Ground.phase }, { on := 9, ground := Go.Ground.phase }, { on := 10, ground := Go.Ground.phase }, { on := 11, ground := Go.Ground.phase }, { on := 12, ground := Go.Ground.phase }, { on := 13, ground := Go.Ground.phase }, { on := 14, ground := Go.Ground.phase }, { on := 15, ground := Go.Ground.phase }, { on := 16, ground := Go.Ground.phase }, { on := 17, ground := Go.Ground.phase }, { on := 18, ground := Go.Ground.phase }, { on := 19, ground := Go.Ground.phase }, { on := 20, ground := Go.Ground.phase }, { on := 21, ground := Go.Ground.phase }, { on := 22, ground := Go.Ground.phase }, { on := 23, ground := Go.Ground.phase }, { on := 24, ground := Go.Ground.phase }], guard := none }) (v := ?ve7025) rfl (by kernel_rfl) (by kernel_rfl) (by kernel_rfl) (fun _ _ _ h => h) (Or.inl ⟨by rfl, ?hye7025⟩) (by assumption) ?_
          case hye7025 => (intro wz hSw; (try dsimp only at hSw); go_simp; try with_reducible rfl)
          (try simp only [Act.put, List.setIfInBounds_toArray, List.set_cons_zero, List.set_cons_succ])
          refine wpAnyH_done (by kernel_rfl) ?_ _
          go_wp2
          exact bodyPost_ret (res47 rfl rfl rfl rfl) rfl ⟨_, _, _, fr ++ [(a : Int)], pl ++ [(nt : Int)], by rw [HE.out.1]; rfl, Lib.hid (FIN.out _ _ _ _ bc_70.out ot_70.out of_70.out op_70.out sp_70.out), bc_70⟩
        refine AllReadyH.cons (o := { dst := some 70, op := Go.Op.buildSlice 77 1 #[(0, Go.Operand.tmp 69)], type := 77, pos := _, after := #[{ on := 15, ground := Go.Ground.data }], guard := none }) rfl (fun K hK => ?_) AllReadyH.nil
        go_simp
        have bb_72 : Hid (Below Bt w (w_65.alloc (.cells #[.int .i64 a] 3)) ∧ w_65.heap.size < (w_65.alloc (.cells #[.int .i64 a] 3)).heap.size) := Lib.hid ⟨below_then bc_65.out (below_alloc w_65 _) (bsize bc_65.out), by show _ < (Array.push _ _).size; simp⟩
        refine hK.out _ _ (KH.out _ bb_72.out.1) (fun hHeld_72 => ?_)
        clear hK K
        (try simp only [Act.put, List.setIfInBounds_toArray, List.set_cons_zero, List.set_cons_succ])
        obtain ⟨w_72, hw_72⟩ : ∃ z, z = w_65.alloc (.cells #[.int .i64 a] 3) := ⟨_, rfl⟩
        have nc_72 : Hid (w_72.cell? ⟨w_65.heap.size, 0, none⟩ = some (.int .i64 a)) := Lib.hid (by rw [hw_72]; have z := new_cell w_65 (.int .i64 a) 3; rw [Go.WideShapes.add_plain] at z; exact z)
        have bc_72 : Hid (Below Bt w w_72) := Lib.hid (by rw [hw_72]; exact bb_72.out.1)
        have bl_72 : Hid (Below w_65.heap.size w_65 w_72) := Lib.hid (by rw [hw_72]; exact below_alloc w_65 _)
        rw [← hw_72] at hHeld_72 ⊢
        clear bb_72 hw_72
        have ot_72 := Lib.hid (own_below ot_65.out bl_72.out)
        have of_72 := Lib.hid (own_below of_65.out bl_72.out)
        have op_72 := Lib.hid (own_below op_65.out bl_72.out)
        have n20_72 := Lib.hid (cell_below nc_65.out bl_72.out)
        refine wpAnyH_ready (rs := [13]) (by kernel_rfl) (by simp) ?_
        refine AllReadyH.cons (o := { dst := some 67, op := Go.Op.call { callee := Go.Callee.builtin Go.Builtin.append, args := #[Go.Operand.tmp 56, Go.Operand.tmp 66], argTypes := #[45, 45] }, type := 45, pos := _, after := #[{ on := 2, ground := Go.Ground.data }, { on := 12, ground := Go.Ground.data }, { on := 1, ground := Go.Ground.chain }], guard := none }) rfl (fun K hK => ?_) AllReadyH.nil
        rw [if_pos (by rfl)]
        refine wp_append_at (.tmp 56) (.tmp 66) 45 rfl Bt 27 i0 (.int .u64 0) 8 Try.underlying45 hi0 hz0 hz1 hz2 rfl _ nt (wd s.T.ws) rfl ot_72.out ⟨g, off, none⟩ (sz + 1) (c0 - a) (wd (F.ws.getD a 0 :: objOf F a)) rfl (by rw [wd_len]; exact NWL.out) (NW.out _ bc_72.out) (one_wd _) (by unfold maxLen; omega) (by omega) (bsize bc_72.out) ?_
        intro v_73 w_73 own_73 gr_73 at_73
        have bc_73 : Hid (Below Bt w w_73) := Lib.hid (grown_b bc_72.out ot_72.out gr_73)
        refine hK.out _ _ (KH.out _ bc_73.out) (fun hHeld_73 => ?_)
        clear hK K
        (try simp only [Act.put, List.setIfInBounds_toArray, List.set_cons_zero, List.set_cons_succ])
        have ot_73 := Lib.hid own_73
        have of_73 := Lib.hid (own_grown of_72.out gr_73 (fun k hk hr => (own_own_ne of_72.out ot_72.out (by decide) k hk) hr))
        have op_73 := Lib.hid (own_grown op_72.out gr_73 (fun k hk hr => (own_own_ne op_72.out ot_72.out (by decide) k hk) hr))
        have n16_73 := Lib.hid (cell_grown nc_72.out gr_73 (fun hr => by have := (Yot.out _ hr); have := bc_65.out.size; omega))
        have n20_73 := Lib.hid (cell_grown n20_72.out gr_73 (fun hr => by have := (Yot.out _ hr); have := BB0.out.size; omega))
        clear own_73 gr_73 at_73
        refine wpAnyH_ready (rs := [17]) (by kernel_rfl) (by simp) ?_
        refine AllReadyH.cons (o := { dst := some 71, op := Go.Op.call { callee := Go.Callee.builtin Go.Builtin.append, args := #[Go.Operand.tmp 68, Go.Operand.tmp 70], argTypes := #[77, 77] }, type := 77, pos := _, after := #[{ on := 14, ground := Go.Ground.data }, { on := 16, ground := Go.Ground.data }, { on := 13, ground := Go.Ground.chain }], guard := none }) rfl (fun K hK => ?_) AllReadyH.nil
        rw [if_pos (by rfl)]
        refine wp_append_at (.tmp 68) (.tmp 70) 77 rfl Bt 3 j0 (.int .i64 0) 8 Try.underlying77 hj0 hy0 hy1 hy2 rfl _ nf (il fr) rfl of_73.out ⟨w_65.heap.size, 0, none⟩ 1 1 [.int .i64 a] rfl rfl (news1 n16_73.out) (one1 a) (by unfold maxLen; omega) (by omega) (bsize bc_73.out) ?_
        intro v_74 w_74 own_74 gr_74 at_74
        have bc_74 : Hid (Below Bt w w_74) := Lib.hid (grown_b bc_73.out of_73.out gr_74)
        refine hK.out _ _ (KH.out _ bc_74.out) (fun hHeld_74 => ?_)
        clear hK K
        (try simp only [Act.put, List.setIfInBounds_toArray, List.set_cons_zero, List.set_cons_succ])
        have of_74 := Lib.hid own_74
        have ot_74 := Lib.hid (own_grown ot_73.out gr_74 (fun k hk hr => (own_own_ne ot_73.out of_73.out (by decide) k hk) hr))
        have op_74 := Lib.hid (own_grown op_73.out gr_74 (fun k hk hr => SP0.out k hr hk))
        have n20_74 := Lib.hid (cell_grown n20_73.out gr_74 (fun hr => by have := (Yof.out _ hr); have := BB0.out.size; omega))
        have sp_74 : Hid (∀ k, Value.ownBlock v_74 = some k → (Value.slice Ap nf cP).ownBlock ≠ some k) := Lib.hid (sep_new1 SP0.out op_73.out at_74)
        clear own_74 gr_74 at_74
        refine wpAnyH_ready (rs := [21]) (by kernel_rfl) (by simp) ?_
        refine AllReadyH.cons (o := { dst := some 75, op := Go.Op.call { callee := Go.Callee.builtin Go.Builtin.append, args := #[Go.Operand.tmp 72, Go.Operand.tmp 74], argTypes := #[77, 77] }, type := 77, pos := _, after := #[{ on := 18, ground := Go.Ground.data }, { on := 20, ground := Go.Ground.data }, { on := 17, ground := Go.Ground.chain }], guard := none }) rfl (fun K hK => ?_) AllReadyH.nil
        rw [if_pos (by rfl)]
        refine wp_append_at (.tmp 72) (.tmp 74) 77 rfl Bt 3 j0 (.int .i64 0) 8 Try.underlying77 hj0 hy0 hy1 hy2 rfl _ nf (il pl) rfl op_74.out ⟨w_0.heap.size, 0, none⟩ 1 1 [.int .i64 nt] rfl rfl (news1 n20_74.out) (one1 nt) (by unfold maxLen; omega) (by omega) (bsize bc_74.out) ?_
        intro v_75 w_75 own_75 gr_75 at_75
        have bc_75 : Hid (Below Bt w w_75) := Lib.hid (grown_b bc_74.out op_74.out gr_75)
        refine hK.out _ _ (KH.out _ bc_75.out) (fun hHeld_75 => ?_)
        clear hK K
        (try simp only [Act.put, List.setIfInBounds_toArray, List.set_cons_zero, List.set_cons_succ])
        have op_75 := Lib.hid own_75
        have ot_75 := Lib.hid (own_grown ot_74.out gr_75 (fun k hk hr => (own_own_ne ot_74.out op_74.out (by decide) k hk) hr))
        have of_75 := Lib.hid (own_grown of_74.out gr_75 (fun k hk hr => sp_74.out k hk hr))
        have sp_75 : Hid (∀ k, Value.ownBlock v_74 = some k → v_75.ownBlock ≠ some k) := Lib.hid (sep_new2 sp_74.out of_74.out at_75)
        clear own_75 gr_75 at_75
        refine wpAnyH_take (i := 22) (oi := { dst := some 10, op := Go.Op.assign (Go.Operand.tmp 55), type := 27, pos := _, after := #[{ on := 1, ground := Go.Ground.data }, { on := 21, ground := Go.Ground.chain }, { on := 0, ground := Go.Ground.phase }, { on := 1, ground := Go.Ground.phase }, { on := 2, ground := Go.Ground.textOnly Go.Departure.lateStores }, { on := 3, ground := Go.Ground.textOnly Go.Departure.lateStores }, { on := 4, ground := Go.Ground.textOnly Go.Departure.lateStores }, { on := 5, ground := Go.Ground.textOnly Go.Departure.lateStores }, { on := 6, ground := Go.Ground.textOnly Go.Departure.lateStores }, { on := 7, ground := Go.Ground.textOnly Go.Departure.lateStores }, { on := 8, ground := Go.Ground.textOnly Go.Departure.lateStores }, { on := 9, ground := Go.Ground.textOnly Go.Departure.lateStores }, { on := 10, ground := Go.Ground.textOnly Go.Departure.lateStores }, { on := 11, ground := Go.Ground.textOnly Go.Departure.lateStores }, { on := 12, ground := Go.Ground.textOnly Go.Departure.lateStoresUnsure }, { on := 13, ground := Go.Ground.textOnly Go.Departure.lateStoresUnsure }, { on := 14, ground := Go.Ground.textOnly Go.Departure.lateStores }, { on := 15, ground := Go.Ground.textOnly Go.Departure.lateStores }, { on := 16, ground := Go.Ground.textOnly Go.Departure.lateStores }, { on := 17, ground := Go.Ground.textOnly Go.Departure.lateStoresUnsure }, { on := 18, ground := Go.Ground.textOnly Go.Departure.lateStores }, { on := 19, ground := Go.Ground.textOnly Go.Departure.lateStores }, { on := 20, ground := Go.Ground.textOnly Go.Departure.lateStores }, { on := 21, ground := Go.Ground.textOnly Go.Departure.lateStoresUnsure }], guard := none }) (v := ?ve7522) rfl (by kernel_rfl) (by kernel_rfl) (by kernel_rfl) (fun _ _ _ h => h) (Or.inl ⟨by rfl, ?hye7522⟩) (by assumption) ?_
        case hye7522 => (intro wz hSw; (try dsimp only at hSw); go_simp; try with_reducible rfl)
        (try simp only [Act.put, List.setIfInBounds_toArray, List.set_cons_zero, List.set_cons_succ])
        refine wpAnyH_take (i := 23) (oi := { dst := some 11, op := Go.Op.assign (Go.Operand.tmp 67), type := 45, pos := _, after := #[{ on := 13, ground := Go.Ground.data }, { on := 22, ground := Go.Ground.chain }, { on := 0, ground := Go.Ground.phase }, { on := 1, ground := Go.Ground.phase }, { on := 2, ground := Go.Ground.phase }, { on := 3, ground := Go.Ground.phase }, { on := 4, ground := Go.Ground.phase }, { on := 5, ground := Go.Ground.phase }, { on := 6, ground := Go.Ground.phase }, { on := 7, ground := Go.Ground.phase }, { on := 8, ground := Go.Ground.phase }, { on := 9, ground := Go.Ground.phase }, { on := 10, ground := Go.Ground.phase }, { on := 11, ground := Go.Ground.phase }, { on := 12, ground := Go.Ground.phase }, { on := 13, ground := Go.Ground.phase }, { on := 14, ground := Go.Ground.textOnly Go.Departure.lateStores }, { on := 15, ground := Go.Ground.textOnly Go.Departure.lateStores }, { on := 16, ground := Go.Ground.textOnly Go.Departure.lateStores }, { on := 17, ground := Go.Ground.textOnly Go.Departure.lateStoresUnsure }, { on := 18, ground := Go.Ground.textOnly Go.Departure.lateStores }, { on := 19, ground := Go.Ground.textOnly Go.Departure.lateStores }, { on := 20, ground := Go.Ground.textOnly Go.Departure.lateStores }, { on := 21, ground := Go.Ground.textOnly Go.Departure.lateStoresUnsure }, { on := 22, ground := Go.Ground.phase }], guard := none }) (v := ?ve7523) rfl (by kernel_rfl) (by kernel_rfl) (by kernel_rfl) (fun _ _ _ h => h) (Or.inl ⟨by rfl, ?hye7523⟩) (by assumption) ?_
        case hye7523 => (intro wz hSw; (try dsimp only at hSw); go_simp; try with_reducible rfl)
        (try simp only [Act.put, List.setIfInBounds_toArray, List.set_cons_zero, List.set_cons_succ])
        refine wpAnyH_take (i := 24) (oi := { dst := some 12, op := Go.Op.assign (Go.Operand.tmp 71), type := 77, pos := _, after := #[{ on := 17, ground := Go.Ground.data }, { on := 23, ground := Go.Ground.chain }, { on := 0, ground := Go.Ground.phase }, { on := 1, ground := Go.Ground.phase }, { on := 2, ground := Go.Ground.phase }, { on := 3, ground := Go.Ground.phase }, { on := 4, ground := Go.Ground.phase }, { on := 5, ground := Go.Ground.phase }, { on := 6, ground := Go.Ground.phase }, { on := 7, ground := Go.Ground.phase }, { on := 8, ground := Go.Ground.phase }, { on := 9, ground := Go.Ground.phase }, { on := 10, ground := Go.Ground.phase }, { on := 11, ground := Go.Ground.phase }, { on := 12, ground := Go.Ground.phase }, { on := 13, ground := Go.Ground.phase }, { on := 14, ground := Go.Ground.phase }, { on := 15, ground := Go.Ground.phase }, { on := 16, ground := Go.Ground.phase }, { on := 17, ground := Go.Ground.phase }, { on := 18, ground := Go.Ground.textOnly Go.Departure.lateStores }, { on := 19, ground := Go.Ground.textOnly Go.Departure.lateStores }, { on := 20, ground := Go.Ground.textOnly Go.Departure.lateStores }, { on := 21, ground := Go.Ground.textOnly Go.Departure.lateStoresUnsure }, { on := 22, ground := Go.Ground.phase }, { on := 23, ground := Go.Ground.phase }], guard := none }) (v := ?ve7524) rfl (by kernel_rfl) (by kernel_rfl) (by kernel_rfl) (fun _ _ _ h => h) (Or.inl ⟨by rfl, ?hye7524⟩) (by assumption) ?_
        case hye7524 => (intro wz hSw; (try dsimp only at hSw); go_simp; try with_reducible rfl)
        (try simp only [Act.put, List.setIfInBounds_toArray, List.set_cons_zero, List.set_cons_succ])
        refine wpAnyH_take (i := 25) (oi := { dst := some 13, op := Go.Op.assign (Go.Operand.tmp 75), type := 77, pos := _, after := #[{ on := 21, ground := Go.Ground.data }, { on := 24, ground := Go.Ground.chain }, { on := 0, ground := Go.Ground.phase }, { on := 1, ground := Go.Ground.phase }, { on := 2, ground := Go.Ground.phase }, { on := 3, ground := Go.Ground.phase }, { on := 4, ground := Go.Ground.phase }, { on := 5, ground := Go.Ground.phase }, { on := 6, ground := Go.Ground.phase }, { on := 7, ground := Go.Ground.phase }, { on := 8, ground := Go.Ground.phase }, { on := 9, ground := Go.Ground.phase }, { on := 10, ground := Go.Ground.phase }, { on := 11, ground := Go.Ground.phase }, { on := 12, ground := Go.Ground.phase }, { on := 13, ground := Go.Ground.phase }, { on := 14, ground := Go.Ground.phase }, { on := 15, ground := Go.Ground.phase }, { on := 16, ground := Go.Ground.phase }, { on := 17, ground := Go.Ground.phase }, { on := 18, ground := Go.Ground.phase }, { on := 19, ground := Go.Ground.phase }, { on := 20, ground := Go.Ground.phase }, { on := 21, ground := Go.Ground.phase }, { on := 22, ground := Go.Ground.phase }, { on := 23, ground := Go.Ground.phase }, { on := 24, ground := Go.Ground.phase }], guard := none }) (v := ?ve7525) rfl (by kernel_rfl) (by kernel_rfl) (by kernel_rfl) (fun _ _ _ h => h) (Or.inl ⟨by rfl, ?hye7525⟩) (by assumption) ?_
        case hye7525 => (intro wz hSw; (try dsimp only at hSw); go_simp; try with_reducible rfl)
        (try simp only [Act.put, List.setIfInBounds_toArray, List.set_cons_zero, List.set_cons_succ])
        refine wpAnyH_done (by kernel_rfl) ?_ _
        go_wp2
        exact bodyPost_ret (res47 rfl rfl rfl rfl) rfl ⟨_, _, _, fr ++ [(a : Int)], pl ++ [(nt : Int)], by rw [HE.out.1]; rfl, Lib.hid (FIN.out _ _ _ _ bc_75.out ot_75.out of_75.out op_75.out sp_75.out), bc_75⟩
      refine AllReadyH.cons (o := { dst := some 70, op := Go.Op.buildSlice 77 1 #[(0, Go.Operand.tmp 69)], type := 77, pos := _, after := #[{ on := 15, ground := Go.Ground.data }], guard := none }) rfl (fun K hK => ?_) AllReadyH.nil
      go_simp
      have bb_77 : Hid (Below Bt w (w_65.alloc (.cells #[.int .i64 a] 3)) ∧ w_65.heap.size < (w_65.alloc (.cells #[.int .i64 a] 3)).heap.size) := Lib.hid ⟨below_then bc_65.out (below_alloc w_65 _) (bsize bc_65.out), by show _ < (Array.push _ _).size; simp⟩
      refine hK.out _ _ (KH.out _ bb_77.out.1) (fun hHeld_77 => ?_)
      clear hK K
      (try simp only [Act.put, List.setIfInBounds_toArray, List.set_cons_zero, List.set_cons_succ])
      obtain ⟨w_77, hw_77⟩ : ∃ z, z = w_65.alloc (.cells #[.int .i64 a] 3) := ⟨_, rfl⟩
      have nc_77 : Hid (w_77.cell? ⟨w_65.heap.size, 0, none⟩ = some (.int .i64 a)) := Lib.hid (by rw [hw_77]; have z := new_cell w_65 (.int .i64 a) 3; rw [Go.WideShapes.add_plain] at z; exact z)
      have bc_77 : Hid (Below Bt w w_77) := Lib.hid (by rw [hw_77]; exact bb_77.out.1)
      have bl_77 : Hid (Below w_65.heap.size w_65 w_77) := Lib.hid (by rw [hw_77]; exact below_alloc w_65 _)
      rw [← hw_77] at hHeld_77 ⊢
      clear bb_77 hw_77
      have ot_77 := Lib.hid (own_below ot_65.out bl_77.out)
      have of_77 := Lib.hid (own_below of_65.out bl_77.out)
      have op_77 := Lib.hid (own_below op_65.out bl_77.out)
      have n20_77 := Lib.hid (cell_below nc_65.out bl_77.out)
      refine wpAnyH_ready (rs := [1]) (by kernel_rfl) (by simp) ?_
      refine AllReadyH.cons (o := { dst := some 55, op := Go.Op.call { callee := Go.Callee.value (Go.Operand.func 45), args := #[Go.Operand.tmp 54], argTypes := #[3] }, type := 27, pos := _, after := #[{ on := 0, ground := Go.Ground.data }], guard := none }) rfl (fun K hK => ?_) AllReadyH.nil
      rw [if_pos (by rfl)]
      go_simp
      refine (PT.out _).mono ?_; rintro e w_78 ⟨rfl, heq_78⟩
      subst heq_78
      go_wp2_with fail
      refine hK.out _ _ (KH.out _ bc_77.out) (fun hHeld_78 => ?_)
      clear hK K
      (try simp only [Act.put, List.setIfInBounds_toArray, List.set_cons_zero, List.set_cons_succ])
      refine wpAnyH_ready (rs := [13]) (by kernel_rfl) (by simp) ?_
      refine AllReadyH.cons (o := { dst := some 67, op := Go.Op.call { callee := Go.Callee.builtin Go.Builtin.append, args := #[Go.Operand.tmp 56, Go.Operand.tmp 66], argTypes := #[45, 45] }, type := 45, pos := _, after := #[{ on := 2, ground := Go.Ground.data }, { on := 12, ground := Go.Ground.data }, { on := 1, ground := Go.Ground.chain }], guard := none }) rfl (fun K hK => ?_) AllReadyH.nil
      rw [if_pos (by rfl)]
      refine wp_append_at (.tmp 56) (.tmp 66) 45 rfl Bt 27 i0 (.int .u64 0) 8 Try.underlying45 hi0 hz0 hz1 hz2 rfl _ nt (wd s.T.ws) rfl ot_77.out ⟨g, off, none⟩ (sz + 1) (c0 - a) (wd (F.ws.getD a 0 :: objOf F a)) rfl (by rw [wd_len]; exact NWL.out) (NW.out _ bc_77.out) (one_wd _) (by unfold maxLen; omega) (by omega) (bsize bc_77.out) ?_
      intro v_79 w_79 own_79 gr_79 at_79
      have bc_79 : Hid (Below Bt w w_79) := Lib.hid (grown_b bc_77.out ot_77.out gr_79)
      refine hK.out _ _ (KH.out _ bc_79.out) (fun hHeld_79 => ?_)
      clear hK K
      (try simp only [Act.put, List.setIfInBounds_toArray, List.set_cons_zero, List.set_cons_succ])
      have ot_79 := Lib.hid own_79
      have of_79 := Lib.hid (own_grown of_77.out gr_79 (fun k hk hr => (own_own_ne of_77.out ot_77.out (by decide) k hk) hr))
      have op_79 := Lib.hid (own_grown op_77.out gr_79 (fun k hk hr => (own_own_ne op_77.out ot_77.out (by decide) k hk) hr))
      have n16_79 := Lib.hid (cell_grown nc_77.out gr_79 (fun hr => by have := (Yot.out _ hr); have := bc_65.out.size; omega))
      have n20_79 := Lib.hid (cell_grown n20_77.out gr_79 (fun hr => by have := (Yot.out _ hr); have := BB0.out.size; omega))
      clear own_79 gr_79 at_79
      refine wpAnyH_ready (rs := [17]) (by kernel_rfl) (by simp) ?_
      refine AllReadyH.cons (o := { dst := some 71, op := Go.Op.call { callee := Go.Callee.builtin Go.Builtin.append, args := #[Go.Operand.tmp 68, Go.Operand.tmp 70], argTypes := #[77, 77] }, type := 77, pos := _, after := #[{ on := 14, ground := Go.Ground.data }, { on := 16, ground := Go.Ground.data }, { on := 13, ground := Go.Ground.chain }], guard := none }) rfl (fun K hK => ?_) AllReadyH.nil
      rw [if_pos (by rfl)]
      refine wp_append_at (.tmp 68) (.tmp 70) 77 rfl Bt 3 j0 (.int .i64 0) 8 Try.underlying77 hj0 hy0 hy1 hy2 rfl _ nf (il fr) rfl of_79.out ⟨w_65.heap.size, 0, none⟩ 1 1 [.int .i64 a] rfl rfl (news1 n16_79.out) (one1 a) (by unfold maxLen; omega) (by omega) (bsize bc_79.out) ?_
      intro v_80 w_80 own_80 gr_80 at_80
      have bc_80 : Hid (Below Bt w w_80) := Lib.hid (grown_b bc_79.out of_79.out gr_80)
      refine hK.out _ _ (KH.out _ bc_80.out) (fun hHeld_80 => ?_)
      clear hK K
      (try simp only [Act.put, List.setIfInBounds_toArray, List.set_cons_zero, List.set_cons_succ])
      have of_80 := Lib.hid own_80
      have ot_80 := Lib.hid (own_grown ot_79.out gr_80 (fun k hk hr => (own_own_ne ot_79.out of_79.out (by decide) k hk) hr))
      have op_80 := Lib.hid (own_grown op_79.out gr_80 (fun k hk hr => SP0.out k hr hk))
      have n20_80 := Lib.hid (cell_grown n20_79.out gr_80 (fun hr => by have := (Yof.out _ hr); have := BB0.out.size; omega))
      have sp_80 : Hid (∀ k, Value.ownBlock v_80 = some k → (Value.slice Ap nf cP).ownBlock ≠ some k) := Lib.hid (sep_new1 SP0.out op_79.out at_80)
      clear own_80 gr_80 at_80
      refine wpAnyH_ready (rs := [21]) (by kernel_rfl) (by simp) ?_
      refine AllReadyH.cons (o := { dst := some 75, op := Go.Op.call { callee := Go.Callee.builtin Go.Builtin.append, args := #[Go.Operand.tmp 72, Go.Operand.tmp 74], argTypes := #[77, 77] }, type := 77, pos := _, after := #[{ on := 18, ground := Go.Ground.data }, { on := 20, ground := Go.Ground.data }, { on := 17, ground := Go.Ground.chain }], guard := none }) rfl (fun K hK => ?_) AllReadyH.nil
      rw [if_pos (by rfl)]
      refine wp_append_at (.tmp 72) (.tmp 74) 77 rfl Bt 3 j0 (.int .i64 0) 8 Try.underlying77 hj0 hy0 hy1 hy2 rfl _ nf (il pl) rfl op_80.out ⟨w_0.heap.size, 0, none⟩ 1 1 [.int .i64 nt] rfl rfl (news1 n20_80.out) (one1 nt) (by unfold maxLen; omega) (by omega) (bsize bc_80.out) ?_
      intro v_81 w_81 own_81 gr_81 at_81
      have bc_81 : Hid (Below Bt w w_81) := Lib.hid (grown_b bc_80.out op_80.out gr_81)
      refine hK.out _ _ (KH.out _ bc_81.out) (fun hHeld_81 => ?_)
      clear hK K
      (try simp only [Act.put, List.setIfInBounds_toArray, List.set_cons_zero, List.set_cons_succ])
      have op_81 := Lib.hid own_81
      have ot_81 := Lib.hid (own_grown ot_80.out gr_81 (fun k hk hr => (own_own_ne ot_80.out op_80.out (by decide) k hk) hr))
      have of_81 := Lib.hid (own_grown of_80.out gr_81 (fun k hk hr => sp_80.out k hk hr))
      have sp_81 : Hid (∀ k, Value.ownBlock v_80 = some k → v_81.ownBlock ≠ some k) := Lib.hid (sep_new2 sp_80.out of_80.out at_81)
      clear own_81 gr_81 at_81
      refine wpAnyH_take (i := 22) (oi := { dst := some 10, op := Go.Op.assign (Go.Operand.tmp 55), type := 27, pos := _, after := #[{ on := 1, ground := Go.Ground.data }, { on := 21, ground := Go.Ground.chain }, { on := 0, ground := Go.Ground.phase }, { on := 1, ground := Go.Ground.phase }, { on := 2, ground := Go.Ground.textOnly Go.Departure.lateStores }, { on := 3, ground := Go.Ground.textOnly Go.Departure.lateStores }, { on := 4, ground := Go.Ground.textOnly Go.Departure.lateStores }, { on := 5, ground := Go.Ground.textOnly Go.Departure.lateStores }, { on := 6, ground := Go.Ground.textOnly Go.Departure.lateStores }, { on := 7, ground := Go.Ground.textOnly Go.Departure.lateStores }, { on := 8, ground := Go.Ground.textOnly Go.Departure.lateStores }, { on := 9, ground := Go.Ground.textOnly Go.Departure.lateStores }, { on := 10, ground := Go.Ground.textOnly Go.Departure.lateStores }, { on := 11, ground := Go.Ground.textOnly Go.Departure.lateStores }, { on := 12, ground := Go.Ground.textOnly Go.Departure.lateStoresUnsure }, { on := 13, ground := Go.Ground.textOnly Go.Departure.lateStoresUnsure }, { on := 14, ground := Go.Ground.textOnly Go.Departure.lateStores }, { on := 15, ground := Go.Ground.textOnly Go.Departure.lateStores }, { on := 16, ground := Go.Ground.textOnly Go.Departure.lateStores }, { on := 17, ground := Go.Ground.textOnly Go.Departure.lateStoresUnsure }, { on := 18, ground := Go.Ground.textOnly Go.Departure.lateStores }, { on := 19, ground := Go.Ground.textOnly Go.Departure.lateStores }, { on := 20, ground := Go.Ground.textOnly Go.Departure.lateStores }, { on := 21, ground := Go.Ground.textOnly Go.Departure.lateStoresUnsure }], guard := none }) (v := ?ve8122) rfl (by kernel_rfl) (by kernel_rfl) (by kernel_rfl) (fun _ _ _ h => h) (Or.inl ⟨by rfl, ?hye8122⟩) (by assumption) ?_
      case hye8122 => (intro wz hSw; (try dsimp only at hSw); go_simp; try with_reducible rfl)
      (try simp only [Act.put, List.setIfInBounds_toArray, List.set_cons_zero, List.set_cons_succ])
      refine wpAnyH_take (i := 23) (oi := { dst := some 11, op := Go.Op.assign (Go.Operand.tmp 67), type := 45, pos := _, after := #[{ on := 13, ground := Go.Ground.data }, { on := 22, ground := Go.Ground.chain }, { on := 0, ground := Go.Ground.phase }, { on := 1, ground := Go.Ground.phase }, { on := 2, ground := Go.Ground.phase }, { on := 3, ground := Go.Ground.phase }, { on := 4, ground := Go.Ground.phase }, { on := 5, ground := Go.Ground.phase }, { on := 6, ground := Go.Ground.phase }, { on := 7, ground := Go.Ground.phase }, { on := 8, ground := Go.Ground.phase }, { on := 9, ground := Go.Ground.phase }, { on := 10, ground := Go.Ground.phase }, { on := 11, ground := Go.Ground.phase }, { on := 12, ground := Go.Ground.phase }, { on := 13, ground := Go.Ground.phase }, { on := 14, ground := Go.Ground.textOnly Go.Departure.lateStores }, { on := 15, ground := Go.Ground.textOnly Go.Departure.lateStores }, { on := 16, ground := Go.Ground.textOnly Go.Departure.lateStores }, { on := 17, ground := Go.Ground.textOnly Go.Departure.lateStoresUnsure }, { on := 18, ground := Go.Ground.textOnly Go.Departure.lateStores }, { on := 19, ground := Go.Ground.textOnly Go.Departure.lateStores }, { on := 20, ground := Go.Ground.textOnly Go.Departure.lateStores }, { on := 21, ground := Go.Ground.textOnly Go.Departure.lateStoresUnsure }, { on := 22, ground := Go.Ground.phase }], guard := none }) (v := ?ve8123) rfl (by kernel_rfl) (by kernel_rfl) (by kernel_rfl) (fun _ _ _ h => h) (Or.inl ⟨by rfl, ?hye8123⟩) (by assumption) ?_
      case hye8123 => (intro wz hSw; (try dsimp only at hSw); go_simp; try with_reducible rfl)
      (try simp only [Act.put, List.setIfInBounds_toArray, List.set_cons_zero, List.set_cons_succ])
      refine wpAnyH_take (i := 24) (oi := { dst := some 12, op := Go.Op.assign (Go.Operand.tmp 71), type := 77, pos := _, after := #[{ on := 17, ground := Go.Ground.data }, { on := 23, ground := Go.Ground.chain }, { on := 0, ground := Go.Ground.phase }, { on := 1, ground := Go.Ground.phase }, { on := 2, ground := Go.Ground.phase }, { on := 3, ground := Go.Ground.phase }, { on := 4, ground := Go.Ground.phase }, { on := 5, ground := Go.Ground.phase }, { on := 6, ground := Go.Ground.phase }, { on := 7, ground := Go.Ground.phase }, { on := 8, ground := Go.Ground.phase }, { on := 9, ground := Go.Ground.phase }, { on := 10, ground := Go.Ground.phase }, { on := 11, ground := Go.Ground.phase }, { on := 12, ground := Go.Ground.phase }, { on := 13, ground := Go.Ground.phase }, { on := 14, ground := Go.Ground.phase }, { on := 15, ground := Go.Ground.phase }, { on := 16, ground := Go.Ground.phase }, { on := 17, ground := Go.Ground.phase }, { on := 18, ground := Go.Ground.textOnly Go.Departure.lateStores }, { on := 19, ground := Go.Ground.textOnly Go.Departure.lateStores }, { on := 20, ground := Go.Ground.textOnly Go.Departure.lateStores }, { on := 21, ground := Go.Ground.textOnly Go.Departure.lateStoresUnsure }, { on := 22, ground := Go.Ground.phase }, { on := 23, ground := Go.Ground.phase }], guard := none }) (v := ?ve8124) rfl (by kernel_rfl) (by kernel_rfl) (by kernel_rfl) (fun _ _ _ h => h) (Or.inl ⟨by rfl, ?hye8124⟩) (by assumption) ?_
      case hye8124 => (intro wz hSw; (try dsimp only at hSw); go_simp; try with_reducible rfl)
      (try simp only [Act.put, List.setIfInBounds_toArray, List.set_cons_zero, List.set_cons_succ])
      refine wpAnyH_take (i := 25) (oi := { dst := some 13, op := Go.Op.assign (Go.Operand.tmp 75), type := 77, pos := _, after := #[{ on := 21, ground := Go.Ground.data }, { on := 24, ground := Go.Ground.chain }, { on := 0, ground := Go.Ground.phase }, { on := 1, ground := Go.Ground.phase }, { on := 2, ground := Go.Ground.phase }, { on := 3, ground := Go.Ground.phase }, { on := 4, ground := Go.Ground.phase }, { on := 5, ground := Go.Ground.phase }, { on := 6, ground := Go.Ground.phase }, { on := 7, ground := Go.Ground.phase }, { on := 8, ground := Go.Ground.phase }, { on := 9, ground := Go.Ground.phase }, { on := 10, ground := Go.Ground.phase }, { on := 11, ground := Go.Ground.phase }, { on := 12, ground := Go.Ground.phase }, { on := 13, ground := Go.Ground.phase }, { on := 14, ground := Go.Ground.phase }, { on := 15, ground := Go.Ground.phase }, { on := 16, ground := Go.Ground.phase }, { on := 17, ground := Go.Ground.phase }, { on := 18, ground := Go.Ground.phase }, { on := 19, ground := Go.Ground.phase }, { on := 20, ground := Go.Ground.phase }, { on := 21, ground := Go.Ground.phase }, { on := 22, ground := Go.Ground.phase }, { on := 23, ground := Go.Ground.phase }, { on := 24, ground := Go.Ground.phase }], guard := none }) (v := ?ve8125) rfl (by kernel_rfl) (by kernel_rfl) (by kernel_rfl) (fun _ _ _ h => h) (Or.inl ⟨by rfl, ?hye8125⟩) (by assumption) ?_
      case hye8125 => (intro wz hSw; (try dsimp only at hSw); go_simp; try with_reducible rfl)
      (try simp only [Act.put, List.setIfInBounds_toArray, List.set_cons_zero, List.set_cons_succ])
      refine wpAnyH_done (by kernel_rfl) ?_ _
      go_wp2
      exact bodyPost_ret (res47 rfl rfl rfl rfl) rfl ⟨_, _, _, fr ++ [(a : Int)], pl ++ [(nt : Int)], by rw [HE.out.1]; rfl, Lib.hid (FIN.out _ _ _ _ bc_81.out ot_81.out of_81.out op_81.out sp_81.out), bc_81⟩
end Go.Proofs.Ytknpgmbniohcnaa
