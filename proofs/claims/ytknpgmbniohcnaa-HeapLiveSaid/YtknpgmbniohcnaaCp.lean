import Derived.Test.YtknpgmbniohcnaaCol
namespace Go.Proofs.Ytknpgmbniohcnaa
open Go.ChangeShapes Go.WideShapes Go.ChangeAt Go.RowKit
set_option linter.unusedVariables false
theorem info3 : (Try.prog.info? 3).map (fun i => (i.zero, i.size, i.bytes)) = some (some (.int .i64 0), 1, 8) := by kernel_rfl
theorem wp_make_any {P : Program} {o : Oper} {a : Act} {w : World} {K : Act → World → Prop} {Q : Exit → Act → World → Prop} (l c : Operand) (t : TypeId) (hop : o.op = Op.makeSlice t l c)
    (e : TypeId) (i : TypeInfo) (z : Value) (h1 : P.underlying t = some (.slice e)) (h2 : P.info? e = some i) (h3 : i.zero = some z)
    (n : Nat) (hl : a.eval l = .int .i64 n) (hc : a.eval c = .int .i64 n) (b2 : i.bytes * n ≤ 281474976710656) (b3 : n ≤ maxLen)
    (hK : K (a.put o.dst (.slice (some ⟨w.heap.size, 0, none⟩) n n)) (w.alloc (.cells (madeCells z.cells (n * i.size)) e))) : o.wp P a w K Q := by
  have h63 : (n : Int) ≤ 9223372036854775807 := by simp [maxLen] at b3; omega
  have hb' : (i.bytes : Int) * (n : Int) ≤ 281474976710656 := by
    have h : ((i.bytes * n : Nat) : Int) ≤ 281474976710656 := by omega
    rwa [Int.natCast_mul] at h
  have hr := run_make (P := P) w t e i z h1 h2 h3 .i64 .i64 n n (by omega) (Int.le_refl _) hb' h63
  simp only [Int.toNat_natCast] at hr
  unfold Oper.wp
  simp [execOp, hop, hl, hc, hr, Result.andThen]
  exact hK
/-- the copier as Collect makes it. -/
structure Cp0 (w W : World) (H o C M : Nat) (m : Hm) : Prop where
  bel : Below w.heap.size w W
  sz : W.heap.size = w.heap.size + 2
  hC : W.heap[C]? = some (.cells #[.pointer (some ⟨H, o, none⟩), .int .i64 m.room, .int .i64 0, .slice none 0 0, .slice none 0 0, .slice (some ⟨M, 0, none⟩) m.ws.length m.ws.length] 79 (0, 0))
  hM : W.heap[M]? = some (.cells (madeCells #[.int .i64 0] m.ws.length) 3 (0, 0))
  ne : C ≠ M
  ge : w.heap.size ≤ C ∧ w.heap.size ≤ M
theorem cp0_at {w W w1 : World} {H o C M B : Nat} {m : Hm} (h : HpAt w B H o m) (c : Cp0 w W H o C M m) (hb : Below W.heap.size W w1) : CpAt w1 H o B w1.heap.size C M m (s0 m) := by
  have hC : C < W.heap.size := (Array.getElem?_eq_some_iff.1 c.hC).1
  have hM : M < W.heap.size := (Array.getElem?_eq_some_iff.1 c.hM).1
  have hC1 := (hb.block C hC).trans c.hC
  have hM1 := (hb.block M hM).trans c.hM
  have hsz := hb.size
  have bel : Below w.heap.size w w1 := bt c.bel hb
  have hlt := h.ok.lt
  refine ⟨⟨h.below bel, ⟨(cinv_s0 h.ok).tok, Nat.le_refl _, _, 79, none, 0, none, 0, by decide, by decide, by decide, hC1, rfl, rfl, rfl, rfl, World.ownsRow_nil _ _ _ _, World.ownsRow_nil _ _ _ _⟩, ?_, ⟨m.ws.length, ?_, ?_⟩, fun k hk => ?_, ⟨by omega, by omega, c.ne⟩⟩, cinv_s0 h.ok⟩
  · unfold World.cell?; rw [hC1]; rfl
  · have : (s0 m).mv.length = m.ws.length := by simp [s0]
    rw [this]
    unfold World.cell?; rw [hC1]; rfl
  · have e : (s0 m).mv.length = m.ws.length := by simp [s0]
    rw [e]
    refine ⟨by simp [il_len, s0], .inr ⟨M, _, _, rfl, Nat.zero_le _, hM1, Nat.le_refl _, by unfold maxLen; omega, by simp [size_madeCells], ?_⟩⟩
    rw [toList_madeCells_one, List.take_of_length_le (by simp)]
    simp [il, s0]
  · have hk2 := HR_below bel h.lt hk
    have := c.ge
    rcases h.ge hk2 with e | e
    · have := h.lt; omega
    · omega
theorem cp0_A {w : World} {H o B : Nat} {m : Hm} (h : HpAt w B H o m) (c : Array Value) (hc : c = #[.pointer (some ⟨H, o, none⟩), .int .i64 m.room, .int .i64 0, .slice none 0 0, .slice none 0 0, .slice (some ⟨w.heap.size, 0, none⟩) m.ws.length m.ws.length]) :
    Cp0 w ((w.alloc (.cells (madeCells #[.int .i64 0] m.ws.length) 3)).alloc (.cells c 79)).drew H o (w.heap.size + 1) w.heap.size m := by
  subst hc
  refine ⟨((below_alloc w _).alloc (by show _ ≤ (w.heap.push _).size; simp) _).drew, by show ((w.heap.push _).push _).size = _; simp, ?_, ?_, by omega, by omega, Nat.le_refl _⟩
  · show (((w.heap.push _).push _))[w.heap.size + 1]? = _
    rw [Array.getElem?_push, if_pos (by simp)]
  · show (((w.heap.push _).push _))[w.heap.size]? = _
    rw [Array.getElem?_push, if_neg (by simp), Array.getElem?_push, if_pos rfl]
theorem cp0_B {w : World} {H o B : Nat} {m : Hm} (h : HpAt w B H o m) (c : Array Value) (hc : c = #[.pointer (some ⟨H, o, none⟩), .int .i64 m.room, .int .i64 0, .slice none 0 0, .slice none 0 0, .slice (some ⟨w.heap.size + 1, 0, none⟩) m.ws.length m.ws.length]) :
    Cp0 w ((w.alloc (.cells c 79)).alloc (.cells (madeCells #[.int .i64 0] m.ws.length) 3)).drew H o w.heap.size (w.heap.size + 1) m := by
  subst hc
  refine ⟨((below_alloc w _).alloc (by show _ ≤ (w.heap.push _).size; simp) _).drew, by show ((w.heap.push _).push _).size = _; simp, ?_, ?_, by omega, Nat.le_refl _, by omega⟩
  · show (((w.heap.push _).push _))[w.heap.size]? = _
    rw [Array.getElem?_push, if_neg (by simp), Array.getElem?_push, if_pos rfl]
  · show (((w.heap.push _).push _))[w.heap.size + 1]? = _
    rw [Array.getElem?_push, if_pos (by simp)]
theorem info28' : (Try.prog.info? 28).map (fun i => (i.zero, i.size, i.bytes)) = some (some (.int .u64 0), 1, 8) := info28
/-- the roots on their way. -/
structure R1 (w w1 wr : World) (H o B C M O : Nat) (m : Hm) (s : CS) (outs : List Int) (q : Nat) : Prop where
  cp : CpAt wr H o B w1.heap.size C M m s
  bel : Below w.heap.size w wr
  ol : w.heap.size ≤ O ∧ O < w1.heap.size ∧ O ≠ C ∧ O ≠ M
  own : wr.ownsRow w.heap.size 28 1 (.slice (some ⟨O, 0, none⟩) q q) q (wd outs)
theorem R1.H {w w1 wr : World} {H o B C M O q : Nat} {m : Hm} {s : CS} {outs : List Int} (r : R1 w w1 wr H o B C M O m s outs q) : H < wr.heap.size := r.cp.fr.lt
theorem RC_below {w w1 : World} {w2 w3 : World} {C M : Nat} (hC : w.heap.size ≤ C) (hM : w.heap.size ≤ M) (h1 : w.heap.size ≤ w1.heap.size) (hb : Below w.heap.size w w2) (f : Frm w2 w3 (RC w1.heap.size C M)) : Below w.heap.size w w3 :=
  hb.trans (f.below (fun k hk => by rcases hk with e | e | e <;> omega) hb.size)
theorem R1.move {w w1 wr wr' : World} {H o B C M O q : Nat} {m : Hm} {s s' : CS} {outs : List Int} (r : R1 w w1 wr H o B C M O m s outs q) (hC : w.heap.size ≤ C) (hM : w.heap.size ≤ M) (h : CpAt wr' H o B w1.heap.size C M m s') (f : Frm wr wr' (RC w1.heap.size C M)) : R1 w w1 wr' H o B C M O m s' outs q := by
  obtain ⟨h1, h2, h3, h4⟩ := r.ol
  refine ⟨h, RC_below hC hM (by omega) r.bel f, r.ol, own_frm r.own f (fun k hk hr => ?_)⟩
  simp [Value.ownBlock] at hk; subst hk
  rcases hr with e | e | e <;> omega
theorem CpAt.out {w : World} {H o Bf Bt C M O : Nat} {F : Hm} {s : CS} (h : CpAt w H o Bf Bt C M F s) (i : Nat) (v : Value) (ho : O < Bt ∧ O ≠ C ∧ O ≠ M) (hh : ∀ k, HR w H o k → k ≠ O) : CpAt (w.setCell ⟨O, i, none⟩ v) H o Bf Bt C M F s := by
  have f : Frm w (w.setCell ⟨O, i, none⟩ v) (fun k => k = O) := frm_set i v rfl
  obtain ⟨cm, q1, q2⟩ := h.c5
  obtain ⟨b1, b2, b3⟩ := h.cb
  have hC := h.to.lt
  have hH := h.fr.lt
  have nH : ¬ H = O := hh H (.inl rfl)
  have nC : ¬ C = O := fun e => ho.2.1 e.symm
  refine ⟨⟨h.fr.frm f hh, h.to.frm f (fun k hk e => ?_), (frm_cell f hC nC).trans h.c0, ⟨cm, (frm_cell f hC nC).trans q1, own_frm q2 f (fun k hk e => ?_)⟩, fun k hk => h.sep k (HR_eq (frm_cell f hH nH) (frm_cell f hH nH) hk), h.cb⟩, h.inv⟩
  · rcases h.to.ge hk with e2 | e2 <;> omega
  · simp [Value.ownBlock] at hk; omega
theorem R1.store {w w1 wr : World} {H o B C M O q k : Nat} {m : Hm} {s : CS} {outs : List Int} (r : R1 w w1 wr H o B C M O m s outs q) (hlt : ∀ k, HR wr H o k → k < w.heap.size) (v : Int) : R1 w w1 (wr.setCell ⟨O, k, none⟩ (.int .u64 v)) H o B C M O m s (outs.set k v) q := by
  obtain ⟨h1, h2, h3, h4⟩ := r.ol
  have f : Frm wr (wr.setCell ⟨O, k, none⟩ (.int .u64 v)) (fun k => k = O) := frm_set k _ rfl
  refine ⟨r.cp.out k _ ⟨h2, h3, h4⟩ (fun j hj => by have := hlt j hj; omega), r.bel.trans (f.below (fun j hj => by omega) r.bel.size), r.ol, ?_⟩
  rw [show wd (outs.set k v) = (wd outs).set k (.int .u64 v) from by simp [wd, List.map_set]]
  exact (r.own.stored k _).1
theorem HR_lt {w wr : World} {B H o : Nat} {m : Hm} (h : HpAt w B H o m) (hb : Below w.heap.size w wr) {k : Nat} (hk : HR wr H o k) : k < w.heap.size := by
  have hk2 := HR_below hb h.lt hk
  rcases h.ge hk2 with e | e
  · rw [e]; exact h.lt
  · exact e.2
/-- the heap behind the collection, in memory. -/
theorem fin_at {w w1 wr : World} {H o B C M O q n1 c1 n2 c2 : Nat} {A1 A2 : Option Addr} {m : Hm} {s : CS} {outs : List Int} {t : Int} (h : HpAt w B H o m) (h1 : w.heap.size ≤ w1.heap.size) (r : R1 w w1 wr H o B C M O m s outs q)
    (e1 : wr.cell? ⟨C, 3, none⟩ = some (.slice A1 n1 c1)) (e2 : wr.cell? ⟨C, 4, none⟩ = some (.slice A2 n2 c2)) (hok : (Hm.mk m.room t s.T.ws s.T.st).Ok) {w' : World} (hw : w'.heap = (((wr.setCell ⟨H, o + 2, none⟩ (.slice A1 n1 c1)).setCell ⟨H, o + 3, none⟩ (.slice A2 n2 c2)).setCell ⟨H, o + 1, none⟩ (.int .i64 t)).heap) (hw1 : w'.os = wr.os) (hw2 : w'.tape = wr.tape) (hw3 : w'.output = wr.output) :
    HpAt w' B H o ⟨m.room, t, s.T.ws, s.T.st⟩ ∧ Frm w w' (fun k => k = H) ∧ w'.ownsRow w.heap.size 28 1 (.slice (some ⟨O, 0, none⟩) q q) q (wd outs) ∧ ∀ k, HR w' H o k → k ≠ O := by
  obtain ⟨cc, T, A1', c1', A2', c2', t1, t2, t3, d1, d2, d3, d4, d5, o1, o2⟩ := r.cp.fr.at_
  obtain ⟨kc, TT, X1, y1, X2, y2, s1, s2, s3, k1, k2, k3, k4, k5, p1, p2⟩ := r.cp.to.at_
  have z1 : wr.cell? ⟨C, 3, none⟩ = some (.slice X1 s.T.ws.length y1) := by simp [World.cell?, k1]; simpa using k4
  have z2 : wr.cell? ⟨C, 4, none⟩ = some (.slice X2 s.T.st.length y2) := by simp [World.cell?, k1]; simpa using k5
  rw [e1] at z1; injection z1 with z1; injection z1 with z1a z1b z1c; subst z1a z1b z1c
  rw [e2] at z2; injection z2 with z2; injection z2 with z2a z2b z2c; subst z2a z2b z2c
  obtain ⟨v0, v1, v2, v3⟩ := r.ol
  have f : Frm wr w' (fun k => k = H) := ⟨hw1, hw2, hw3, by rw [hw]; simp [World.setCell], fun i hi hr => by
    rw [hw]
    exact ((((frm_set (R := fun k => k = H) (o + 2) (.slice A1 s.T.ws.length c1) rfl).trans (frm_set (o + 3) (.slice A2 s.T.st.length c2) rfl)).trans (frm_set (o + 1) (.int .i64 t) rfl)).block i hi hr)⟩
  have hsz : w1.heap.size ≤ w'.heap.size := Nat.le_trans r.cp.to.hB f.size
  have hHw := h.lt
  have hHw' : H < w1.heap.size := by omega
  have q1 := own_frm p1 f (fun k hk e => by have := (p1.lt k hk).1; omega)
  have q2 := own_frm p2 f (fun k hk e => by have := (p2.lt k hk).1; omega)
  have sz : o + 3 < cc.size := (Array.getElem?_eq_some_iff.1 d5).1
  have hH' : w'.heap[H]? = some (.cells (((cc.setIfInBounds (o + 2) (.slice A1 s.T.ws.length c1)).setIfInBounds (o + 3) (.slice A2 s.T.st.length c2)).setIfInBounds (o + 1) (.int .i64 t)) T (0, 0)) := by
    rw [hw]; exact set_heap _ (set_heap _ (set_heap _ d1))
  refine ⟨⟨hok, ?_, _, T, A1, c1, A2, c2, t1, t2, t3, hH', ?_, ?_, ?_, ?_, own_mono q1 ?_, own_mono q2 ?_⟩, ⟨f.os.trans r.bel.os, f.tape.trans r.bel.tape, f.output.trans r.bel.output, Nat.le_trans r.bel.size f.size, fun i hi hr => (f.block i (Nat.lt_of_lt_of_le hi r.bel.size) hr).trans (r.bel.block i hi)⟩, own_frm r.own f (fun k hk e => by simp [Value.ownBlock] at hk; omega), fun k hk => ?_⟩
  · have := h.hB; omega
  · rw [Array.getElem?_setIfInBounds_ne (by omega), Array.getElem?_setIfInBounds_ne (by omega), Array.getElem?_setIfInBounds_ne (by omega)]; exact d2
  · rw [Array.getElem?_setIfInBounds_self_of_lt (by simp; omega)]
  · rw [Array.getElem?_setIfInBounds_ne (by omega), Array.getElem?_setIfInBounds_ne (by omega), Array.getElem?_setIfInBounds_self_of_lt (by omega)]
  · rw [Array.getElem?_setIfInBounds_ne (by omega), Array.getElem?_setIfInBounds_self_of_lt (by simp; omega)]
  · have := h.hB; omega
  · have := h.hB; omega
  · rcases hk with e | ⟨n, c, e⟩ | ⟨n, c, e⟩
    · omega
    · have : w'.cell? ⟨H, o + 2, none⟩ = some (.slice A1 s.T.ws.length c1) := by
        unfold World.cell?; rw [hH']; simp only
        rw [Array.getElem?_setIfInBounds_ne (by omega), Array.getElem?_setIfInBounds_ne (by omega), Array.getElem?_setIfInBounds_self_of_lt (by omega)]; rfl
      rw [this] at e; injection e with e; injection e with e; subst e
      have := (p1.lt k (by simp [Value.ownBlock])).1; omega
    · have : w'.cell? ⟨H, o + 3, none⟩ = some (.slice A2 s.T.st.length c2) := by
        unfold World.cell?; rw [hH']; simp only
        rw [Array.getElem?_setIfInBounds_ne (by omega), Array.getElem?_setIfInBounds_self_of_lt (by simp; omega)]; rfl
      rw [this] at e; injection e with e; injection e with e; subst e
      have := (p2.lt k (by simp [Value.ownBlock])).1; omega
theorem fin_at0 {w w1 wr : World} {H o B C M O q n1 c1 n2 c2 : Nat} {A1 A2 : Option Addr} {m : Hm} {s : CS} {outs : List Int} (h : HpAt w B H o m) (h1 : w.heap.size ≤ w1.heap.size) (r : R1 w w1 wr H o B C M O m s outs q)
    (e1 : wr.cell? ⟨C, 3, none⟩ = some (.slice A1 n1 c1)) (e2 : wr.cell? ⟨C, 4, none⟩ = some (.slice A2 n2 c2)) (hok : (Hm.mk m.room m.turns s.T.ws s.T.st).Ok) {w' : World} (hw : w'.heap = ((wr.setCell ⟨H, o + 2, none⟩ (.slice A1 n1 c1)).setCell ⟨H, o + 3, none⟩ (.slice A2 n2 c2)).heap) (hw1 : w'.os = wr.os) (hw2 : w'.tape = wr.tape) (hw3 : w'.output = wr.output) :
    HpAt w' B H o ⟨m.room, m.turns, s.T.ws, s.T.st⟩ ∧ Frm w w' (fun k => k = H) ∧ w'.ownsRow w.heap.size 28 1 (.slice (some ⟨O, 0, none⟩) q q) q (wd outs) ∧ ∀ k, HR w' H o k → k ≠ O := by
  refine fin_at h h1 r e1 e2 hok (w' := w') ?_ hw1 hw2 hw3
  rw [hw]
  obtain ⟨cc, T, A1', c1', A2', c2', t1, t2, t3, d1, d2, d3, d4, d5, o1, o2⟩ := r.cp.fr.at_
  have hl : o + 1 < cc.size := (Array.getElem?_eq_some_iff.1 d3).1
  have hh := set_heap (i := o + 3) (.slice A2 n2 c2) (set_heap (i := o + 2) (.slice A1 n1 c1) d1)
  have e : ((cc.setIfInBounds (o + 2) (.slice A1 n1 c1)).setIfInBounds (o + 3) (.slice A2 n2 c2)).setIfInBounds (o + 1) (.int .i64 m.turns) = (cc.setIfInBounds (o + 2) (.slice A1 n1 c1)).setIfInBounds (o + 3) (.slice A2 n2 c2) := by
    refine Array.ext_getElem? fun k => ?_
    by_cases hk : k = o + 1
    · subst hk
      rw [Array.getElem?_setIfInBounds_self_of_lt (by simp; omega), Array.getElem?_setIfInBounds_ne (by omega), Array.getElem?_setIfInBounds_ne (by omega), d3]
    · rw [Array.getElem?_setIfInBounds_ne (by omega)]
  refine Array.ext_getElem? fun k => ?_
  by_cases hk : k = H
  · subst hk
    rw [hh, set_heap _ hh, e]
  · simp [World.setCell, Array.getElem?_modify, Ne.symm hk]
theorem set_mid {l : List Int} {k q : Nat} {v : Int} (hl : l.length = k) (hk : k < q) : (l ++ List.replicate (q - k) 0).set k v = (l ++ [v]) ++ List.replicate (q - (k + 1)) 0 := by
  subst hl
  rw [List.set_append_right _ _ (Nat.le_refl _), Nat.sub_self]
  obtain ⟨d, hd⟩ : ∃ d, q - l.length = d + 1 := ⟨q - l.length - 1, by omega⟩
  rw [hd, show q - (l.length + 1) = d from by omega]
  simp [List.replicate_succ]
theorem World.frozen?_of_HpAt {w : World} {B H o g n c : Nat} {m : Hm} (h : HpAt w B H o m) (hg : w.cell? ⟨H, o + 2, none⟩ = some (.slice (some ⟨g, 0, none⟩) n c)) (i : Nat) : w.frozen? ⟨g, i, none⟩ = false := by
  obtain ⟨cc, T, A1, c1, A2, c2, t1, t2, t3, e1, e2, e3, e4, e5, o1, o2⟩ := h.at_
  have f2 : w.cell? ⟨H, o + 2, none⟩ = some (.slice A1 m.ws.length c1) := by simp [World.cell?, e1, e4]
  rw [f2] at hg; injection hg with hg; injection hg with hA _ _
  subst hA
  exact o1.frozenAt i
theorem R1.setW {w w1 wr : World} {H o B C M O q g n c i : Nat} {m : Hm} {s : CS} {outs : List Int} (r : R1 w w1 wr H o B C M O m s outs q) {v : Int} (hg : wr.cell? ⟨C, 3, none⟩ = some (.slice (some ⟨g, 0, none⟩) n c)) (hv : U64 v) (hs : s.T.st.getD i false = false) (hC : w.heap.size ≤ C) (hM : w.heap.size ≤ M) (hI : CInv m ⟨s.T.setW i v, s.mv⟩) : R1 w w1 (wr.setCell ⟨g, i, none⟩ (.int .u64 v)) H o B C M O m ⟨s.T.setW i v, s.mv⟩ outs q := by
  obtain ⟨z1, z2⟩ := cp_setW r.cp.toCpX hg hv hs
  exact r.move hC hM ⟨z1, hI⟩ z2
end Go.Proofs.Ytknpgmbniohcnaa
