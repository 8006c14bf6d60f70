import Derived.Test.YtknpgmbniohcnaaGet
namespace Go.Proofs.Ytknpgmbniohcnaa
open Go.ChangeShapes Go.WideShapes Go.ChangeAt Go.RowKit
set_option linter.unusedVariables false
theorem info28 : (Try.prog.info? 28).map (fun i => (i.zero, i.size, i.bytes)) = some (some (.int .u64 0), 1, 8) := by kernel_rfl
theorem info4 : (Try.prog.info? 4).map (fun i => (i.zero, i.size, i.bytes)) = some (some (.bool false), 1, 1) := by kernel_rfl
/-- a row of words that came in: nil, empty or not. -/
def InW (w : World) (A : Option Addr) (c : Nat) (xs : List Int) : Prop := (A = none → xs.length = 0 ∧ c = 0) ∧ ∀ ad, A = some ad → ∃ b off, ad = ⟨b, off, none⟩ ∧ b < w.heap.size ∧ ∀ j (h : j < xs.length), w.cell? ⟨b, off + j, none⟩ = some (.int .u64 xs[j])
theorem vform {w : World} {B e n : Nat} {v : Value} {xs : List Value} (h : w.ownsRow B e 1 v n xs) : ∃ A c, v = .slice A n c := by
  rcases h.2 with ⟨rfl, rfl⟩ | ⟨g, cap, _, e, _⟩
  · exact ⟨_, _, rfl⟩
  · exact ⟨_, _, e⟩
theorem own_own_ne {w : World} {B B' e e' n n' : Nat} {v v' : Value} {xs xs' : List Value} (h : w.ownsRow B e 1 v n xs) (h' : w.ownsRow B' e' 1 v' n' xs') (hne : e ≠ e') (k : Nat) (hk : v.ownBlock = some k) : v'.ownBlock ≠ some k := by
  intro hk'
  rcases h.2 with ⟨rfl, _⟩ | ⟨g, cap, cur, rfl, _, hg, _⟩
  · simp [Value.ownBlock] at hk
  · rcases h'.2 with ⟨rfl, _⟩ | ⟨g', cap', cur', rfl, _, hg', _⟩
    · simp [Value.ownBlock] at hk'
    · simp [Value.ownBlock] at hk hk'
      subst hk hk'
      rw [hg] at hg'; injection hg' with hg'; injection hg' with _ h2; exact hne h2
theorem own_grown {w w' : World} {B e n : Nat} {v : Value} {xs : List Value} {r : Option Nat} (h : w.ownsRow B e 1 v n xs) (gr : w.grownBy w' r) (hne : ∀ k, v.ownBlock = some k → r ≠ some k) : w'.ownsRow B e 1 v n xs :=
  own_frm h (Frm.of_grown (R := fun k => r = some k) gr (fun _ h => h)) (fun k hk hr => hne k hk hr)
theorem set_heap {w : World} {H i T : Nat} {c : Array Value} (v : Value) (h : w.heap[H]? = some (.cells c T (0, 0))) : (w.setCell ⟨H, i, none⟩ v).heap[H]? = some (.cells (c.setIfInBounds i v) T (0, 0)) := by
  simp [World.setCell, Array.getElem?_modify, h]
def Hm.add (m : Hm) (head : Int) (xs : List Int) : Hm := { m with ws := m.ws ++ head :: xs, st := m.st ++ true :: List.replicate xs.length false }
theorem add_ok {m : Hm} (ok : m.Ok) {head : Int} {xs : List Int} (hh : U64 head) (hxs : ∀ x ∈ xs, U64 x) (hs : okS head) (hsz : splS head = xs.length) (hl : m.ws.length + xs.length + 1 ≤ 65536) : (m.add head xs).Ok := by
  refine ⟨by simp [Hm.add, ok.len], by simp [Hm.add]; omega, ok.r0, ok.r1, ok.t0, ok.t1, ?_, ?_⟩
  · intro x hx
    simp only [Hm.add, List.mem_append, List.mem_cons] at hx
    rcases hx with h | h | h
    · exact ok.wf x h
    · exact h ▸ hh
    · exact hxs x h
  · intro a ha hst
    simp only [Hm.add, List.length_append, List.length_cons] at ha ⊢
    simp only [Hm.add] at hst
    rcases Nat.lt_trichotomy a m.ws.length with h | h | h
    · have h2 : a < m.st.length := by rw [ok.len]; exact h
      rw [List.getD_eq_getElem?_getD, List.getElem?_append_left h2, ← List.getD_eq_getElem?_getD] at hst
      rw [List.getD_eq_getElem?_getD, List.getElem?_append_left h, ← List.getD_eq_getElem?_getD]
      have := ok.snd a h hst
      refine ⟨this.1, by omega, fun j h1 h2 => ?_⟩
      rw [List.getD_eq_getElem?_getD, List.getElem?_append_left (by rw [ok.len]; omega), ← List.getD_eq_getElem?_getD]
      exact this.2.2 j h1 h2
    · subst h
      rw [List.getD_eq_getElem?_getD, List.getElem?_append_right (Nat.le_refl _), Nat.sub_self]
      simp only [List.getElem?_cons_zero, Option.getD_some]
      refine ⟨hs, by omega, fun j h1 h2 => ?_⟩
      rw [List.getD_eq_getElem?_getD, List.getElem?_append_right (by rw [ok.len]; omega), ok.len]
      obtain ⟨d, hd⟩ : ∃ d, j - m.ws.length = d + 1 := ⟨j - m.ws.length - 1, by omega⟩
      rw [hd, List.getElem?_cons_succ, List.getElem?_replicate]
      split <;> rfl
    · rw [List.getD_eq_getElem?_getD, List.getElem?_append_right (by rw [ok.len]; omega), ok.len] at hst
      obtain ⟨d, hd⟩ : ∃ d, a - m.ws.length = d + 1 := ⟨a - m.ws.length - 1, by omega⟩
      rw [hd, List.getElem?_cons_succ, List.getElem?_replicate] at hst
      split at hst <;> simp at hst
set_option maxRecDepth 100000 in
set_option maxHeartbeats 8000000 in
theorem add_any5 {w : World} {B H o : Nat} {m : Hm} (h : HpAt w B H o m) {A : Option Addr} {c : Nat} {head : Int} {xs : List Int} (hx : InW w A c xs) (hsep : ∀ k n c, w.cell? ⟨H, o + 2, none⟩ = some (.slice (some ⟨k, 0, none⟩) n c) → ∀ off, A ≠ some ⟨k, off, none⟩)
    (hh : U64 head) (hxs : ∀ x ∈ xs, U64 x) (hs : okS head) (hsz : splS head = xs.length) (hl : m.ws.length + xs.length + 1 ≤ 65536) :
    Calls Try.prog 35 #[.pointer (some ⟨H, o, none⟩), .int .u64 head, .slice A xs.length c] w fun e w' => e = .returned (.int .u64 ((m.ws.length : Int) * 2)) ∧ Hid (HpAt w' B H o (m.add head xs)) ∧ Hid (Frm w w' (HR w H o)) ∧ Hid (∀ i, i ≠ o + 2 → i ≠ o + 3 → w'.cell? ⟨H, i, none⟩ = w.cell? ⟨H, i, none⟩) ∧ Hid (∀ k, HR w' H o k → HR w H o k ∨ w.heap.size ≤ k) := by
  obtain ⟨i0, hi0, hz0, hz1, hz2⟩ := info_parts info28
  obtain ⟨j0, hj0, hy0, hy1, hy2⟩ := info_parts info4
  obtain ⟨cc, T, A1, c1, A2, c2, t1, t2, t3, e1, e2, e3, e4, e5, o1, o2⟩ := h.at_
  have OK := Lib.hid (add_ok h.ok hh hxs hs hsz hl)
  have hlt := h.lt
  have f2 : w.cell? ⟨H, o + 2, none⟩ = some (.slice A1 m.ws.length c1) := by simp [World.cell?, e1, e4]
  have f3 : w.cell? ⟨H, o + 3, none⟩ = some (.slice A2 m.st.length c2) := by simp [World.cell?, e1, e5]
  have HN : Hid (m.st.length = m.ws.length) := Lib.hid h.ok.len
  obtain ⟨n, hn⟩ : ∃ n, n = m.ws.length := ⟨_, rfl⟩
  obtain ⟨n2, hn2⟩ : ∃ n, n = m.st.length := ⟨_, rfl⟩
  rw [← hn] at f2 e4 o1 hl ⊢
  rw [← hn2] at f3 e5 o2
  have hn12 : n2 = n := by rw [hn, hn2]; exact HN.out
  subst hn12
  obtain ⟨q, hq⟩ : ∃ q, q = xs.length := ⟨_, rfl⟩
  rw [← hq] at hl ⊢
  have PT : Hid (∀ W, Calls Try.prog 12 #[.int .i64 n2] W fun e w' => e = .returned (.int .u64 ((n2 : Int) * 2)) ∧ W = w') := Lib.hid (fun W => by
    have := ptr_any n2 W
    rwa [show clampP (n2 : Int) = n2 from by unfold clampP; rw [if_neg (by omega), if_neg (by omega)]] at this)
  have OW1 := Lib.hid o1; have OW2 := Lib.hid o2
  have HE := Lib.hid e1
  have HE0 := Lib.hid e1
  have HX := Lib.hid hx
  have HB := Lib.hid h.hB
  have HC : Hid (cc[o]? = some (.int .i64 m.room) ∧ cc[o + 1]? = some (.int .i64 m.turns) ∧ cc[o + 2]? = some (.slice A1 n2 c1) ∧ cc[o + 3]? = some (.slice A2 n2 c2)) := Lib.hid ⟨e2, e3, e4, e5⟩
  have HQ := Lib.hid hq
  have HTT : Hid (T ≠ 28 ∧ T ≠ 4 ∧ T ≠ 3) := Lib.hid ⟨t1, t2, t3⟩
  have SEP : Hid (∀ off, ∀ k, Value.ownBlock (.slice A1 n2 c1) = some k → A ≠ some ⟨k, off, none⟩) := Lib.hid (fun off k hk => by
    rcases o1.2 with ⟨e, e0⟩ | ⟨g, cap, cur, e, _⟩
    · rw [e] at hk; simp [Value.ownBlock] at hk
    · rw [e] at hk f2; simp [Value.ownBlock] at hk; subst hk; exact hsep _ _ _ f2 off)
  have RW : Hid (∀ k, Value.ownBlock (.slice A1 n2 c1) = some k → HR w H o k) := Lib.hid (fun k hk => by
    rcases o1.2 with ⟨e, e0⟩ | ⟨g, cap, cur, e, _⟩
    · rw [e] at hk; simp [Value.ownBlock] at hk
    · rw [e] at hk f2; simp [Value.ownBlock] at hk; subst hk; exact .inr (.inl ⟨_, _, f2⟩))
  have RS : Hid (∀ k, Value.ownBlock (.slice A2 n2 c2) = some k → HR w H o k) := Lib.hid (fun k hk => by
    rcases o2.2 with ⟨e, e0⟩ | ⟨g, cap, cur, e, _⟩
    · rw [e] at hk; simp [Value.ownBlock] at hk
    · rw [e] at hk f3; simp [Value.ownBlock] at hk; subst hk; exact .inr (.inr ⟨_, _, f3⟩))
  have HWD : Hid (n2 = m.ws.length ∧ n2 = m.st.length) := Lib.hid ⟨hn, hn2⟩
  obtain ⟨R, hR⟩ : ∃ R : Nat → Prop, R = fun k => HR w H o k ∨ w.heap.size ≤ k := ⟨_, rfl⟩
  have RH : Hid (R H ∧ (∀ k, HR w H o k → R k) ∧ (∀ k, w.heap.size ≤ k → R k)) := Lib.hid (by rw [hR]; exact ⟨.inl (.inl rfl), fun k hk => .inl hk, fun k hk => .inr hk⟩)
  have RB : Hid (∀ k, k < w.heap.size → R k → HR w H o k) := Lib.hid (by rw [hR]; exact fun k hk h => h.resolve_right (by omega))
  clear o1 o2 e1 e2 e3 e4 e5 hx h hsep hn hn2 hq t1 t2 t3 hR hh hxs hs hsz HN
  go_enter Try.func35, Try.ntmps35
  go_wp2_with fail
  refine (PT.out _).mono ?_; rintro e w' ⟨rfl, rfl⟩
  clear PT
  go_wp2_with (at_builtin; refine wpList_append_own_at _ rfl (.tmp 18) (.tmp 20) 34 rfl B 28 i0 (.int .u64 0) 1 8 Try.underlying34 hi0 hz0 hz1 hz2 rfl (by decide) _ n2 (wd m.ws) rfl (OW1.out.alloc _) ⟨w.heap.size, 0, none⟩ 1 1 [.int .u64 head] rfl rfl ?c1 ?c2 (by unfold maxLen; omega) (by omega) ?c3 ?_)
  case c1 => exact cell_one_new _ _ _
  case c2 => intro u hu; simp only [List.mem_singleton] at hu; subst hu; rfl
  case c3 => have := HB.out; show B ≤ (w.heap.push _).size; simp; omega
  intro v1 w1 own1 gr1 _ at1
  have HEa : (w.alloc (.cells #[.int .u64 head] 28)).heap[H]? = some (.cells cc T (0, 0)) := by show (w.heap.push _)[H]? = _; rw [Array.getElem?_push, if_neg (by omega)]; exact HE.out
  have HE1 : Hid (w1.heap[H]? = some (.cells cc T (0, 0))) := Lib.hid ((gr1.block H (by show H < (w.heap.push _).size; simp; omega) (fun e => row_ne OW1.out HE.out HTT.out.1 e.symm)).trans HEa)
  have OB : Hid (w1.ownsRow B 4 1 (.slice A2 n2 c2) n2 (bo m.st)) := Lib.hid (own_grown (OW2.out.alloc _) gr1 (fun k hk hk2 => own_own_ne OW2.out OW1.out (by decide) k hk hk2))
  have F1 : Hid (Frm w w1 R) := Lib.hid ((Frm.of_below (below_alloc w _) (Nat.le_refl _) R).trans (Frm.of_grown gr1 (fun k hk => RH.out.2.1 k (RW.out k hk))))
  have HX1 : Hid (InW w1 A c xs) := Lib.hid ⟨HX.out.1, fun ad had => by
    obtain ⟨b, off, rfl, hb, hc⟩ := HX.out.2 ad had
    refine ⟨b, off, rfl, Nat.lt_of_lt_of_le hb (Nat.le_trans (by show w.heap.size ≤ (w.heap.push _).size; simp) gr1.size), fun j hj => ?_⟩
    rw [World.cell?_of_block (w := w.alloc (.cells #[.int .u64 head] 28)) (gr1.block b (by show b < (w.heap.push _).size; simp; omega) (fun e => SEP.out off b e.symm had))]
    exact ((below_alloc w _).cell (p := ⟨b, off + j, none⟩) hb).trans (hc j hj)⟩
  have OWN1 := Lib.hid own1
  have AT1 := Lib.hid at1
  have Z1 : Hid (w.heap.size + 1 ≤ w1.heap.size) := Lib.hid (by have := gr1.size; rw [show (w.alloc (.cells #[.int .u64 head] 28)).heap.size = w.heap.size + 1 from by show (w.heap.push _).size = _; simp] at this; exact this)
  clear own1 gr1 at1 HEa
  have h1x : ∀ u ∈ wd xs, u.oneCell' = true := fun u hu => by obtain ⟨z, _, rfl⟩ := List.mem_map.1 hu; rfl
  go_wp2_with (at_builtin; refine wpList_append_sl _ rfl (.tmp 21) (.tmp 22) 34 rfl B 28 i0 (.int .u64 0) 1 8 Try.underlying34 hi0 hz0 hz1 hz2 rfl (by decide) v1 (n2 + 1) (wd m.ws ++ [.int .u64 head]) rfl OWN1.out A q c (wd xs) rfl (by rw [wd_len, HQ.out]; omega) (fun e => by have := HX1.out.1 e; rw [HQ.out]; exact this) ?d1 h1x (by unfold maxLen; omega) (by omega) (by have := HB.out; have := Z1.out; omega) ?_)
  case d1 =>
    intro ad had j u hu
    obtain ⟨b, off, rfl, hb, hc⟩ := HX1.out.2 ad had
    have hj : j < xs.length := by have := (List.getElem?_eq_some_iff.1 hu).1; rwa [wd_len] at this
    rw [Go.WideShapes.add_plain, hc j hj, ← wd_at xs j hj, hu]
  intro v2 w2 own2 gr2 at2
  have N1 : ∀ k, v1.ownBlock = some k → R k := fun k hk => by
    rcases AT1.out with e | e
    · rw [e] at hk; exact RH.out.2.1 k (RW.out k hk)
    · rw [e] at hk; injection hk with hk; subst hk; exact RH.out.2.2 _ (by first | omega | (show w.heap.size ≤ (w.heap.push _).size; simp))
  have HE2 : w2.heap[H]? = some (.cells cc T (0, 0)) := (gr2.block H (Array.getElem?_eq_some_iff.1 HE1.out).1 (fun e => row_ne OWN1.out HE1.out HTT.out.1 e.symm)).trans HE1.out
  have OB2 : w2.ownsRow B 4 1 (.slice A2 n2 c2) n2 (bo m.st) := own_grown OB.out gr2 (fun k hk hk2 => own_own_ne OB.out OWN1.out (by decide) k hk hk2)
  have F2 : Frm w w2 R := F1.out.trans (Frm.of_grown gr2 N1)
  obtain ⟨A3, c3, rfl⟩ := vform own2
  have N2 : Hid (∀ k, Value.ownBlock (.slice A3 (n2 + 1 + q) c3) = some k → R k) := Lib.hid (fun k hk => by
    rcases at2 with e | e
    · rw [e] at hk; exact N1 k hk
    · rw [e] at hk; injection hk with hk; subst hk; exact RH.out.2.2 _ (by have := Z1.out; omega))
  have g2 : w2.cell? ⟨H, o + 2, none⟩ = some (.slice A1 n2 c1) := by simp [World.cell?, HE2, HC.out.2.2.1]
  have g3 : w2.cell? ⟨H, o + 3, none⟩ = some (.slice A2 n2 c2) := by simp [World.cell?, HE2, HC.out.2.2.2]
  have z2 : w2.frozen? ⟨H, o + 2, none⟩ = false := by simp [World.frozen?, HE2]
  have HE3 : Hid ((w2.setCell ⟨H, o + 2, none⟩ (.slice A3 (n2 + 1 + q) c3)).heap[H]? = some (.cells (cc.setIfInBounds (o + 2) (.slice A3 (n2 + 1 + q) c3)) T (0, 0))) := Lib.hid (set_heap _ HE2)
  have OW3 : Hid ((w2.setCell ⟨H, o + 2, none⟩ (.slice A3 (n2 + 1 + q) c3)).ownsRow B 28 1 (.slice A3 (n2 + 1 + q) c3) (n2 + 1 + q) (wd m.ws ++ .int .u64 head :: wd xs)) := Lib.hid (ownsRow_setCell_other (by simpa using own2) (a := ⟨H, o + 2, none⟩) (row_ne own2 HE2 HTT.out.1) _)
  have OB3 : Hid ((w2.setCell ⟨H, o + 2, none⟩ (.slice A3 (n2 + 1 + q) c3)).ownsRow B 4 1 (.slice A2 n2 c2) n2 (bo m.st)) := Lib.hid (ownsRow_setCell_other OB2 (a := ⟨H, o + 2, none⟩) (row_ne OB2 HE2 HTT.out.2.1) _)
  have F3 : Hid (Frm w (w2.setCell ⟨H, o + 2, none⟩ (.slice A3 (n2 + 1 + q) c3)) R) := Lib.hid (F2.trans (frm_set _ _ RH.out.1))
  have Z2 : Hid (w.heap.size + 1 ≤ w2.heap.size) := Lib.hid (Nat.le_trans Z1.out gr2.size)
  have hHl : H < w2.heap.size := (Array.getElem?_eq_some_iff.1 HE2).1
  clear own2 gr2 at2 N1 HE2 OB2 F2 OWN1 OB HE1 HX1 HX AT1 F1 h1x HE OW1 OW2 SEP
  have hHl' : H < (w2.setCell ⟨H, o + 2, none⟩ (.slice A3 (n2 + 1 + q) c3)).heap.size := by simpa [World.setCell] using hHl
  have hsz3 : (w2.setCell ⟨H, o + 2, none⟩ (.slice A3 (n2 + 1 + q) c3)).heap.size = w2.heap.size := by simp [World.setCell]
  have HS3 := Lib.hid hsz3
  clear hsz3
  go_wp2_with (at_builtin; refine wpList_append_own_at _ rfl (.tmp 30) (.tmp 31) 68 rfl B 4 j0 (.bool false) 1 1 Try.underlying68 hj0 hy0 hy1 hy2 rfl (by decide) _ n2 (bo m.st) rfl (OB3.out.alloc _) ⟨w2.heap.size, 0, none⟩ 1 1 [.bool true] rfl rfl ?e1 ?e2 (by unfold maxLen; omega) (by omega) ?e3 ?_)
  case e1 => rw [← HS3.out]; exact cell_one_new _ _ _
  case e2 => intro u hu; simp only [List.mem_singleton] at hu; subst hu; rfl
  case e3 => have := HB.out; have := Z2.out; show B ≤ (Array.push _ _).size; simp only [Array.size_push]; rw [HS3.out]; omega
  intro v4 w4 own4 gr4 _ at4
  obtain ⟨cd, hcd⟩ : ∃ cd, cd = cc.setIfInBounds (o + 2) (.slice A3 (n2 + 1 + q) c3) := ⟨_, rfl⟩
  rw [← hcd] at HE3
  have HD : Hid (cd[o]? = some (.int .i64 m.room) ∧ cd[o + 1]? = some (.int .i64 m.turns) ∧ cd[o + 2]? = some (.slice A3 (n2 + 1 + q) c3) ∧ cd[o + 3]? = some (.slice A2 n2 c2)) := Lib.hid (by
    obtain ⟨a0, a1, a2, a3⟩ := HC.out
    have hsz : o + 3 < cc.size := (Array.getElem?_eq_some_iff.1 a3).1
    rw [hcd]
    refine ⟨?_, ?_, ?_, ?_⟩
    · rw [Array.getElem?_setIfInBounds_ne (by omega)]; exact a0
    · rw [Array.getElem?_setIfInBounds_ne (by omega)]; exact a1
    · rw [Array.getElem?_setIfInBounds_self_of_lt (by omega)]
    · rw [Array.getElem?_setIfInBounds_ne (by omega)]; exact a3)
  obtain ⟨W3, hW3⟩ : ∃ W3, W3 = w2.setCell ⟨H, o + 2, none⟩ (.slice A3 (n2 + 1 + q) c3) := ⟨_, rfl⟩
  rw [← hW3] at HE3 OW3 OB3 F3 hHl' HS3 gr4
  have HE4 : w4.heap[H]? = some (.cells cd T (0, 0)) := (gr4.block H (by show H < (W3.heap.push _).size; simp; omega) (fun e => row_ne OB3.out HE3.out HTT.out.2.1 e.symm)).trans (by show (W3.heap.push _)[H]? = _; rw [Array.getElem?_push, if_neg (by omega)]; exact HE3.out)
  have OW4 : w4.ownsRow B 28 1 (.slice A3 (n2 + 1 + q) c3) (n2 + 1 + q) (wd m.ws ++ .int .u64 head :: wd xs) := own_grown (OW3.out.alloc _) gr4 (fun k hk hk2 => own_own_ne OW3.out OB3.out (by decide) k hk hk2)
  have F4 : Frm w w4 R := F3.out.trans ((Frm.of_below (below_alloc W3 (.cells #[.bool true] 4)) (Nat.le_refl _) R).trans (Frm.of_grown gr4 (fun k hk => RH.out.2.1 k (RS.out k hk))))
  have at4' : v4.ownBlock = Value.ownBlock (.slice A2 n2 c2) ∨ v4.ownBlock = some (w2.heap.size + 1) := by
    rcases at4 with e | e
    · exact .inl e
    · exact .inr (by rw [e])
  obtain ⟨A5, c5, rfl⟩ := vform own4
  have N4 : ∀ k, Value.ownBlock (.slice A5 (n2 + 1) c5) = some k → R k := fun k hk => by
    rcases at4' with e | e
    · rw [e] at hk; exact RH.out.2.1 k (RS.out k hk)
    · rw [e] at hk; injection hk with hk; subst hk; exact RH.out.2.2 _ (by have := Z2.out; omega)
  have g4 : w4.cell? ⟨H, o + 3, none⟩ = some (.slice A2 n2 c2) := by simp [World.cell?, HE4, HD.out.2.2.2]
  have z4 : w4.frozen? ⟨H, o + 3, none⟩ = false := by simp [World.frozen?, HE4]
  have hH4 : H < w4.heap.size := (Array.getElem?_eq_some_iff.1 HE4).1
  have HE5 : Hid ((w4.setCell ⟨H, o + 3, none⟩ (.slice A5 (n2 + 1) c5)).heap[H]? = some (.cells (cd.setIfInBounds (o + 3) (.slice A5 (n2 + 1) c5)) T (0, 0))) := Lib.hid (set_heap _ HE4)
  have OW5 : Hid ((w4.setCell ⟨H, o + 3, none⟩ (.slice A5 (n2 + 1) c5)).ownsRow B 28 1 (.slice A3 (n2 + 1 + q) c3) (n2 + 1 + q) (wd m.ws ++ .int .u64 head :: wd xs)) := Lib.hid (ownsRow_setCell_other OW4 (a := ⟨H, o + 3, none⟩) (row_ne OW4 HE4 HTT.out.1) _)
  have OB5 : Hid ((w4.setCell ⟨H, o + 3, none⟩ (.slice A5 (n2 + 1) c5)).ownsRow B 4 1 (.slice A5 (n2 + 1) c5) (n2 + 1) (bo m.st ++ [.bool true])) := Lib.hid (ownsRow_setCell_other own4 (a := ⟨H, o + 3, none⟩) (row_ne own4 HE4 HTT.out.2.1) _)
  have F5 : Hid (Frm w (w4.setCell ⟨H, o + 3, none⟩ (.slice A5 (n2 + 1) c5)) R) := Lib.hid (F4.trans (frm_set _ _ RH.out.1))
  have N5 := Lib.hid N4
  have HCD := Lib.hid hcd
  have HW3 := Lib.hid hW3
  have Z4 : Hid (w.heap.size ≤ w4.heap.size) := Lib.hid F4.size
  have HBB : Hid (B ≤ w4.heap.size) := Lib.hid (Nat.le_trans HB.out F4.size)
  clear own4 gr4 at4 at4' N4 HE4 OW4 F4 OB3 OW3 HE3 F3 g2 g3 z2 hHl hHl' hcd hW3 f2 f3
  go_wp2_with (at_builtin; refine wpList_append_make _ rfl (.tmp 39) (.tmp 41) 68 3 rfl B 4 j0 (.bool false) 1 Try.underlying68 Try.underlying3 hj0 hy0 hy1 hy2 rfl rfl (.slice A5 (n2 + 1) c5) (n2 + 1) (bo m.st ++ [Value.bool true]) rfl OB5.out q rfl (by unfold maxLen; omega) (by omega) ?g3 ?_)
  case g3 => have := HBB.out; simpa [World.setCell] using this
  intro v6 w6 own6 gr6 at6
  have HE6 : w6.heap[H]? = some (.cells (cd.setIfInBounds (o + 3) (.slice A5 (n2 + 1) c5)) T (0, 0)) := (gr6.block H (Array.getElem?_eq_some_iff.1 HE5.out).1 (fun e => row_ne OB5.out HE5.out HTT.out.2.1 e.symm)).trans HE5.out
  have OW6 : w6.ownsRow B 28 1 (.slice A3 (n2 + 1 + q) c3) (n2 + 1 + q) (wd m.ws ++ .int .u64 head :: wd xs) := own_grown OW5.out gr6 (fun k hk hk2 => own_own_ne OW5.out OB5.out (by decide) k hk hk2)
  have F6 : Frm w w6 R := F5.out.trans (Frm.of_grown gr6 N5.out)
  obtain ⟨A7, c7, rfl⟩ := vform own6
  have N6 : Hid (∀ k, Value.ownBlock (.slice A7 (n2 + 1 + q) c7) = some k → R k) := Lib.hid (fun k hk => by
    rcases at6 with e | e
    · rw [e] at hk; exact N5.out k hk
    · rw [e] at hk; injection hk with hk; subst hk; exact RH.out.2.2 _ (by have := Z4.out; simpa [World.setCell] using this))
  have g6 : w6.cell? ⟨H, o + 3, none⟩ = some (.slice A5 (n2 + 1) c5) := by
    have hsz : o + 3 < cd.size := (Array.getElem?_eq_some_iff.1 HD.out.2.2.2).1
    simp only [World.cell?, HE6]
    rw [Array.getElem?_setIfInBounds_self_of_lt (by omega)]; rfl
  have z6 : w6.frozen? ⟨H, o + 3, none⟩ = false := by simp [World.frozen?, HE6]
  have FIN : Hid (HpAt (w6.setCell ⟨H, o + 3, none⟩ (.slice A7 (n2 + 1 + q) c7)) B H o (m.add head xs)) := Lib.hid (by
    have e7 := set_heap (i := o + 3) (.slice A7 (n2 + 1 + q) c7) HE6
    have hsz : o + 3 < cd.size := (Array.getElem?_eq_some_iff.1 HD.out.2.2.2).1
    have l1 : (m.add head xs).ws.length = n2 + 1 + q := by simp only [Hm.add, List.length_append, List.length_cons]; have := HWD.out.1; have := HQ.out; omega
    have l2 : (m.add head xs).st.length = n2 + 1 + q := by simp only [Hm.add, List.length_append, List.length_cons, List.length_replicate]; have := HWD.out.2; have := HQ.out; omega
    refine ⟨OK.out, ?_, _, T, A3, c3, A7, c7, HTT.out.1, HTT.out.2.1, HTT.out.2.2, e7, ?_, ?_, ?_, ?_, ?_, ?_⟩
    · have := F6.size; have := HB.out; simp only [World.setCell, Array.size_modify]; omega
    · rw [Array.getElem?_setIfInBounds_ne (by omega), Array.getElem?_setIfInBounds_ne (by omega)]; exact HD.out.1
    · rw [Array.getElem?_setIfInBounds_ne (by omega), Array.getElem?_setIfInBounds_ne (by omega)]; exact HD.out.2.1
    · rw [Array.getElem?_setIfInBounds_ne (by omega), Array.getElem?_setIfInBounds_ne (by omega), l1]; exact HD.out.2.2.1
    · rw [Array.getElem?_setIfInBounds_self_of_lt (by simpa using hsz), l2]
    · rw [l1]
      have := ownsRow_setCell_other OW6 (a := ⟨H, o + 3, none⟩) (row_ne OW6 HE6 HTT.out.1) (.slice A7 (n2 + 1 + q) c7)
      simp only [Hm.add, wd_app]; exact this
    · rw [l2]
      have := ownsRow_setCell_other own6 (a := ⟨H, o + 3, none⟩) (row_ne own6 HE6 HTT.out.2.1) (.slice A7 (n2 + 1 + q) c7)
      have e : bo (m.add head xs).st = bo m.st ++ [Value.bool true] ++ List.replicate q (Value.bool false) := by
        simp only [Hm.add, bo, List.map_append, List.map_cons, List.map_replicate, HQ.out, List.append_assoc, List.singleton_append]
      rw [e]; simpa using this)
  have FF : Hid (Frm w (w6.setCell ⟨H, o + 3, none⟩ (.slice A7 (n2 + 1 + q) c7)) (HR w H o)) := Lib.hid ((F6.trans (frm_set _ _ RH.out.1)).mono RB.out)
  have OC : Hid (∀ i, i ≠ o + 2 → i ≠ o + 3 → (w6.setCell ⟨H, o + 3, none⟩ (.slice A7 (n2 + 1 + q) c7)).cell? ⟨H, i, none⟩ = w.cell? ⟨H, i, none⟩) := Lib.hid (fun i h2 h3 => by
    have e7 := set_heap (i := o + 3) (.slice A7 (n2 + 1 + q) c7) HE6
    have l : (w6.setCell ⟨H, o + 3, none⟩ (.slice A7 (n2 + 1 + q) c7)).cell? ⟨H, i, none⟩ = cc[i]? := by
      rw [cell_of_row _ H i _ T (0, 0) e7, Array.getElem?_setIfInBounds_ne (by omega), Array.getElem?_setIfInBounds_ne (by omega), HCD.out, Array.getElem?_setIfInBounds_ne (by omega)]
    rw [l, cell_of_row w H i cc T (0, 0) HE0.out])
  have OH : Hid (∀ k, HR (w6.setCell ⟨H, o + 3, none⟩ (.slice A7 (n2 + 1 + q) c7)) H o k → HR w H o k ∨ w.heap.size ≤ k) := Lib.hid (fun k hk => by
    have e7 := set_heap (i := o + 3) (.slice A7 (n2 + 1 + q) c7) HE6
    have hsz : o + 3 < cd.size := (Array.getElem?_eq_some_iff.1 HD.out.2.2.2).1
    have g2 : (w6.setCell ⟨H, o + 3, none⟩ (.slice A7 (n2 + 1 + q) c7)).cell? ⟨H, o + 2, none⟩ = some (.slice A3 (n2 + 1 + q) c3) := by
      rw [cell_of_row _ H (o + 2) _ T (0, 0) e7, Array.getElem?_setIfInBounds_ne (by omega), Array.getElem?_setIfInBounds_ne (by omega)]; exact HD.out.2.2.1
    have g3 : (w6.setCell ⟨H, o + 3, none⟩ (.slice A7 (n2 + 1 + q) c7)).cell? ⟨H, o + 3, none⟩ = some (.slice A7 (n2 + 1 + q) c7) := by
      rw [cell_of_row _ H (o + 3) _ T (0, 0) e7, Array.getElem?_setIfInBounds_self_of_lt (by simpa using hsz)]
    have hR : R k := by
      rcases hk with e | ⟨n', c', hc⟩ | ⟨n', c', hc⟩
      · exact e ▸ RH.out.1
      · rw [g2] at hc; injection hc with hc; exact N2.out k (by rw [hc]; rfl)
      · rw [g3] at hc; injection hc with hc; exact N6.out k (by rw [hc]; rfl)
    by_cases hk2 : k < w.heap.size
    · exact .inl (RB.out k hk2 hR)
    · exact .inr (by omega))
  clear own6 gr6 at6 HE6 OW6 F6 g4 z4 hH4 HE5 OW5 OB5 F5 N5 N2 N6
  go_wp2
  go_ret
  exact ⟨rfl, FIN, FF, OC, OH⟩
theorem add_any {w : World} {B H o : Nat} {m : Hm} (h : HpAt w B H o m) {A : Option Addr} {c : Nat} {head : Int} {xs : List Int} (hx : InW w A c xs) (hsep : ∀ k n c, w.cell? ⟨H, o + 2, none⟩ = some (.slice (some ⟨k, 0, none⟩) n c) → ∀ off, A ≠ some ⟨k, off, none⟩)
    (hh : U64 head) (hxs : ∀ x ∈ xs, U64 x) (hs : okS head) (hsz : splS head = xs.length) (hl : m.ws.length + xs.length + 1 ≤ 65536) :
    Calls Try.prog 35 #[.pointer (some ⟨H, o, none⟩), .int .u64 head, .slice A xs.length c] w fun e w' => e = .returned (.int .u64 ((m.ws.length : Int) * 2)) ∧ Hid (HpAt w' B H o (m.add head xs)) ∧ Hid (Frm w w' (HR w H o)) ∧ Hid (∀ i, i ≠ o + 2 → i ≠ o + 3 → w'.cell? ⟨H, i, none⟩ = w.cell? ⟨H, i, none⟩) :=
  (add_any5 h hx hsep hh hxs hs hsz hl).mono fun e w' ⟨h1, h2, h3, h4, _⟩ => ⟨h1, h2, h3, h4⟩
end Go.Proofs.Ytknpgmbniohcnaa
