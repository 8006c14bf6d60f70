import Derived.Test.YtkecnhogooaccaaRl
import Derived.Test.YtkecnhogooaccaaDr
namespace Go.Proofs.Ytkecnhogooaccaa
open Go.ChangeShapes Go.WideShapes Go.ChangeAt Go.RowKit
set_option linter.unusedVariables false
theorem rs_sv {w1 w3 : World} {B g room bf N c n : Nat} {a b : List RX} {x : RX} {v : Value} {sl : List Int} (T : RS w1 B g room (.slice (some ⟨bf, 0, none⟩) N c) (a ++ x :: b)) (b3 : Below w1.heap.size w1 w3) (own3 : w3.ownsRow w1.heap.size 29 1 v sl.length (wds sl)) (hs : sl.length = x.f.slots.length) (hn : n = a.length) :
    RS (w3.setCell ⟨bf, n * 4 + 2, none⟩ v) B g room (.slice (some ⟨bf, 0, none⟩) N c) (a ++ ⟨{ x.f with slots := sl }, v, x.av⟩ :: b) ∧ Frm w1 (w3.setCell ⟨bf, n * 4 + 2, none⟩ v) (Own g (.slice (some ⟨bf, 0, none⟩) N c) (a ++ x :: b)) ∧ ∀ k', Own g (.slice (some ⟨bf, 0, none⟩) N c) (a ++ ⟨{ x.f with slots := sl }, v, x.av⟩ :: b) k' → Own g (.slice (some ⟨bf, 0, none⟩) N c) (a ++ x :: b) k' ∨ w1.heap.size ≤ k' := by
  have T3 := T.below b3
  have hN : 0 < N := by
    obtain ⟨_, _, e, _⟩ := T.shape
    injection e with _ e
    rw [e]; simp; omega
  have hBw : B ≤ w1.heap.size := by have := T.le; have := T.glt; omega
  have hrb : ∀ k, rb v = some k → w1.heap.size ≤ k := fun k hk => (own3.lt k (rb_own hk)).1
  have h := RS.putSv T3 (Rw.of_own (own_mono own3 hBw)) (fun k hk => .inr (fun z hz e => by have := (T.row z hz k e).2.1; have := hrb k hk; omega)) (by
    have h2 := T.fits
    rw [List.map_append, List.map_cons, used_app, used_cons] at h2
    rw [hs]; omega)
  rw [← hn] at h
  refine ⟨h.1, ?_, fun k' hk' => ?_⟩
  · exact (Frm.of_below b3 (Nat.le_refl _) _).trans (h.2.1.mono (fun q _ hq => by rw [hq]; exact .inr (.inl (rb_pos hN))))
  · rcases h.2.2 k' hk' with h | h
    · exact .inl h
    · exact .inr (hrb k' h)
theorem rs_av {w1 w3 : World} {B g room bf N c n : Nat} {a b : List RX} {x : RX} {v : Value} {sl : List Int} (T : RS w1 B g room (.slice (some ⟨bf, 0, none⟩) N c) (a ++ x :: b)) (b3 : Below w1.heap.size w1 w3) (own3 : w3.ownsRow w1.heap.size 29 1 v sl.length (wds sl)) (hs : sl.length = x.f.added.length) (hn : n = a.length) :
    RS (w3.setCell ⟨bf, n * 4 + 3, none⟩ v) B g room (.slice (some ⟨bf, 0, none⟩) N c) (a ++ ⟨{ x.f with added := sl }, x.sv, v⟩ :: b) ∧ Frm w1 (w3.setCell ⟨bf, n * 4 + 3, none⟩ v) (Own g (.slice (some ⟨bf, 0, none⟩) N c) (a ++ x :: b)) ∧ ∀ k', Own g (.slice (some ⟨bf, 0, none⟩) N c) (a ++ ⟨{ x.f with added := sl }, x.sv, v⟩ :: b) k' → Own g (.slice (some ⟨bf, 0, none⟩) N c) (a ++ x :: b) k' ∨ w1.heap.size ≤ k' := by
  have T3 := T.below b3
  have hN : 0 < N := by
    obtain ⟨_, _, e, _⟩ := T.shape
    injection e with _ e
    rw [e]; simp; omega
  have hBw : B ≤ w1.heap.size := by have := T.le; have := T.glt; omega
  have hrb : ∀ k, rb v = some k → w1.heap.size ≤ k := fun k hk => (own3.lt k (rb_own hk)).1
  have h := RS.putAv T3 (Rw.of_own (own_mono own3 hBw)) (fun k hk => .inr (fun z hz e => by have := (T.row z hz k e).2.1; have := hrb k hk; omega)) (by
    have h2 := T.fits
    rw [List.map_append, List.map_cons, used_app, used_cons] at h2
    rw [hs]; omega)
  rw [← hn] at h
  refine ⟨h.1, ?_, fun k' hk' => ?_⟩
  · exact (Frm.of_below b3 (Nat.le_refl _) _).trans (h.2.1.mono (fun q _ hq => by rw [hq]; exact .inr (.inl (rb_pos hN))))
  · rcases h.2.2 k' hk' with h | h
    · exact .inl h
    · exact .inr (hrb k' h)
/-- one frame more. -/
theorem rn_step {w0 wr w2 w3 : World} {B g room i K : Nat} {fv : Value} {fl a b : List RX} {x x1 x2 : RX} {ys : List Int} (hfr : Frm w0 wr (Own g fv fl)) (hos : w0.heap.size ≤ wr.heap.size) (how : ∀ k, Own g fv (a ++ x :: b) k → Own g fv fl k ∨ w0.heap.size ≤ k) (ha : a.length = i) (hb : x :: b = fl.drop i) (hm : a.map (·.f) = refill ((fl.take i).map (·.f)) ys) (hK : K = (rts fl i).length)
    (f2 : Frm wr w2 (Own g fv (a ++ x :: b))) (o2 : ∀ k, Own g fv (a ++ x1 :: b) k → Own g fv (a ++ x :: b) k ∨ wr.heap.size ≤ k) (f3 : Frm w2 w3 (Own g fv (a ++ x1 :: b))) (o3 : ∀ k, Own g fv (a ++ x2 :: b) k → Own g fv (a ++ x1 :: b) k ∨ w2.heap.size ≤ k) (t3 : RS w3 B g room fv (a ++ x2 :: b))
    (hx2 : x2.f = { x.f with slots := (ys.drop K).take x.f.slots.length, added := (ys.drop (K + x.f.slots.length)).take x.f.added.length }) :
    RN w0 B g room fv fl ys (i + 1) (K + x.f.slots.length + x.f.added.length) w3 := by
  have hs2 := f2.size
  have hil : i < fl.length := by
    rcases Nat.lt_or_ge i fl.length with h | h
    · exact h
    · rw [List.drop_of_length_le h] at hb; cases hb
  have hx : fl.take (i + 1) = fl.take i ++ [x] := by
    have e : fl = fl.take i ++ x :: b := by rw [hb, List.take_append_drop]
    have hl : (fl.take i).length = i := by rw [List.length_take]; omega
    conv => lhs; rw [e]
    rw [show fl.take i ++ x :: b = (fl.take i ++ [x]) ++ b by simp, List.take_left' (by rw [List.length_append, hl]; rfl)]
  have hd : fl.drop (i + 1) = b := by rw [← List.drop_drop, ← hb]; rfl
  refine ⟨a ++ [x2], b, by simpa using t3, by simp [ha], hd.symm, ?_, ?_, ?_, ?_⟩
  · rw [hx, List.map_append, List.map_append, List.map_cons, List.map_nil, List.map_cons, List.map_nil, refill_snoc, hm, hx2]
    have e : (wdOf ((fl.take i).map (·.f))).length = K := hK.symm
    rw [e]
  · unfold rts
    rw [hx, List.map_append, wdOf_app, List.length_append]
    have e : (wdOf ((fl.take i).map (·.f))).length = K := hK.symm
    rw [e]; simp [wdOf, RF.ws]; omega
  · refine hfr.trans' (f2.trans' f3 ?_) ?_
    · intro q hq h
      rcases o2 q h with h | h
      · exact h
      · omega
    · intro q hq h
      rcases how q h with h | h
      · exact h
      · omega
  · intro k hk
    rw [List.append_assoc, List.singleton_append] at hk
    rcases o3 k hk with h | h
    · rcases o2 k h with h | h
      · exact how k h
      · right; omega
    · right; omega
set_option maxRecDepth 100000 in
set_option maxHeartbeats 8000000 in
theorem rrenew_ok {w : World} {B g room m c : Nat} {fv : Value} {fl : List RX} {A : Option Addr} {ys : List Int} (hm : m ≤ 1000000) (hn : m = (wdOf (fl.map (·.f))).length) (hs : SL w A m c ys) (hlow : 0 < m → ∀ b off, A = some ⟨b, off, none⟩ → b < B) (t : RS w B g room fv fl) :
    Calls Try.prog 29 #[.pointer (some ⟨g, 0, none⟩), .slice A m c] w fun e w' => ∃ fl' : List RX, e = .returned (.int .i64 0) ∧ Hid (RS w' B g room fv fl') ∧ Hid (fl'.map (·.f) = refill (fl.map (·.f)) ys) ∧ Hid (Frm w w' (Own g fv fl)) ∧ Hid (∀ k, Own g fv fl' k → Own g fv fl k ∨ w.heap.size ≤ k) := by
  obtain ⟨i0, hi0, hz0, hz1, hz2⟩ := info_parts info29
  have RT := Lib.hid (rroots_any t)
  have hl := t.len.2
  have hlen := t.len.1
  have T := Lib.hid t
  have HS := Lib.hid hs
  have HLW := Lib.hid hlow
  obtain ⟨N, hN⟩ : ∃ N, N = fl.length := ⟨_, rfl⟩
  have HN := Lib.hid hN
  rw [← hN] at hlen
  rw [← hn] at RT hl
  have HM := Lib.hid hn
  have hmc := hs.le
  clear t hn hs hN hlow
  go_enter Try.func29, Try.ntmps29
  go_wp2_with fail
  refine RT.out.mono ?_; rintro e w1 ⟨A1, c1, rfl, o1, b1⟩
  clear RT o1
  have ST : Hid (RN w B g room fv fl ys 0 0 w1) := Lib.hid (rn_first T.out b1.out)
  clear b1
  go_wp2
  go_loopw [5, 6, 7, 8] (fun kk ii aa bb wr => ∃ (i K : Nat) (a7 a8 : Value), a7 = aa ∧ a8 = bb ∧ ii = .int .i64 i ∧ kk = .int .i64 K ∧ i ≤ N ∧ Hid (RN w B g room fv fl ys i K wr)) (fun _ ii _ _ _ => N - (intOf ii).toNat)
  case atStart => exact ⟨0, 0, _, _, rfl, rfl, rfl, rfl, by omega, ST⟩
  case round =>
    obtain ⟨i, KQ, a7, a8, rfl, rfl, rfl, rfl, hi, HR⟩ := hrel
    clear ST
    by_cases hlt : i < N
    · skip
      have K9 := Lib.hid HR.out
      obtain ⟨a, b0, h1, h2, h3, h4, h5, h6, h7⟩ := HR.out
      obtain ⟨x, b, rfl⟩ : ∃ x b, b0 = x :: b := by
        cases b0 with
        | nil =>
          have := congrArg List.length h3
          rw [List.length_nil, List.length_drop, ← HN.out] at this
          omega
        | cons x b => exact ⟨x, b, rfl⟩
      have T1 := Lib.hid h1
      obtain ⟨bf, fc, e1, hc', hcell, hfz⟩ := h1.at
      obtain ⟨⟨A1, c1', e2, _, _⟩, ⟨A2, c2', e3, _, _⟩, _⟩ := RX.rows h1
      rw [e2, e3, h2] at hcell
      have hNN : (a ++ x :: b).length = N := by
        have := congrArg List.length h3
        rw [List.length_cons, List.length_drop, ← HN.out] at this
        simp; omega
      rw [hNN] at e1
      subst e1
      have c1 := h1.c1
      have glt := h1.glt
      have hbfl : bf < wr.heap.size := (h1.lt bf (.inr (.inl (rb_pos (by omega))))).2
      have hlti : (i : Int) < (N : Int) := by omega
      have hi9 : i ≤ 4096 := by omega
      obtain ⟨p, hp⟩ : ∃ p, p = x.f.slots.length := ⟨_, rfl⟩
      obtain ⟨q, hq⟩ : ∃ q, q = x.f.added.length := ⟨_, rfl⟩
      have HPQ := Lib.hid (And.intro hp hq)
      rw [← hp, ← hq] at hcell
      have HC := Lib.hid hcell
      have hle : KQ + p + q ≤ m := by
        have e : fl = fl.take i ++ x :: b := by rw [h3, List.take_append_drop]
        have e2 : (wdOf (fl.map (·.f))).length = KQ + (x.f.ws.length + (wdOf (b.map (·.f))).length) := by
          conv => lhs; rw [e]
          have hk : (wdOf ((fl.take i).map (·.f))).length = KQ := h5.symm
          rw [List.map_append, wdOf_app, List.length_append, hk]
          simp [wdOf]
        rw [HM.out, e2, hp, hq]
        simp [RF.ws]; omega
      have H2 := Lib.hid h2; have H3 := Lib.hid h3; have H4 := Lib.hid h4; have H5 := Lib.hid h5; have H6 := Lib.hid h6; have H7 := Lib.hid h7
      have hws : w.heap.size ≤ wr.heap.size := h6.size
      have C1 := Lib.hid c1
      clear h1 h2 h3 h4 h5 h6 h7 e2 e3 hcell hp hq hc' hNN hfz K9 hlt HR
      go_wp2
      refine wp_region_D [] (fun w' => Below wr.heap.size wr w') (by kernel_rfl) (below_drew wr) (fun hHeld => ?_)
      refine WD_take (i := 0) (oi := { dst := some 24, op := Go.Op.move (Go.Operand.tmp 0), type := 44, pos := _, after := #[], guard := none }) (v := ?va0) rfl (by kernel_rfl) (by kernel_rfl) (by kernel_rfl) (by kernel_rfl) (fun _ _ _ h => h) (Or.inl ⟨by rfl, ?hya0⟩) hHeld ?_
      case hya0 => (intro wz hSw; (try dsimp only at hSw); have z1 := (hSw.cell (p := ⟨g, 1, none⟩) glt).trans C1.out; have zc := HC.out wz hSw; have z42 := zc.2.2.1; have z43 := zc.2.2.2; clear zc; go_simp; try with_reducible rfl)
      (try simp only [Act.put, List.setIfInBounds_toArray, List.set_cons_zero, List.set_cons_succ])
      refine WD_take (i := 1) (oi := { dst := some 25, op := Go.Op.nilCheck (Go.Operand.tmp 24), type := 0, pos := _, after := #[{ on := 0, ground := Go.Ground.data }], guard := none }) (v := ?va1) rfl (by kernel_rfl) (by kernel_rfl) (by kernel_rfl) (by kernel_rfl) (fun _ _ _ h => h) (Or.inl ⟨by rfl, ?hya1⟩) hHeld ?_
      case hya1 => (intro wz hSw; (try dsimp only at hSw); have z1 := (hSw.cell (p := ⟨g, 1, none⟩) glt).trans C1.out; have zc := HC.out wz hSw; have z42 := zc.2.2.1; have z43 := zc.2.2.2; clear zc; go_simp; try with_reducible rfl)
      (try simp only [Act.put, List.setIfInBounds_toArray, List.set_cons_zero, List.set_cons_succ])
      refine WD_take (i := 2) (oi := { dst := some 26, op := Go.Op.fieldAddr 47 (Go.Operand.tmp 25) 1, type := 0, pos := _, after := #[{ on := 1, ground := Go.Ground.data }], guard := none }) (v := ?va2) rfl (by kernel_rfl) (by kernel_rfl) (by kernel_rfl) (by kernel_rfl) (fun _ _ _ h => h) (Or.inl ⟨by rfl, ?hya2⟩) hHeld ?_
      case hya2 => (intro wz hSw; (try dsimp only at hSw); have z1 := (hSw.cell (p := ⟨g, 1, none⟩) glt).trans C1.out; have zc := HC.out wz hSw; have z42 := zc.2.2.1; have z43 := zc.2.2.2; clear zc; go_simp; try with_reducible rfl)
      (try simp only [Act.put, List.setIfInBounds_toArray, List.set_cons_zero, List.set_cons_succ])
      refine WD_take (i := 3) (oi := { dst := some 27, op := Go.Op.load 45 (Go.Operand.tmp 26), type := 45, pos := _, after := #[{ on := 2, ground := Go.Ground.data }], guard := none }) (v := ?va3) rfl (by kernel_rfl) (by kernel_rfl) (by kernel_rfl) (by kernel_rfl) (fun _ _ _ h => h) (Or.inl ⟨by rfl, ?hya3⟩) hHeld ?_
      case hya3 => (intro wz hSw; (try dsimp only at hSw); have z1 := (hSw.cell (p := ⟨g, 1, none⟩) glt).trans C1.out; have zc := HC.out wz hSw; have z42 := zc.2.2.1; have z43 := zc.2.2.2; clear zc; go_simp; try with_reducible rfl)
      (try simp only [Act.put, List.setIfInBounds_toArray, List.set_cons_zero, List.set_cons_succ])
      refine WD_take (i := 4) (oi := { dst := some 28, op := Go.Op.move (Go.Operand.tmp 6), type := 3, pos := _, after := #[], guard := none }) (v := ?va4) rfl (by kernel_rfl) (by kernel_rfl) (by kernel_rfl) (by kernel_rfl) (fun _ _ _ h => h) (Or.inl ⟨by rfl, ?hya4⟩) hHeld ?_
      case hya4 => (intro wz hSw; (try dsimp only at hSw); have z1 := (hSw.cell (p := ⟨g, 1, none⟩) glt).trans C1.out; have zc := HC.out wz hSw; have z42 := zc.2.2.1; have z43 := zc.2.2.2; clear zc; go_simp; try with_reducible rfl)
      (try simp only [Act.put, List.setIfInBounds_toArray, List.set_cons_zero, List.set_cons_succ])
      refine WD_take (i := 5) (oi := { dst := some 29, op := Go.Op.indexAddr 45 (Go.Operand.tmp 27) (Go.Operand.tmp 28), type := 0, pos := _, after := #[{ on := 3, ground := Go.Ground.data }, { on := 4, ground := Go.Ground.data }], guard := none }) (v := ?va5) rfl (by kernel_rfl) (by kernel_rfl) (by kernel_rfl) (by kernel_rfl) (fun _ _ _ h => h) (Or.inl ⟨by rfl, ?hya5⟩) hHeld ?_
      case hya5 => (intro wz hSw; (try dsimp only at hSw); have z1 := (hSw.cell (p := ⟨g, 1, none⟩) glt).trans C1.out; have zc := HC.out wz hSw; have z42 := zc.2.2.1; have z43 := zc.2.2.2; clear zc; go_simp; try with_reducible rfl)
      (try simp only [Act.put, List.setIfInBounds_toArray, List.set_cons_zero, List.set_cons_succ])
      refine WD_take (i := 6) (oi := { dst := some 30, op := Go.Op.fieldAddr 80 (Go.Operand.tmp 29) 2, type := 0, pos := _, after := #[{ on := 5, ground := Go.Ground.data }], guard := none }) (v := ?va6) rfl (by kernel_rfl) (by kernel_rfl) (by kernel_rfl) (by kernel_rfl) (fun _ _ _ h => h) (Or.inl ⟨by rfl, ?hya6⟩) hHeld ?_
      case hya6 => (intro wz hSw; (try dsimp only at hSw); have z1 := (hSw.cell (p := ⟨g, 1, none⟩) glt).trans C1.out; have zc := HC.out wz hSw; have z42 := zc.2.2.1; have z43 := zc.2.2.2; clear zc; go_simp; try with_reducible rfl)
      (try simp only [Act.put, List.setIfInBounds_toArray, List.set_cons_zero, List.set_cons_succ])
      refine WD_take (i := 7) (oi := { dst := some 31, op := Go.Op.load 48 (Go.Operand.tmp 30), type := 48, pos := _, after := #[{ on := 6, ground := Go.Ground.data }], guard := none }) (v := ?va7) rfl (by kernel_rfl) (by kernel_rfl) (by kernel_rfl) (by kernel_rfl) (fun _ _ _ h => h) (Or.inl ⟨by rfl, ?hya7⟩) hHeld ?_
      case hya7 => (intro wz hSw; (try dsimp only at hSw); have z1 := (hSw.cell (p := ⟨g, 1, none⟩) glt).trans C1.out; have zc := HC.out wz hSw; have z42 := zc.2.2.1; have z43 := zc.2.2.2; clear zc; go_simp; try with_reducible rfl)
      (try simp only [Act.put, List.setIfInBounds_toArray, List.set_cons_zero, List.set_cons_succ])
      refine WD_take (i := 8) (oi := { dst := some 32, op := Go.Op.call { callee := Go.Callee.builtin Go.Builtin.len, args := #[Go.Operand.tmp 31], argTypes := #[48] }, type := 3, pos := _, after := #[{ on := 7, ground := Go.Ground.data }], guard := none }) (v := ?va8) rfl (by kernel_rfl) (by kernel_rfl) (by kernel_rfl) (by kernel_rfl) (fun _ _ _ h => h) (Or.inl ⟨by rfl, ?hya8⟩) hHeld ?_
      case hya8 => (intro wz hSw; (try dsimp only at hSw); have z1 := (hSw.cell (p := ⟨g, 1, none⟩) glt).trans C1.out; have zc := HC.out wz hSw; have z42 := zc.2.2.1; have z43 := zc.2.2.2; clear zc; go_simp; try with_reducible rfl)
      (try simp only [Act.put, List.setIfInBounds_toArray, List.set_cons_zero, List.set_cons_succ])
      refine WD_take (i := 9) (oi := { dst := some 33, op := Go.Op.move (Go.Operand.tmp 0), type := 44, pos := _, after := #[], guard := none }) (v := ?va9) rfl (by kernel_rfl) (by kernel_rfl) (by kernel_rfl) (by kernel_rfl) (fun _ _ _ h => h) (Or.inl ⟨by rfl, ?hya9⟩) hHeld ?_
      case hya9 => (intro wz hSw; (try dsimp only at hSw); have z1 := (hSw.cell (p := ⟨g, 1, none⟩) glt).trans C1.out; have zc := HC.out wz hSw; have z42 := zc.2.2.1; have z43 := zc.2.2.2; clear zc; go_simp; try with_reducible rfl)
      (try simp only [Act.put, List.setIfInBounds_toArray, List.set_cons_zero, List.set_cons_succ])
      refine WD_take (i := 10) (oi := { dst := some 34, op := Go.Op.nilCheck (Go.Operand.tmp 33), type := 0, pos := _, after := #[{ on := 9, ground := Go.Ground.data }], guard := none }) (v := ?va10) rfl (by kernel_rfl) (by kernel_rfl) (by kernel_rfl) (by kernel_rfl) (fun _ _ _ h => h) (Or.inl ⟨by rfl, ?hya10⟩) hHeld ?_
      case hya10 => (intro wz hSw; (try dsimp only at hSw); have z1 := (hSw.cell (p := ⟨g, 1, none⟩) glt).trans C1.out; have zc := HC.out wz hSw; have z42 := zc.2.2.1; have z43 := zc.2.2.2; clear zc; go_simp; try with_reducible rfl)
      (try simp only [Act.put, List.setIfInBounds_toArray, List.set_cons_zero, List.set_cons_succ])
      refine WD_take (i := 11) (oi := { dst := some 35, op := Go.Op.fieldAddr 47 (Go.Operand.tmp 34) 1, type := 0, pos := _, after := #[{ on := 10, ground := Go.Ground.data }], guard := none }) (v := ?va11) rfl (by kernel_rfl) (by kernel_rfl) (by kernel_rfl) (by kernel_rfl) (fun _ _ _ h => h) (Or.inl ⟨by rfl, ?hya11⟩) hHeld ?_
      case hya11 => (intro wz hSw; (try dsimp only at hSw); have z1 := (hSw.cell (p := ⟨g, 1, none⟩) glt).trans C1.out; have zc := HC.out wz hSw; have z42 := zc.2.2.1; have z43 := zc.2.2.2; clear zc; go_simp; try with_reducible rfl)
      (try simp only [Act.put, List.setIfInBounds_toArray, List.set_cons_zero, List.set_cons_succ])
      refine WD_take (i := 12) (oi := { dst := some 36, op := Go.Op.load 45 (Go.Operand.tmp 35), type := 45, pos := _, after := #[{ on := 11, ground := Go.Ground.data }], guard := none }) (v := ?va12) rfl (by kernel_rfl) (by kernel_rfl) (by kernel_rfl) (by kernel_rfl) (fun _ _ _ h => h) (Or.inl ⟨by rfl, ?hya12⟩) hHeld ?_
      case hya12 => (intro wz hSw; (try dsimp only at hSw); have z1 := (hSw.cell (p := ⟨g, 1, none⟩) glt).trans C1.out; have zc := HC.out wz hSw; have z42 := zc.2.2.1; have z43 := zc.2.2.2; clear zc; go_simp; try with_reducible rfl)
      (try simp only [Act.put, List.setIfInBounds_toArray, List.set_cons_zero, List.set_cons_succ])
      refine WD_take (i := 13) (oi := { dst := some 37, op := Go.Op.move (Go.Operand.tmp 6), type := 3, pos := _, after := #[], guard := none }) (v := ?va13) rfl (by kernel_rfl) (by kernel_rfl) (by kernel_rfl) (by kernel_rfl) (fun _ _ _ h => h) (Or.inl ⟨by rfl, ?hya13⟩) hHeld ?_
      case hya13 => (intro wz hSw; (try dsimp only at hSw); have z1 := (hSw.cell (p := ⟨g, 1, none⟩) glt).trans C1.out; have zc := HC.out wz hSw; have z42 := zc.2.2.1; have z43 := zc.2.2.2; clear zc; go_simp; try with_reducible rfl)
      (try simp only [Act.put, List.setIfInBounds_toArray, List.set_cons_zero, List.set_cons_succ])
      refine WD_take (i := 14) (oi := { dst := some 38, op := Go.Op.indexAddr 45 (Go.Operand.tmp 36) (Go.Operand.tmp 37), type := 0, pos := _, after := #[{ on := 12, ground := Go.Ground.data }, { on := 13, ground := Go.Ground.data }], guard := none }) (v := ?va14) rfl (by kernel_rfl) (by kernel_rfl) (by kernel_rfl) (by kernel_rfl) (fun _ _ _ h => h) (Or.inl ⟨by rfl, ?hya14⟩) hHeld ?_
      case hya14 => (intro wz hSw; (try dsimp only at hSw); have z1 := (hSw.cell (p := ⟨g, 1, none⟩) glt).trans C1.out; have zc := HC.out wz hSw; have z42 := zc.2.2.1; have z43 := zc.2.2.2; clear zc; go_simp; try with_reducible rfl)
      (try simp only [Act.put, List.setIfInBounds_toArray, List.set_cons_zero, List.set_cons_succ])
      refine WD_take (i := 15) (oi := { dst := some 39, op := Go.Op.fieldAddr 80 (Go.Operand.tmp 38) 3, type := 0, pos := _, after := #[{ on := 14, ground := Go.Ground.data }], guard := none }) (v := ?va15) rfl (by kernel_rfl) (by kernel_rfl) (by kernel_rfl) (by kernel_rfl) (fun _ _ _ h => h) (Or.inl ⟨by rfl, ?hya15⟩) hHeld ?_
      case hya15 => (intro wz hSw; (try dsimp only at hSw); have z1 := (hSw.cell (p := ⟨g, 1, none⟩) glt).trans C1.out; have zc := HC.out wz hSw; have z42 := zc.2.2.1; have z43 := zc.2.2.2; clear zc; go_simp; try with_reducible rfl)
      (try simp only [Act.put, List.setIfInBounds_toArray, List.set_cons_zero, List.set_cons_succ])
      refine WD_take (i := 16) (oi := { dst := some 40, op := Go.Op.load 48 (Go.Operand.tmp 39), type := 48, pos := _, after := #[{ on := 15, ground := Go.Ground.data }], guard := none }) (v := ?va16) rfl (by kernel_rfl) (by kernel_rfl) (by kernel_rfl) (by kernel_rfl) (fun _ _ _ h => h) (Or.inl ⟨by rfl, ?hya16⟩) hHeld ?_
      case hya16 => (intro wz hSw; (try dsimp only at hSw); have z1 := (hSw.cell (p := ⟨g, 1, none⟩) glt).trans C1.out; have zc := HC.out wz hSw; have z42 := zc.2.2.1; have z43 := zc.2.2.2; clear zc; go_simp; try with_reducible rfl)
      (try simp only [Act.put, List.setIfInBounds_toArray, List.set_cons_zero, List.set_cons_succ])
      refine WD_take (i := 17) (oi := { dst := some 41, op := Go.Op.call { callee := Go.Callee.builtin Go.Builtin.len, args := #[Go.Operand.tmp 40], argTypes := #[48] }, type := 3, pos := _, after := #[{ on := 16, ground := Go.Ground.data }], guard := none }) (v := ?va17) rfl (by kernel_rfl) (by kernel_rfl) (by kernel_rfl) (by kernel_rfl) (fun _ _ _ h => h) (Or.inl ⟨by rfl, ?hya17⟩) hHeld ?_
      case hya17 => (intro wz hSw; (try dsimp only at hSw); have z1 := (hSw.cell (p := ⟨g, 1, none⟩) glt).trans C1.out; have zc := HC.out wz hSw; have z42 := zc.2.2.1; have z43 := zc.2.2.2; clear zc; go_simp; try with_reducible rfl)
      (try simp only [Act.put, List.setIfInBounds_toArray, List.set_cons_zero, List.set_cons_succ])
      refine WD_take (i := 18) (oi := { dst := some 7, op := Go.Op.assign (Go.Operand.tmp 32), type := 3, pos := _, after := #[{ on := 8, ground := Go.Ground.data }, { on := 0, ground := Go.Ground.phase }, { on := 1, ground := Go.Ground.phase }, { on := 2, ground := Go.Ground.phase }, { on := 3, ground := Go.Ground.phase }, { on := 4, ground := Go.Ground.phase }, { on := 5, ground := Go.Ground.phase }, { on := 6, ground := Go.Ground.phase }, { on := 7, ground := Go.Ground.phase }, { on := 8, ground := Go.Ground.phase }, { on := 9, ground := Go.Ground.textOnly Go.Departure.lateStores }, { on := 10, ground := Go.Ground.textOnly Go.Departure.lateStores }, { on := 11, ground := Go.Ground.textOnly Go.Departure.lateStores }, { on := 12, ground := Go.Ground.textOnly Go.Departure.lateStores }, { on := 13, ground := Go.Ground.textOnly Go.Departure.lateStores }, { on := 14, ground := Go.Ground.textOnly Go.Departure.lateStores }, { on := 15, ground := Go.Ground.textOnly Go.Departure.lateStores }, { on := 16, ground := Go.Ground.textOnly Go.Departure.lateStores }, { on := 17, ground := Go.Ground.textOnly Go.Departure.lateStoresUnsure }], guard := none }) (v := ?va18) rfl (by kernel_rfl) (by kernel_rfl) (by kernel_rfl) (by kernel_rfl) (fun _ _ _ h => h) (Or.inl ⟨by rfl, ?hya18⟩) hHeld ?_
      case hya18 => (intro wz hSw; (try dsimp only at hSw); have z1 := (hSw.cell (p := ⟨g, 1, none⟩) glt).trans C1.out; have zc := HC.out wz hSw; have z42 := zc.2.2.1; have z43 := zc.2.2.2; clear zc; go_simp; try with_reducible rfl)
      (try simp only [Act.put, List.setIfInBounds_toArray, List.set_cons_zero, List.set_cons_succ])
      refine WD_take (i := 19) (oi := { dst := some 8, op := Go.Op.assign (Go.Operand.tmp 41), type := 3, pos := _, after := #[{ on := 17, ground := Go.Ground.data }, { on := 18, ground := Go.Ground.chain }, { on := 0, ground := Go.Ground.phase }, { on := 1, ground := Go.Ground.phase }, { on := 2, ground := Go.Ground.phase }, { on := 3, ground := Go.Ground.phase }, { on := 4, ground := Go.Ground.phase }, { on := 5, ground := Go.Ground.phase }, { on := 6, ground := Go.Ground.phase }, { on := 7, ground := Go.Ground.phase }, { on := 8, ground := Go.Ground.phase }, { on := 9, ground := Go.Ground.phase }, { on := 10, ground := Go.Ground.phase }, { on := 11, ground := Go.Ground.phase }, { on := 12, ground := Go.Ground.phase }, { on := 13, ground := Go.Ground.phase }, { on := 14, ground := Go.Ground.phase }, { on := 15, ground := Go.Ground.phase }, { on := 16, ground := Go.Ground.phase }, { on := 17, ground := Go.Ground.phase }, { on := 18, ground := Go.Ground.phase }], guard := none }) (v := ?va19) rfl (by kernel_rfl) (by kernel_rfl) (by kernel_rfl) (by kernel_rfl) (fun _ _ _ h => h) (Or.inl ⟨by rfl, ?hya19⟩) hHeld ?_
      case hya19 => (intro wz hSw; (try dsimp only at hSw); have z1 := (hSw.cell (p := ⟨g, 1, none⟩) glt).trans C1.out; have zc := HC.out wz hSw; have z42 := zc.2.2.1; have z43 := zc.2.2.2; clear zc; go_simp; try with_reducible rfl)
      (try simp only [Act.put, List.setIfInBounds_toArray, List.set_cons_zero, List.set_cons_succ])
      refine WD_done (by kernel_rfl) ?_ _
      clear c1
      obtain ⟨w1, hw1⟩ : ∃ z, z = wr.drew := ⟨_, rfl⟩
      have b01 : Below wr.heap.size wr w1 := by rw [hw1]; exact below_drew wr
      have hz1s : w1.heap.size = wr.heap.size := by rw [hw1]; rfl
      clear hHeld
      rw [← hw1]
      have T2 := Lib.hid (T1.out.below b01)
      have HW1 := Lib.hid hz1s
      have B01 := Lib.hid b01
      clear hw1 hz1s b01
      have c1 := T2.out.c1
      have glt1 := T2.out.glt
      have SB : Hid (SL w1 A m c ys) := Lib.hid (by
        refine ⟨⟨HS.out.inl.1, fun hp => ?_⟩, HS.out.le, HS.out.nil⟩
        obtain ⟨bb, off, e, hb, hcc⟩ := HS.out.inl.2 hp
        have hbb := HLW.out hp bb off e
        refine ⟨bb, off, e, by have := HW1.out; omega, fun j hj => ?_⟩
        rw [← hcc j hj]
        refine (B01.out.cell (p := ⟨bb, off + j, none⟩) (show bb < wr.heap.size by omega)).trans ?_
        exact World.cell?_of_block (H6.out.block bb hb (fun ho => by have := (T.out.lt bb ho).1; omega)))
      have C2 := Lib.hid c1
      have HC2 : Hid (∀ W, Below w1.heap.size w1 W → W.cell? ⟨bf, i * 4, none⟩ = some (.int .i64 x.f.back) ∧ W.cell? ⟨bf, i * 4 + 1, none⟩ = some (.int .i64 x.f.call) ∧ W.cell? ⟨bf, i * 4 + 2, none⟩ = some (.slice A1 p c1') ∧ W.cell? ⟨bf, i * 4 + 3, none⟩ = some (.slice A2 q c2')) := Lib.hid (fun W hW => HC.out W (bt B01.out hW))
      have hfz2 : w1.frozen? ⟨bf, i * 4 + 2, none⟩ = false := by
        obtain ⟨bf', fc', e', _, _, hfz⟩ := T2.out.at
        injection e' with e'
        injection e' with e'
        injection e' with e'
        subst e'
        exact hfz _
      have hbf1 : bf < w1.heap.size := by have := HW1.out; omega
      obtain ⟨SA, hSA⟩ : ∃ z, z = subA A c KQ := ⟨_, rfl⟩
      have HSA := Lib.hid hSA
      have wK : IntKind.i64.wrap ((KQ : Int) + (p : Int)) = ((KQ + p : Nat) : Int) := by rw [IntWalk.i64_in _ (by omega)]; rfl
      clear hSA C1
      go_wp2
      refine wp_region_D [15] (fun w' => Below w1.heap.size w1 w') (by kernel_rfl) (below_drew w1) (fun hHeld => ?_)
      obtain ⟨w_0, hw_0⟩ : ∃ z, z = w1.drew := ⟨_, rfl⟩
      have BD : Hid (Below w1.heap.size w1 w_0) := Lib.hid (by rw [hw_0]; exact below_drew w1)
      rw [← hw_0] at hHeld ⊢
      clear hw_0
      refine WD_take (i := 0) (oi := { dst := some 42, op := Go.Op.move (Go.Operand.tmp 0), type := 44, pos := _, after := #[], guard := none }) (v := ?vb0) rfl (by kernel_rfl) (by kernel_rfl) (by kernel_rfl) (by kernel_rfl) (fun _ _ _ h => h) (Or.inl ⟨by rfl, ?hyb0⟩) hHeld ?_
      case hyb0 => (intro wz hSw; (try dsimp only at hSw); have z1 := (hSw.cell (p := ⟨g, 1, none⟩) glt1).trans C2.out; have zc := HC2.out wz hSw; have z42 := zc.2.2.1; have z43 := zc.2.2.2; clear zc; go_simp; try with_reducible rfl)
      (try simp only [Act.put, List.setIfInBounds_toArray, List.set_cons_zero, List.set_cons_succ])
      refine WD_take (i := 1) (oi := { dst := some 43, op := Go.Op.nilCheck (Go.Operand.tmp 42), type := 0, pos := _, after := #[{ on := 0, ground := Go.Ground.data }], guard := none }) (v := ?vb1) rfl (by kernel_rfl) (by kernel_rfl) (by kernel_rfl) (by kernel_rfl) (fun _ _ _ h => h) (Or.inl ⟨by rfl, ?hyb1⟩) hHeld ?_
      case hyb1 => (intro wz hSw; (try dsimp only at hSw); have z1 := (hSw.cell (p := ⟨g, 1, none⟩) glt1).trans C2.out; have zc := HC2.out wz hSw; have z42 := zc.2.2.1; have z43 := zc.2.2.2; clear zc; go_simp; try with_reducible rfl)
      (try simp only [Act.put, List.setIfInBounds_toArray, List.set_cons_zero, List.set_cons_succ])
      refine WD_take (i := 2) (oi := { dst := some 44, op := Go.Op.fieldAddr 47 (Go.Operand.tmp 43) 1, type := 0, pos := _, after := #[{ on := 1, ground := Go.Ground.data }], guard := none }) (v := ?vb2) rfl (by kernel_rfl) (by kernel_rfl) (by kernel_rfl) (by kernel_rfl) (fun _ _ _ h => h) (Or.inl ⟨by rfl, ?hyb2⟩) hHeld ?_
      case hyb2 => (intro wz hSw; (try dsimp only at hSw); have z1 := (hSw.cell (p := ⟨g, 1, none⟩) glt1).trans C2.out; have zc := HC2.out wz hSw; have z42 := zc.2.2.1; have z43 := zc.2.2.2; clear zc; go_simp; try with_reducible rfl)
      (try simp only [Act.put, List.setIfInBounds_toArray, List.set_cons_zero, List.set_cons_succ])
      refine WD_take (i := 3) (oi := { dst := some 45, op := Go.Op.load 45 (Go.Operand.tmp 44), type := 45, pos := _, after := #[{ on := 2, ground := Go.Ground.data }], guard := none }) (v := ?vb3) rfl (by kernel_rfl) (by kernel_rfl) (by kernel_rfl) (by kernel_rfl) (fun _ _ _ h => h) (Or.inl ⟨by rfl, ?hyb3⟩) hHeld ?_
      case hyb3 => (intro wz hSw; (try dsimp only at hSw); have z1 := (hSw.cell (p := ⟨g, 1, none⟩) glt1).trans C2.out; have zc := HC2.out wz hSw; have z42 := zc.2.2.1; have z43 := zc.2.2.2; clear zc; go_simp; try with_reducible rfl)
      (try simp only [Act.put, List.setIfInBounds_toArray, List.set_cons_zero, List.set_cons_succ])
      refine WD_take (i := 4) (oi := { dst := some 46, op := Go.Op.move (Go.Operand.tmp 6), type := 3, pos := _, after := #[], guard := none }) (v := ?vb4) rfl (by kernel_rfl) (by kernel_rfl) (by kernel_rfl) (by kernel_rfl) (fun _ _ _ h => h) (Or.inl ⟨by rfl, ?hyb4⟩) hHeld ?_
      case hyb4 => (intro wz hSw; (try dsimp only at hSw); have z1 := (hSw.cell (p := ⟨g, 1, none⟩) glt1).trans C2.out; have zc := HC2.out wz hSw; have z42 := zc.2.2.1; have z43 := zc.2.2.2; clear zc; go_simp; try with_reducible rfl)
      (try simp only [Act.put, List.setIfInBounds_toArray, List.set_cons_zero, List.set_cons_succ])
      refine WD_take (i := 6) (oi := { dst := some 48, op := Go.Op.move (Go.Operand.tmp 1), type := 48, pos := _, after := #[], guard := none }) (v := ?vb6) rfl (by kernel_rfl) (by kernel_rfl) (by kernel_rfl) (by kernel_rfl) (fun _ _ _ h => h) (Or.inl ⟨by rfl, ?hyb6⟩) hHeld ?_
      case hyb6 => (intro wz hSw; (try dsimp only at hSw); have z1 := (hSw.cell (p := ⟨g, 1, none⟩) glt1).trans C2.out; have zc := HC2.out wz hSw; have z42 := zc.2.2.1; have z43 := zc.2.2.2; clear zc; go_simp; try with_reducible rfl)
      (try simp only [Act.put, List.setIfInBounds_toArray, List.set_cons_zero, List.set_cons_succ])
      refine WD_take (i := 7) (oi := { dst := some 49, op := Go.Op.move (Go.Operand.tmp 5), type := 3, pos := _, after := #[], guard := none }) (v := ?vb7) rfl (by kernel_rfl) (by kernel_rfl) (by kernel_rfl) (by kernel_rfl) (fun _ _ _ h => h) (Or.inl ⟨by rfl, ?hyb7⟩) hHeld ?_
      case hyb7 => (intro wz hSw; (try dsimp only at hSw); have z1 := (hSw.cell (p := ⟨g, 1, none⟩) glt1).trans C2.out; have zc := HC2.out wz hSw; have z42 := zc.2.2.1; have z43 := zc.2.2.2; clear zc; go_simp; try with_reducible rfl)
      (try simp only [Act.put, List.setIfInBounds_toArray, List.set_cons_zero, List.set_cons_succ])
      refine WD_take (i := 8) (oi := { dst := some 50, op := Go.Op.move (Go.Operand.tmp 5), type := 3, pos := _, after := #[], guard := none }) (v := ?vb8) rfl (by kernel_rfl) (by kernel_rfl) (by kernel_rfl) (by kernel_rfl) (fun _ _ _ h => h) (Or.inl ⟨by rfl, ?hyb8⟩) hHeld ?_
      case hyb8 => (intro wz hSw; (try dsimp only at hSw); have z1 := (hSw.cell (p := ⟨g, 1, none⟩) glt1).trans C2.out; have zc := HC2.out wz hSw; have z42 := zc.2.2.1; have z43 := zc.2.2.2; clear zc; go_simp; try with_reducible rfl)
      (try simp only [Act.put, List.setIfInBounds_toArray, List.set_cons_zero, List.set_cons_succ])
      refine WD_take (i := 9) (oi := { dst := some 51, op := Go.Op.move (Go.Operand.tmp 7), type := 3, pos := _, after := #[], guard := none }) (v := ?vb9) rfl (by kernel_rfl) (by kernel_rfl) (by kernel_rfl) (by kernel_rfl) (fun _ _ _ h => h) (Or.inl ⟨by rfl, ?hyb9⟩) hHeld ?_
      case hyb9 => (intro wz hSw; (try dsimp only at hSw); have z1 := (hSw.cell (p := ⟨g, 1, none⟩) glt1).trans C2.out; have zc := HC2.out wz hSw; have z42 := zc.2.2.1; have z43 := zc.2.2.2; clear zc; go_simp; try with_reducible rfl)
      (try simp only [Act.put, List.setIfInBounds_toArray, List.set_cons_zero, List.set_cons_succ])
      refine WD_take (i := 10) (oi := { dst := some 52, op := Go.Op.binOp Go.BinOp.add 3 (Go.Operand.tmp 50) (Go.Operand.tmp 51) 3, type := 3, pos := _, after := #[{ on := 8, ground := Go.Ground.data }, { on := 9, ground := Go.Ground.data }], guard := none }) (v := ?vb10) rfl (by kernel_rfl) (by kernel_rfl) (by kernel_rfl) (by kernel_rfl) (fun _ _ _ h => h) (Or.inl ⟨by rfl, ?hyb10⟩) hHeld ?_
      case hyb10 => (intro wz hSw; (try dsimp only at hSw); have z1 := (hSw.cell (p := ⟨g, 1, none⟩) glt1).trans C2.out; have zc := HC2.out wz hSw; have z42 := zc.2.2.1; have z43 := zc.2.2.2; clear zc; go_simp; try with_reducible rfl)
      (try simp only [Act.put, List.setIfInBounds_toArray, List.set_cons_zero, List.set_cons_succ])
      refine WD_take (i := 11) (oi := { dst := some 53, op := Go.Op.slice 48 (Go.Operand.tmp 48) (some (Go.Operand.tmp 49)) (some (Go.Operand.tmp 52)) none, type := 48, pos := _, after := #[{ on := 6, ground := Go.Ground.data }, { on := 7, ground := Go.Ground.data }, { on := 10, ground := Go.Ground.data }], guard := none }) (v := ?vb11) rfl (by kernel_rfl) (by kernel_rfl) (by kernel_rfl) (by kernel_rfl) (fun _ _ _ h => h) (Or.inl ⟨by rfl, ?hyb11⟩) hHeld ?_
      case hyb11 => (intro wz hSw; (try dsimp only at hSw); go_simp; rw [if_pos ⟨by omega, by omega⟩, if_pos (by omega), show ((KQ : Int) + (p : Int)).toNat - KQ = p by omega, show (if c = KQ then A else Option.map (fun x => x.add KQ) A) = SA from HSA.out.symm])
      (try simp only [Act.put, List.setIfInBounds_toArray, List.set_cons_zero, List.set_cons_succ])
      refine WD_ready (rs := [5]) (by kernel_rfl) (by simp) ?_
      refine AllD.cons (o := { dst := some 47, op := Go.Op.buildSlice 48 0 #[], type := 48, pos := _, after := #[], guard := none }) rfl (fun K hK => ?_) AllD.nil
      go_simp
      refine hK.out _ _ (bt BD.out (below_alloc w_0 _)) (fun hHeld_1 => ?_)
      clear hK K
      (try simp only [Act.put, List.setIfInBounds_toArray, List.set_cons_zero, List.set_cons_succ])
      obtain ⟨w_1, hw_1⟩ : ∃ z, z = w_0.alloc (.cells #[] 29) := ⟨_, rfl⟩
      have B_1 : Hid (Below w1.heap.size w1 w_1) := Lib.hid (by rw [hw_1]; exact hHeld_1)
      have C_1 : Hid (w_1.heap[w_0.heap.size]? = some (.cells #[] 29 (0, 0))) := Lib.hid (by rw [hw_1]; exact heap_alloc_new w_0 _)
      clear hHeld_1
      try rw [← hw_1]
      clear hw_1
      refine WD_ready (rs := [12]) (by kernel_rfl) (by simp) ?_
      refine AllD.cons (o := { dst := some 54, op := Go.Op.call { callee := Go.Callee.builtin Go.Builtin.append, args := #[Go.Operand.tmp 47, Go.Operand.tmp 53], argTypes := #[48, 48] }, type := 48, pos := _, after := #[{ on := 5, ground := Go.Ground.data }, { on := 11, ground := Go.Ground.data }], guard := none }) rfl (fun K hK => ?_) AllD.nil
      refine step_append_sl rfl (.tmp 47) (.tmp 53) 48 rfl w1.heap.size 29 i0 (.int .u64 0) 1 8 Try.underlying48 hi0 hz0 hz1 hz2 rfl (by decide) (.slice (some ⟨w_0.heap.size, 0, none⟩) 0 0) 0 [] rfl (own_litg (k := w_0.heap.size) C_1.out BD.out.size) SA p (c - KQ) (wds ((ys.drop KQ).take p)) rfl (by rw [wds_len, List.length_take, List.length_drop, SB.out.inl.1]; omega) (fun e => SB.out.sub_none (by omega) (HSA.out ▸ e)) (fun ad e => SB.out.sub_news (by omega) B_1.out ad (HSA.out ▸ e)) (wds_one _) (by unfold maxLen; omega) (by omega) B_1.out.size ?_
      intro v_2 w_2 own_2 gr_2 at_2
      simp only [Nat.zero_add, List.nil_append] at own_2
      have B_2 : Hid (Below w1.heap.size w1 w_2) := Lib.hid (B_1.out.grown gr_2 B_1.out.size (fun q hq => by simp [Value.ownBlock] at hq; have := BD.out.size; omega))
      have O_2 := Lib.hid own_2
      clear own_2 gr_2 at_2
      obtain ⟨V_2, c_2, hv_2⟩ := vform O_2.out
      subst hv_2
      refine hK.out _ _ B_2.out (fun _ => ?_)
      clear hK K
      (try simp only [Act.put, List.setIfInBounds_toArray, List.set_cons_zero, List.set_cons_succ])
      refine WD_take (i := 13) (oi := { dst := some 55, op := Go.Op.indexAddr 45 (Go.Operand.tmp 45) (Go.Operand.tmp 46), type := 0, pos := _, after := #[{ on := 3, ground := Go.Ground.data }, { on := 4, ground := Go.Ground.data }, { on := 0, ground := Go.Ground.phase }, { on := 1, ground := Go.Ground.phase }, { on := 2, ground := Go.Ground.phase }, { on := 3, ground := Go.Ground.phase }, { on := 4, ground := Go.Ground.phase }, { on := 5, ground := Go.Ground.phase }, { on := 6, ground := Go.Ground.phase }, { on := 7, ground := Go.Ground.phase }, { on := 8, ground := Go.Ground.phase }, { on := 9, ground := Go.Ground.phase }, { on := 10, ground := Go.Ground.phase }, { on := 11, ground := Go.Ground.phase }, { on := 12, ground := Go.Ground.phase }], guard := none }) (v := ?vf13) rfl (by kernel_rfl) (by kernel_rfl) (by kernel_rfl) (by kernel_rfl) (fun _ _ _ h => h) (Or.inl ⟨by rfl, ?hyf13⟩) B_2.out ?_
      case hyf13 => (intro wz hSw; (try dsimp only at hSw); go_simp; try with_reducible rfl)
      (try simp only [Act.put, List.setIfInBounds_toArray, List.set_cons_zero, List.set_cons_succ])
      refine WD_take (i := 14) (oi := { dst := some 56, op := Go.Op.fieldAddr 80 (Go.Operand.tmp 55) 2, type := 0, pos := _, after := #[{ on := 13, ground := Go.Ground.data }, { on := 0, ground := Go.Ground.phase }, { on := 1, ground := Go.Ground.phase }, { on := 2, ground := Go.Ground.phase }, { on := 3, ground := Go.Ground.phase }, { on := 4, ground := Go.Ground.phase }, { on := 5, ground := Go.Ground.phase }, { on := 6, ground := Go.Ground.phase }, { on := 7, ground := Go.Ground.phase }, { on := 8, ground := Go.Ground.phase }, { on := 9, ground := Go.Ground.phase }, { on := 10, ground := Go.Ground.phase }, { on := 11, ground := Go.Ground.phase }, { on := 12, ground := Go.Ground.phase }], guard := none }) (v := ?vf14) rfl (by kernel_rfl) (by kernel_rfl) (by kernel_rfl) (by kernel_rfl) (fun _ _ _ h => h) (Or.inl ⟨by rfl, ?hyf14⟩) B_2.out ?_
      case hyf14 => (intro wz hSw; (try dsimp only at hSw); go_simp; try with_reducible rfl)
      (try simp only [Act.put, List.setIfInBounds_toArray, List.set_cons_zero, List.set_cons_succ])
      refine WD_ready (rs := [15]) (by kernel_rfl) (by simp) ?_
      refine AllD.last (o := { dst := none, op := Go.Op.store 48 (Go.Operand.tmp 56) (Go.Operand.tmp 54), type := 0, pos := _, after := #[{ on := 14, ground := Go.Ground.data }, { on := 12, ground := Go.Ground.data }, { on := 12, ground := Go.Ground.chain }, { on := 0, ground := Go.Ground.phase }, { on := 1, ground := Go.Ground.phase }, { on := 2, ground := Go.Ground.phase }, { on := 3, ground := Go.Ground.phase }, { on := 4, ground := Go.Ground.phase }, { on := 5, ground := Go.Ground.phase }, { on := 6, ground := Go.Ground.phase }, { on := 7, ground := Go.Ground.phase }, { on := 8, ground := Go.Ground.phase }, { on := 9, ground := Go.Ground.phase }, { on := 10, ground := Go.Ground.phase }, { on := 11, ground := Go.Ground.phase }, { on := 12, ground := Go.Ground.phase }], guard := none }) rfl (by kernel_rfl) (fun K hK => ?_) AllD.nil
      have e33 := (B_2.out.cell (p := ⟨bf, i * 4 + 2, none⟩) hbf1).trans (HC2.out w1 (Below.refl _ _)).2.2.1
      have z33 := (B_2.out.frozen (p := ⟨bf, i * 4 + 2, none⟩) hbf1).trans hfz2
      go_simp
      refine hK.out _ _ ?_
      clear hK K
      (try simp only [Act.put, List.setIfInBounds_toArray, List.set_cons_zero, List.set_cons_succ])
      refine WD_done (by kernel_rfl) ?_ _
      have LEN : Hid (((ys.drop KQ).take p).length = p) := Lib.hid (by rw [List.length_take, List.length_drop, SB.out.inl.1]; omega)
      have LEN2 : Hid (((ys.drop (KQ + p)).take q).length = q) := Lib.hid (by rw [List.length_take, List.length_drop, SB.out.inl.1]; omega)
      have E1 := Lib.hid (rs_sv (v := .slice V_2 p c_2) T2.out B_2.out (by rw [LEN.out]; exact O_2.out) (by rw [LEN.out]; exact HPQ.out.1) H2.out.symm)
      obtain ⟨w4, hw4⟩ : ∃ z, z = w_2.setCell ⟨bf, i * 4 + 2, none⟩ (.slice V_2 p c_2) := ⟨_, rfl⟩
      rw [← hw4] at E1 ⊢
      have HW4 : Hid (w1.heap.size ≤ w4.heap.size) := Lib.hid (by rw [hw4]; show _ ≤ (Array.modify _ _ _).size; rw [Array.size_modify]; exact B_2.out.size)
      clear hw4 e33 z33 O_2 B_2 C_1 B_1 BD hHeld hfz2 wK HSA
      have T4 := Lib.hid E1.out.1
      have c4 := T4.out.c1
      have glt4 := T4.out.glt
      have hbf4 : bf < w4.heap.size := by have := HW4.out; omega
      have e9 : Hid (∃ bf' c', (Value.slice (some ⟨bf, 0, none⟩) N fc) = .slice (some ⟨bf', 0, none⟩) (a ++ (⟨{ x.f with slots := (ys.drop KQ).take p }, .slice V_2 p c_2, x.av⟩ : RX) :: b).length c' ∧ (∀ W, Below w4.heap.size w4 W → W.cell? ⟨bf', a.length * 4, none⟩ = some (.int .i64 x.f.back) ∧ W.cell? ⟨bf', a.length * 4 + 1, none⟩ = some (.int .i64 x.f.call) ∧ W.cell? ⟨bf', a.length * 4 + 2, none⟩ = some (.slice V_2 p c_2) ∧ W.cell? ⟨bf', a.length * 4 + 3, none⟩ = some x.av) ∧ ∀ j, w4.frozen? ⟨bf', j, none⟩ = false) := Lib.hid (by
        obtain ⟨bf', c', e1, _, e2, e3⟩ := T4.out.at
        exact ⟨bf', c', e1, e2, e3⟩)
      obtain ⟨bf', fc', e', hcell4, hfz4x⟩ := e9.out
      injection e' with e' en e''
      injection e' with e'
      injection e' with e'
      subst e'
      clear en e'' e9
      have XAV : Hid (x.av = .slice A2 q c2') := Lib.hid (by
        have h1 := (HC2.out w1 (Below.refl _ _)).2.2.2
        obtain ⟨bf9, c9, e1, _, h2, _⟩ := T2.out.at
        injection e1 with e1 _ e3
        injection e1 with e1
        injection e1 with e1
        subst e1
        have h3 := (h2 w1 (Below.refl _ _)).2.2.2
        rw [H2.out, h1] at h3
        injection h3 with h3; exact h3.symm)
      rw [H2.out, XAV.out] at hcell4
      have hfz4 := hfz4x (i * 4 + 3)
      clear hfz4x
      have HC4 := Lib.hid hcell4
      have C4 := Lib.hid c4
      have SD : Hid (SL w4 A m c ys) := Lib.hid (by
        refine ⟨⟨HS.out.inl.1, fun hp => ?_⟩, HS.out.le, HS.out.nil⟩
        obtain ⟨bb, off, e, hb, hcc⟩ := HS.out.inl.2 hp
        have hbb := HLW.out hp bb off e
        have hw1 := HW1.out
        have hw4 := HW4.out
        refine ⟨bb, off, e, by omega, fun j hj => ?_⟩
        rw [← hcc j hj]
        refine (World.cell?_of_block ?_).trans ((B01.out.cell (p := ⟨bb, off + j, none⟩) (show bb < wr.heap.size by omega)).trans (World.cell?_of_block (H6.out.block bb hb (fun ho => by have := (T.out.lt bb ho).1; omega))))
        exact E1.out.2.1.block bb (show bb < w1.heap.size by omega) (fun ho => by have := (T2.out.lt bb ho).1; omega))
      obtain ⟨SA2, hSA2⟩ : ∃ z, z = subA A c (KQ + p) := ⟨_, rfl⟩
      have HSA2 := Lib.hid hSA2
      obtain ⟨KP, hKP⟩ : ∃ z, z = KQ + p := ⟨_, rfl⟩
      have HKP := Lib.hid hKP
      have wK : IntKind.i64.wrap ((KQ : Int) + (p : Int)) = (KP : Int) := by rw [IntWalk.i64_in _ (by omega)]; omega
      have wK2 : IntKind.i64.wrap ((KP : Int) + (q : Int)) = ((KP + q : Nat) : Int) := by rw [IntWalk.i64_in _ (by omega)]; rfl
      rw [← hKP] at HSA2 LEN2
      have hle2 : KP + q ≤ m := by omega
      clear hSA2 hKP hcell4 c4 c1
      go_wp2
      refine wp_region_D [19] (fun w' => Below w4.heap.size w4 w') (by kernel_rfl) (below_drew w4) (fun hHeld => ?_)
      obtain ⟨w_0, hw_0⟩ : ∃ z, z = w4.drew := ⟨_, rfl⟩
      have BD : Hid (Below w4.heap.size w4 w_0) := Lib.hid (by rw [hw_0]; exact below_drew w4)
      rw [← hw_0] at hHeld ⊢
      clear hw_0
      refine WD_take (i := 0) (oi := { dst := some 57, op := Go.Op.move (Go.Operand.tmp 0), type := 44, pos := _, after := #[], guard := none }) (v := ?vh0) rfl (by kernel_rfl) (by kernel_rfl) (by kernel_rfl) (by kernel_rfl) (fun _ _ _ h => h) (Or.inl ⟨by rfl, ?hyh0⟩) hHeld ?_
      case hyh0 => (intro wz hSw; (try dsimp only at hSw); have z1 := (hSw.cell (p := ⟨g, 1, none⟩) glt4).trans C4.out; have zc := HC4.out wz hSw; have z42 := zc.2.2.1; have z43 := zc.2.2.2; clear zc; go_simp; try with_reducible rfl)
      (try simp only [Act.put, List.setIfInBounds_toArray, List.set_cons_zero, List.set_cons_succ])
      refine WD_take (i := 1) (oi := { dst := some 58, op := Go.Op.nilCheck (Go.Operand.tmp 57), type := 0, pos := _, after := #[{ on := 0, ground := Go.Ground.data }], guard := none }) (v := ?vh1) rfl (by kernel_rfl) (by kernel_rfl) (by kernel_rfl) (by kernel_rfl) (fun _ _ _ h => h) (Or.inl ⟨by rfl, ?hyh1⟩) hHeld ?_
      case hyh1 => (intro wz hSw; (try dsimp only at hSw); have z1 := (hSw.cell (p := ⟨g, 1, none⟩) glt4).trans C4.out; have zc := HC4.out wz hSw; have z42 := zc.2.2.1; have z43 := zc.2.2.2; clear zc; go_simp; try with_reducible rfl)
      (try simp only [Act.put, List.setIfInBounds_toArray, List.set_cons_zero, List.set_cons_succ])
      refine WD_take (i := 2) (oi := { dst := some 59, op := Go.Op.fieldAddr 47 (Go.Operand.tmp 58) 1, type := 0, pos := _, after := #[{ on := 1, ground := Go.Ground.data }], guard := none }) (v := ?vh2) rfl (by kernel_rfl) (by kernel_rfl) (by kernel_rfl) (by kernel_rfl) (fun _ _ _ h => h) (Or.inl ⟨by rfl, ?hyh2⟩) hHeld ?_
      case hyh2 => (intro wz hSw; (try dsimp only at hSw); have z1 := (hSw.cell (p := ⟨g, 1, none⟩) glt4).trans C4.out; have zc := HC4.out wz hSw; have z42 := zc.2.2.1; have z43 := zc.2.2.2; clear zc; go_simp; try with_reducible rfl)
      (try simp only [Act.put, List.setIfInBounds_toArray, List.set_cons_zero, List.set_cons_succ])
      refine WD_take (i := 3) (oi := { dst := some 60, op := Go.Op.load 45 (Go.Operand.tmp 59), type := 45, pos := _, after := #[{ on := 2, ground := Go.Ground.data }], guard := none }) (v := ?vh3) rfl (by kernel_rfl) (by kernel_rfl) (by kernel_rfl) (by kernel_rfl) (fun _ _ _ h => h) (Or.inl ⟨by rfl, ?hyh3⟩) hHeld ?_
      case hyh3 => (intro wz hSw; (try dsimp only at hSw); have z1 := (hSw.cell (p := ⟨g, 1, none⟩) glt4).trans C4.out; have zc := HC4.out wz hSw; have z42 := zc.2.2.1; have z43 := zc.2.2.2; clear zc; go_simp; try with_reducible rfl)
      (try simp only [Act.put, List.setIfInBounds_toArray, List.set_cons_zero, List.set_cons_succ])
      refine WD_take (i := 4) (oi := { dst := some 61, op := Go.Op.move (Go.Operand.tmp 6), type := 3, pos := _, after := #[], guard := none }) (v := ?vh4) rfl (by kernel_rfl) (by kernel_rfl) (by kernel_rfl) (by kernel_rfl) (fun _ _ _ h => h) (Or.inl ⟨by rfl, ?hyh4⟩) hHeld ?_
      case hyh4 => (intro wz hSw; (try dsimp only at hSw); have z1 := (hSw.cell (p := ⟨g, 1, none⟩) glt4).trans C4.out; have zc := HC4.out wz hSw; have z42 := zc.2.2.1; have z43 := zc.2.2.2; clear zc; go_simp; try with_reducible rfl)
      (try simp only [Act.put, List.setIfInBounds_toArray, List.set_cons_zero, List.set_cons_succ])
      refine WD_take (i := 6) (oi := { dst := some 63, op := Go.Op.move (Go.Operand.tmp 1), type := 48, pos := _, after := #[], guard := none }) (v := ?vh6) rfl (by kernel_rfl) (by kernel_rfl) (by kernel_rfl) (by kernel_rfl) (fun _ _ _ h => h) (Or.inl ⟨by rfl, ?hyh6⟩) hHeld ?_
      case hyh6 => (intro wz hSw; (try dsimp only at hSw); have z1 := (hSw.cell (p := ⟨g, 1, none⟩) glt4).trans C4.out; have zc := HC4.out wz hSw; have z42 := zc.2.2.1; have z43 := zc.2.2.2; clear zc; go_simp; try with_reducible rfl)
      (try simp only [Act.put, List.setIfInBounds_toArray, List.set_cons_zero, List.set_cons_succ])
      refine WD_take (i := 7) (oi := { dst := some 64, op := Go.Op.move (Go.Operand.tmp 5), type := 3, pos := _, after := #[], guard := none }) (v := ?vh7) rfl (by kernel_rfl) (by kernel_rfl) (by kernel_rfl) (by kernel_rfl) (fun _ _ _ h => h) (Or.inl ⟨by rfl, ?hyh7⟩) hHeld ?_
      case hyh7 => (intro wz hSw; (try dsimp only at hSw); have z1 := (hSw.cell (p := ⟨g, 1, none⟩) glt4).trans C4.out; have zc := HC4.out wz hSw; have z42 := zc.2.2.1; have z43 := zc.2.2.2; clear zc; go_simp; try with_reducible rfl)
      (try simp only [Act.put, List.setIfInBounds_toArray, List.set_cons_zero, List.set_cons_succ])
      refine WD_take (i := 8) (oi := { dst := some 65, op := Go.Op.move (Go.Operand.tmp 7), type := 3, pos := _, after := #[], guard := none }) (v := ?vh8) rfl (by kernel_rfl) (by kernel_rfl) (by kernel_rfl) (by kernel_rfl) (fun _ _ _ h => h) (Or.inl ⟨by rfl, ?hyh8⟩) hHeld ?_
      case hyh8 => (intro wz hSw; (try dsimp only at hSw); have z1 := (hSw.cell (p := ⟨g, 1, none⟩) glt4).trans C4.out; have zc := HC4.out wz hSw; have z42 := zc.2.2.1; have z43 := zc.2.2.2; clear zc; go_simp; try with_reducible rfl)
      (try simp only [Act.put, List.setIfInBounds_toArray, List.set_cons_zero, List.set_cons_succ])
      refine WD_take (i := 9) (oi := { dst := some 66, op := Go.Op.binOp Go.BinOp.add 3 (Go.Operand.tmp 64) (Go.Operand.tmp 65) 3, type := 3, pos := _, after := #[{ on := 7, ground := Go.Ground.data }, { on := 8, ground := Go.Ground.data }], guard := none }) (v := ?vh9) rfl (by kernel_rfl) (by kernel_rfl) (by kernel_rfl) (by kernel_rfl) (fun _ _ _ h => h) (Or.inl ⟨by rfl, ?hyh9⟩) hHeld ?_
      case hyh9 => (intro wz hSw; (try dsimp only at hSw); have z1 := (hSw.cell (p := ⟨g, 1, none⟩) glt4).trans C4.out; have zc := HC4.out wz hSw; have z42 := zc.2.2.1; have z43 := zc.2.2.2; clear zc; go_simp; try with_reducible rfl)
      (try simp only [Act.put, List.setIfInBounds_toArray, List.set_cons_zero, List.set_cons_succ])
      refine WD_take (i := 10) (oi := { dst := some 67, op := Go.Op.move (Go.Operand.tmp 5), type := 3, pos := _, after := #[], guard := none }) (v := ?vh10) rfl (by kernel_rfl) (by kernel_rfl) (by kernel_rfl) (by kernel_rfl) (fun _ _ _ h => h) (Or.inl ⟨by rfl, ?hyh10⟩) hHeld ?_
      case hyh10 => (intro wz hSw; (try dsimp only at hSw); have z1 := (hSw.cell (p := ⟨g, 1, none⟩) glt4).trans C4.out; have zc := HC4.out wz hSw; have z42 := zc.2.2.1; have z43 := zc.2.2.2; clear zc; go_simp; try with_reducible rfl)
      (try simp only [Act.put, List.setIfInBounds_toArray, List.set_cons_zero, List.set_cons_succ])
      refine WD_take (i := 11) (oi := { dst := some 68, op := Go.Op.move (Go.Operand.tmp 7), type := 3, pos := _, after := #[], guard := none }) (v := ?vh11) rfl (by kernel_rfl) (by kernel_rfl) (by kernel_rfl) (by kernel_rfl) (fun _ _ _ h => h) (Or.inl ⟨by rfl, ?hyh11⟩) hHeld ?_
      case hyh11 => (intro wz hSw; (try dsimp only at hSw); have z1 := (hSw.cell (p := ⟨g, 1, none⟩) glt4).trans C4.out; have zc := HC4.out wz hSw; have z42 := zc.2.2.1; have z43 := zc.2.2.2; clear zc; go_simp; try with_reducible rfl)
      (try simp only [Act.put, List.setIfInBounds_toArray, List.set_cons_zero, List.set_cons_succ])
      refine WD_take (i := 12) (oi := { dst := some 69, op := Go.Op.binOp Go.BinOp.add 3 (Go.Operand.tmp 67) (Go.Operand.tmp 68) 3, type := 3, pos := _, after := #[{ on := 10, ground := Go.Ground.data }, { on := 11, ground := Go.Ground.data }], guard := none }) (v := ?vh12) rfl (by kernel_rfl) (by kernel_rfl) (by kernel_rfl) (by kernel_rfl) (fun _ _ _ h => h) (Or.inl ⟨by rfl, ?hyh12⟩) hHeld ?_
      case hyh12 => (intro wz hSw; (try dsimp only at hSw); have z1 := (hSw.cell (p := ⟨g, 1, none⟩) glt4).trans C4.out; have zc := HC4.out wz hSw; have z42 := zc.2.2.1; have z43 := zc.2.2.2; clear zc; go_simp; try with_reducible rfl)
      (try simp only [Act.put, List.setIfInBounds_toArray, List.set_cons_zero, List.set_cons_succ])
      refine WD_take (i := 13) (oi := { dst := some 70, op := Go.Op.move (Go.Operand.tmp 8), type := 3, pos := _, after := #[], guard := none }) (v := ?vh13) rfl (by kernel_rfl) (by kernel_rfl) (by kernel_rfl) (by kernel_rfl) (fun _ _ _ h => h) (Or.inl ⟨by rfl, ?hyh13⟩) hHeld ?_
      case hyh13 => (intro wz hSw; (try dsimp only at hSw); have z1 := (hSw.cell (p := ⟨g, 1, none⟩) glt4).trans C4.out; have zc := HC4.out wz hSw; have z42 := zc.2.2.1; have z43 := zc.2.2.2; clear zc; go_simp; try with_reducible rfl)
      (try simp only [Act.put, List.setIfInBounds_toArray, List.set_cons_zero, List.set_cons_succ])
      refine WD_take (i := 14) (oi := { dst := some 71, op := Go.Op.binOp Go.BinOp.add 3 (Go.Operand.tmp 69) (Go.Operand.tmp 70) 3, type := 3, pos := _, after := #[{ on := 12, ground := Go.Ground.data }, { on := 13, ground := Go.Ground.data }], guard := none }) (v := ?vh14) rfl (by kernel_rfl) (by kernel_rfl) (by kernel_rfl) (by kernel_rfl) (fun _ _ _ h => h) (Or.inl ⟨by rfl, ?hyh14⟩) hHeld ?_
      case hyh14 => (intro wz hSw; (try dsimp only at hSw); have z1 := (hSw.cell (p := ⟨g, 1, none⟩) glt4).trans C4.out; have zc := HC4.out wz hSw; have z42 := zc.2.2.1; have z43 := zc.2.2.2; clear zc; go_simp; try with_reducible rfl)
      (try simp only [Act.put, List.setIfInBounds_toArray, List.set_cons_zero, List.set_cons_succ])
      refine WD_take (i := 15) (oi := { dst := some 72, op := Go.Op.slice 48 (Go.Operand.tmp 63) (some (Go.Operand.tmp 66)) (some (Go.Operand.tmp 71)) none, type := 48, pos := _, after := #[{ on := 6, ground := Go.Ground.data }, { on := 9, ground := Go.Ground.data }, { on := 14, ground := Go.Ground.data }], guard := none }) (v := ?vh15) rfl (by kernel_rfl) (by kernel_rfl) (by kernel_rfl) (by kernel_rfl) (fun _ _ _ h => h) (Or.inl ⟨by rfl, ?hyh15⟩) hHeld ?_
      case hyh15 => (intro wz hSw; (try dsimp only at hSw); go_simp; rw [if_pos ⟨by omega, by omega⟩, if_pos (by omega), show ((KP : Int) + (q : Int)).toNat - KP = q by omega, show (if c = KP then A else Option.map (fun x => x.add KP) A) = SA2 from HSA2.out.symm])
      (try simp only [Act.put, List.setIfInBounds_toArray, List.set_cons_zero, List.set_cons_succ])
      refine WD_ready (rs := [5]) (by kernel_rfl) (by simp) ?_
      refine AllD.cons (o := { dst := some 62, op := Go.Op.buildSlice 48 0 #[], type := 48, pos := _, after := #[], guard := none }) rfl (fun K hK => ?_) AllD.nil
      go_simp
      refine hK.out _ _ (bt BD.out (below_alloc w_0 _)) (fun hHeld_3 => ?_)
      clear hK K
      (try simp only [Act.put, List.setIfInBounds_toArray, List.set_cons_zero, List.set_cons_succ])
      obtain ⟨w_3, hw_3⟩ : ∃ z, z = w_0.alloc (.cells #[] 29) := ⟨_, rfl⟩
      have B_3 : Hid (Below w4.heap.size w4 w_3) := Lib.hid (by rw [hw_3]; exact hHeld_3)
      have C_3 : Hid (w_3.heap[w_0.heap.size]? = some (.cells #[] 29 (0, 0))) := Lib.hid (by rw [hw_3]; exact heap_alloc_new w_0 _)
      clear hHeld_3
      try rw [← hw_3]
      clear hw_3
      refine WD_ready (rs := [16]) (by kernel_rfl) (by simp) ?_
      refine AllD.cons (o := { dst := some 73, op := Go.Op.call { callee := Go.Callee.builtin Go.Builtin.append, args := #[Go.Operand.tmp 62, Go.Operand.tmp 72], argTypes := #[48, 48] }, type := 48, pos := _, after := #[{ on := 5, ground := Go.Ground.data }, { on := 15, ground := Go.Ground.data }], guard := none }) rfl (fun K hK => ?_) AllD.nil
      refine step_append_sl rfl (.tmp 62) (.tmp 72) 48 rfl w4.heap.size 29 i0 (.int .u64 0) 1 8 Try.underlying48 hi0 hz0 hz1 hz2 rfl (by decide) (.slice (some ⟨w_0.heap.size, 0, none⟩) 0 0) 0 [] rfl (own_litg (k := w_0.heap.size) C_3.out BD.out.size) SA2 q (c - KP) (wds ((ys.drop KP).take q)) rfl (by rw [wds_len, List.length_take, List.length_drop, SD.out.inl.1]; omega) (fun e => SD.out.sub_none (by omega) (HSA2.out ▸ e)) (fun ad e => SD.out.sub_news (by omega) B_3.out ad (HSA2.out ▸ e)) (wds_one _) (by unfold maxLen; omega) (by omega) B_3.out.size ?_
      intro v_4 w_4 own_4 gr_4 at_4
      simp only [Nat.zero_add, List.nil_append] at own_4
      have B_4 : Hid (Below w4.heap.size w4 w_4) := Lib.hid (B_3.out.grown gr_4 B_3.out.size (fun q hq => by simp [Value.ownBlock] at hq; have := BD.out.size; omega))
      have O_4 := Lib.hid own_4
      clear own_4 gr_4 at_4
      obtain ⟨V_4, c_4, hv_4⟩ := vform O_4.out
      subst hv_4
      refine hK.out _ _ B_4.out (fun _ => ?_)
      clear hK K
      (try simp only [Act.put, List.setIfInBounds_toArray, List.set_cons_zero, List.set_cons_succ])
      refine WD_take (i := 17) (oi := { dst := some 74, op := Go.Op.indexAddr 45 (Go.Operand.tmp 60) (Go.Operand.tmp 61), type := 0, pos := _, after := #[{ on := 3, ground := Go.Ground.data }, { on := 4, ground := Go.Ground.data }, { on := 0, ground := Go.Ground.phase }, { on := 1, ground := Go.Ground.phase }, { on := 2, ground := Go.Ground.phase }, { on := 3, ground := Go.Ground.phase }, { on := 4, ground := Go.Ground.phase }, { on := 5, ground := Go.Ground.phase }, { on := 6, ground := Go.Ground.phase }, { on := 7, ground := Go.Ground.phase }, { on := 8, ground := Go.Ground.phase }, { on := 9, ground := Go.Ground.phase }, { on := 10, ground := Go.Ground.phase }, { on := 11, ground := Go.Ground.phase }, { on := 12, ground := Go.Ground.phase }, { on := 13, ground := Go.Ground.phase }, { on := 14, ground := Go.Ground.phase }, { on := 15, ground := Go.Ground.phase }, { on := 16, ground := Go.Ground.phase }], guard := none }) (v := ?vk17) rfl (by kernel_rfl) (by kernel_rfl) (by kernel_rfl) (by kernel_rfl) (fun _ _ _ h => h) (Or.inl ⟨by rfl, ?hyk17⟩) B_4.out ?_
      case hyk17 => (intro wz hSw; (try dsimp only at hSw); go_simp; try with_reducible rfl)
      (try simp only [Act.put, List.setIfInBounds_toArray, List.set_cons_zero, List.set_cons_succ])
      refine WD_take (i := 18) (oi := { dst := some 75, op := Go.Op.fieldAddr 80 (Go.Operand.tmp 74) 3, type := 0, pos := _, after := #[{ on := 17, ground := Go.Ground.data }, { on := 0, ground := Go.Ground.phase }, { on := 1, ground := Go.Ground.phase }, { on := 2, ground := Go.Ground.phase }, { on := 3, ground := Go.Ground.phase }, { on := 4, ground := Go.Ground.phase }, { on := 5, ground := Go.Ground.phase }, { on := 6, ground := Go.Ground.phase }, { on := 7, ground := Go.Ground.phase }, { on := 8, ground := Go.Ground.phase }, { on := 9, ground := Go.Ground.phase }, { on := 10, ground := Go.Ground.phase }, { on := 11, ground := Go.Ground.phase }, { on := 12, ground := Go.Ground.phase }, { on := 13, ground := Go.Ground.phase }, { on := 14, ground := Go.Ground.phase }, { on := 15, ground := Go.Ground.phase }, { on := 16, ground := Go.Ground.phase }], guard := none }) (v := ?vk18) rfl (by kernel_rfl) (by kernel_rfl) (by kernel_rfl) (by kernel_rfl) (fun _ _ _ h => h) (Or.inl ⟨by rfl, ?hyk18⟩) B_4.out ?_
      case hyk18 => (intro wz hSw; (try dsimp only at hSw); go_simp; try with_reducible rfl)
      (try simp only [Act.put, List.setIfInBounds_toArray, List.set_cons_zero, List.set_cons_succ])
      refine WD_ready (rs := [19]) (by kernel_rfl) (by simp) ?_
      refine AllD.last (o := { dst := none, op := Go.Op.store 48 (Go.Operand.tmp 75) (Go.Operand.tmp 73), type := 0, pos := _, after := #[{ on := 18, ground := Go.Ground.data }, { on := 16, ground := Go.Ground.data }, { on := 16, ground := Go.Ground.chain }, { on := 0, ground := Go.Ground.phase }, { on := 1, ground := Go.Ground.phase }, { on := 2, ground := Go.Ground.phase }, { on := 3, ground := Go.Ground.phase }, { on := 4, ground := Go.Ground.phase }, { on := 5, ground := Go.Ground.phase }, { on := 6, ground := Go.Ground.phase }, { on := 7, ground := Go.Ground.phase }, { on := 8, ground := Go.Ground.phase }, { on := 9, ground := Go.Ground.phase }, { on := 10, ground := Go.Ground.phase }, { on := 11, ground := Go.Ground.phase }, { on := 12, ground := Go.Ground.phase }, { on := 13, ground := Go.Ground.phase }, { on := 14, ground := Go.Ground.phase }, { on := 15, ground := Go.Ground.phase }, { on := 16, ground := Go.Ground.phase }], guard := none }) rfl (by kernel_rfl) (fun K hK => ?_) AllD.nil
      have e33 := (B_4.out.cell (p := ⟨bf, i * 4 + 3, none⟩) hbf4).trans (HC4.out w4 (Below.refl _ _)).2.2.2
      have z33 := (B_4.out.frozen (p := ⟨bf, i * 4 + 3, none⟩) hbf4).trans hfz4
      go_simp
      refine hK.out _ _ ?_
      clear hK K
      (try simp only [Act.put, List.setIfInBounds_toArray, List.set_cons_zero, List.set_cons_succ])
      refine WD_done (by kernel_rfl) ?_ _
      have E2 := Lib.hid (rs_av (v := .slice V_4 q c_4) T4.out B_4.out (by rw [LEN2.out]; exact O_4.out) (by rw [LEN2.out]; exact HPQ.out.2) H2.out.symm)
      obtain ⟨w6, hw6⟩ : ∃ z, z = w_4.setCell ⟨bf, i * 4 + 3, none⟩ (.slice V_4 q c_4) := ⟨_, rfl⟩
      rw [← hw6] at E2 ⊢
      have RR : Hid (RN w B g room (.slice (some ⟨bf, 0, none⟩) N fc) fl ys (i + 1) (KQ + p + q) w6) := Lib.hid (by
        have f2 : Frm wr w4 (Own g (.slice (some ⟨bf, 0, none⟩) N fc) (a ++ x :: b)) := (Frm.of_below B01.out (Nat.le_refl _) _).trans E1.out.2.1
        have hh := rn_step H6.out hws H7.out H2.out H3.out H4.out H5.out f2 (fun k hk => by rw [← HW1.out]; exact E1.out.2.2 k hk) E2.out.2.1 E2.out.2.2 E2.out.1 (by rw [← HPQ.out.1, ← HPQ.out.2, ← HKP.out])
        rw [← HPQ.out.1, ← HPQ.out.2] at hh
        exact hh)
      rw [← HKP.out] at RR
      have hi1 : i + 1 ≤ N := by omega
      clear hw6 e33 z33 O_4 B_4 C_3 B_3 BD hHeld hfz4 HSA2 E2 T4 C4 HC4 SD wK wK2 E1 HC HC2 C2 SB T2 T1 B01 H2 H3 H4 H5 H6 H7
      go_wp2
      go_roundw
      case rel => exact ⟨i + 1, KP + q, _, _, rfl, rfl, by go_num, by have hk9 := HKP.out; go_num, hi1, RR⟩
      case measure => simp [intOf]; omega
    · obtain rfl : i = N := by omega
      obtain ⟨fl', e1, e2, e3, e4⟩ := rn_end (K := KQ) (wr := wr) (w0 := w) (by rw [← HN.out]; exact HR.out)
      have c1 := e1.out.c1
      obtain ⟨FA, fc, e0, _, _⟩ := e1.out.shape
      have hl2 : fl'.length = i := by
        have := congrArg List.length e2.out
        rw [refill_len, List.length_map, List.length_map] at this
        rw [this, HN.out]
      rw [e0, hl2] at c1
      clear e0 hl2
      go_wp2
      go_ret
      first | exact ⟨_, rfl, e1, e2, e3, e4⟩ | exact ⟨rfl, _, e1, e2, e3, e4⟩
end Go.Proofs.Ytkecnhogooaccaa
