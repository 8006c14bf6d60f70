import Derived.Test.YtkecnhogooaccaaModel
import Derived.BigRegion
namespace Go.Proofs.Ytkecnhogooaccaa
open Go.ChangeShapes Go.WideShapes Go.ChangeAt Go.RowKit
set_option linter.unusedVariables false
theorem Sk.cut {W2 W3 : World} {B g room gf cf n m c L N : Nat} {A : Option Addr} {fr fr' : List Fm} {ws : List Int} (t : Sk W2 B g room (.slice (some ⟨gf, 0, none⟩) N cf) (.slice A m c) fr ws)
    (hcf : W2.ownsRow B 71 4 (.slice (some ⟨gf, 0, none⟩) n cf) n (frs fr')) (hcw : W2.ownsRow B 30 1 (.slice A L c) L (wds (ws.take L))) (hn : n = fr'.length) (htake : (ws.take L).length = L) (hgood : Good fr'.reverse L) (hfits : L + 2 * fr'.length ≤ room)
    (e1 : W3.heap = ((W2.setCell ⟨g, 1, none⟩ (.slice (some ⟨gf, 0, none⟩) n cf)).setCell ⟨g, 2, none⟩ (.slice A L c)).heap) (e2 : W3.os = W2.os) (e3 : W3.tape = W2.tape) (e4 : W3.output = W2.output) :
    Sk W3 B g room (.slice (some ⟨gf, 0, none⟩) n cf) (.slice A L c) fr' (ws.take L) ∧ Frm W2 W3 (· = g) := by
  have f0 := (frm_set (w := W2) (R := (· = g)) 1 (.slice (some ⟨gf, 0, none⟩) n cf) rfl).trans (frm_set (R := (· = g)) 2 (.slice A L c) rfl)
  have f : Frm W2 W3 (· = g) := ⟨e2, e3, e4, by rw [e1]; exact f0.size, fun i hi hr => by rw [e1]; exact f0.block i hi hr⟩
  have ho : SObj W3 g room (.slice (some ⟨gf, 0, none⟩) n cf) (.slice A L c) := by
    have := (t.obj.set1 (.slice (some ⟨gf, 0, none⟩) n cf)).set2 (.slice A L c)
    unfold SObj at this ⊢
    rw [e1]; exact this
  have hob : (Value.slice A L c).ownBlock = (Value.slice A m c).ownBlock := by cases A <;> rfl
  refine ⟨⟨ho, ?_, ?_, t.nf, by rw [hob]; exact t.nw, fun k h => by rw [hob]; exact t.ne k h, t.le, by rw [htake]; exact hgood, by rw [htake]; exact hfits, t.small⟩, f⟩
  · have := own_frm hcf f (fun k h e => t.nf (e ▸ h))
    rw [hn] at this ⊢; exact this
  · rw [htake]
    exact own_frm hcw f (fun k h e => t.nw (by rw [← hob, ← e]; exact h))
theorem Good.rest : ∀ {l r : List Fm} {n : Nat}, Good (l ++ r) n → ∃ m, m ≤ n ∧ Good r m := by
  intro l
  induction l with
  | nil => intro r n h; exact ⟨n, Nat.le_refl _, h⟩
  | cons x l ih =>
    intro r n h
    obtain ⟨m, h1, h2⟩ := ih h.2
    have := h.1
    exact ⟨m, by omega, h2⟩
theorem box4c (w : World) (a b c d : Value) (t : TypeId) : (w.alloc (.cells #[a, b, c, d] t)).cell? ⟨w.heap.size, 0, none⟩ = some a ∧ (w.alloc (.cells #[a, b, c, d] t)).cell? ⟨w.heap.size, 1, none⟩ = some b ∧ (w.alloc (.cells #[a, b, c, d] t)).cell? ⟨w.heap.size, 2, none⟩ = some c ∧ (w.alloc (.cells #[a, b, c, d] t)).cell? ⟨w.heap.size, 3, none⟩ = some d := by
  have := (MapKept.heap_alloc w (Obj.cells #[a, b, c, d] t)).1
  refine ⟨?_, ?_, ?_, ?_⟩ <;> (unfold World.cell?; rw [this]; rfl)
set_option maxRecDepth 100000 in
set_option maxHeartbeats 2000000 in
/-- Cut of what may not be. -/
theorem cut_bad {w : World} {B g room : Nat} {fv wv : Value} {fr : List Fm} {ws : List Int} (d a : Int) (t : Sk w B g room fv wv fr ws) (h : d < 0 ∨ (0 ≤ d ∧ (fr.length : Int) < d) ∨ (0 ≤ d ∧ d ≤ fr.length ∧ a < 0) ∨ (d = 0 ∧ 0 < a)) :
    Calls Try.prog 15 #[.pointer (some ⟨g, 0, none⟩), .int .i64 d, .int .i64 a] w fun e w' => e = .returned (.int .i64 1) ∧ Below w.heap.size w w' := by
  have c1 := t.obj.c1
  obtain ⟨A, c, rfl⟩ := vform t.rf
  obtain ⟨N, hN⟩ : ∃ N, N = fr.length := ⟨_, rfl⟩
  rw [← hN] at c1 h
  clear t hN
  rcases h with h | ⟨h0, h⟩ | ⟨h0, h1, h⟩ | ⟨rfl, h⟩
  · have e1 := decide_eq_true h
    go_enter Try.func15, Try.ntmps15
    go_wp2
    go_ret
    exact ⟨rfl, Below.refl _ _⟩
  · have e1 := decide_eq_false (show ¬ d < 0 by omega)
    have e2 := decide_eq_true h
    go_enter Try.func15, Try.ntmps15
    go_wp2
    go_ret
    exact ⟨rfl, Below.refl _ _⟩
  · have e1 := decide_eq_false (show ¬ d < 0 by omega)
    have e2 := decide_eq_false (show ¬ (N : Int) < d by omega)
    have e3 := decide_eq_true h
    go_enter Try.func15, Try.ntmps15
    go_wp2
    go_ret
    exact ⟨rfl, Below.refl _ _⟩
  · have e2 := decide_eq_false (show ¬ (N : Int) < 0 by omega)
    have e3 := decide_eq_false (show ¬ a < 0 by omega)
    have e4 := decide_eq_true h
    go_enter Try.func15, Try.ntmps15
    go_wp2
    go_ret
    exact ⟨rfl, Below.refl _ _⟩
set_option maxRecDepth 100000 in
set_option maxHeartbeats 2000000 in
/-- Cut to nothing. -/
theorem cut_zero {w : World} {B g room : Nat} {fv wv : Value} {fr : List Fm} {ws : List Int} (t : Sk w B g room fv wv fr ws) :
    Calls Try.prog 15 #[.pointer (some ⟨g, 0, none⟩), .int .i64 0, .int .i64 0] w fun e w' => e = .returned (.int .i64 0) ∧ Hid (Sk w' B g room (.slice none 0 0) (.slice none 0 0) [] []) ∧ Hid (Frm w w' (· = g)) := by
  have c1 := t.obj.c1; have f1 := t.obj.f 1; have f2 := t.obj.f 2; have c2 := t.obj.c2
  have SK : Hid (Sk ((w.setCell ⟨g, 1, none⟩ (.slice none 0 0)).setCell ⟨g, 2, none⟩ (.slice none 0 0)) B g room (.slice none 0 0) (.slice none 0 0) [] []) := Lib.hid
    ⟨(t.obj.set1 _).set2 _, World.ownsRow_nil _ _ _ _, World.ownsRow_nil _ _ _ _, by simp [Value.ownBlock], by simp [Value.ownBlock], fun k h => by simp [Value.ownBlock] at h, t.le, rfl, by simp, t.small⟩
  have FR : Hid (Frm w ((w.setCell ⟨g, 1, none⟩ (.slice none 0 0)).setCell ⟨g, 2, none⟩ (.slice none 0 0)) (· = g)) := Lib.hid ((frm_set (w := w) (R := (· = g)) 1 (.slice none 0 0) rfl).trans (frm_set (R := (· = g)) 2 (.slice none 0 0) rfl))
  obtain ⟨A, c, rfl⟩ := vform t.rf
  obtain ⟨N, hN⟩ : ∃ N, N = fr.length := ⟨_, rfl⟩
  rw [← hN] at c1
  have e2 := decide_eq_false (show ¬ (N : Int) < 0 by omega)
  clear t hN
  go_enter Try.func15, Try.ntmps15
  go_wp2
  go_ret
  exact ⟨rfl, SK, FR⟩
set_option maxRecDepth 100000 in
set_option maxHeartbeats 4000000 in
/-- Cut: more operands than there are. -/
theorem cut_many {w : World} {B g room : Nat} {fv wv : Value} {fr1 fr2 : List Fm} {f : Fm} {ws : List Int} (E a : Nat) (t : Sk w B g room fv wv (fr1 ++ f :: fr2) ws) (hE : (fr2 = [] ∧ E = ws.length) ∨ (∃ f2 r, fr2 = f2 :: r ∧ E = f2.base)) (hE1 : f.base + f.slots ≤ E) (hE2 : E ≤ ws.length) (ha : E < f.base + f.slots + a) :
    Calls Try.prog 15 #[.pointer (some ⟨g, 0, none⟩), .int .i64 ((fr1.length + 1 : Nat) : Int), .int .i64 a] w fun e w' => e = .returned (.int .i64 1) ∧ Below w.heap.size w w' := by
  have T := Lib.hid t
  have hfit := t.fits; have hsm := t.small
  have hlen : (fr1 ++ f :: fr2).length = fr1.length + 1 + fr2.length := by simp; omega
  rw [hlen] at hfit
  obtain ⟨gf, cf, rfl⟩ := Go.Joins.ownsRow_form t.rf (by rw [hlen]; omega)
  have hcf : (fr1 ++ f :: fr2).length ≤ cf := by
    rcases t.rf.2 with ⟨e, _⟩ | ⟨q, cap, cur, e, _, _, hc, _⟩
    · cases e
    · injection e with e1 e2 e3; omega
  have hlf := frs_len (fr1 ++ f :: fr2)
  have cellF : ∀ i v, (frs (fr1 ++ f :: fr2))[i]? = some v → w.cell? ⟨gf, i, none⟩ = some v := fun i v h2 => by
    have hi := (List.getElem?_eq_some_iff.1 h2).1
    have := t.rf.cellAt i (by omega)
    rw [this]; exact h2
  obtain ⟨n, hn⟩ : ∃ n, n = fr1.length := ⟨_, rfl⟩
  obtain ⟨x0, x1, x2, x3⟩ := frs_at (fr1 ++ f :: fr2) n f (by rw [hn, List.getElem?_append_right (Nat.le_refl _)]; simp)
  have y0 := cellF _ _ x0; have y1 := cellF _ _ x1; have y2 := cellF _ _ x2; have y3 := cellF _ _ x3
  obtain ⟨N, hN⟩ : ∃ N, N = (fr1 ++ f :: fr2).length := ⟨_, rfl⟩
  obtain ⟨M, hM⟩ : ∃ M, M = ws.length := ⟨_, rfl⟩
  have c1 := t.obj.c1; have c2 := t.obj.c2; have f1 := t.obj.f 1; have f2 := t.obj.f 2
  rw [← hN] at c1 hcf
  obtain ⟨d, hd⟩ : ∃ d : Nat, d = n + 1 := ⟨_, rfl⟩
  have hd1 : (d : Int) - 1 = (n : Int) := by omega
  rw [← hn, ← hd] at hlen
  rw [← hM] at hE hE2 hfit
  rw [← hN] at hlen
  have hdn : d ≤ N := by omega
  have hn9 : n ≤ 4096 := by omega
  have hN9 : N ≤ 4097 := by omega
  have hM9 : M ≤ 4096 := by omega
  have g1 := decide_eq_false (show ¬ (d : Int) < 0 by omega)
  have g2 := decide_eq_false (show ¬ (N : Int) < (d : Int) by omega)
  have g2' := decide_eq_false (show ¬ N < d by omega)
  have g3 := decide_eq_false (show ¬ (a : Int) < 0 by omega)
  have g4 : ((d : Int) == 0) = false := beq_eq_false_iff_ne.2 (by omega)
  have g4' : (d == 0) = false := beq_eq_false_iff_ne.2 (by omega)
  obtain ⟨bk, cl, bs, sl⟩ := f
  simp only at hE1 y0 y1 y2 y3 ha
  obtain ⟨X, hX⟩ : ∃ X : Nat, (E : Int) - (bs : Int) = X := ⟨E - bs, by omega⟩
  obtain ⟨Y, hY⟩ : ∃ Y : Nat, (X : Int) - (sl : Int) = Y := ⟨E - bs - sl, by omega⟩
  have hX9 : X ≤ 4096 := by omega
  have hY9 : Y ≤ 4096 := by omega
  have hbs9 : bs ≤ 4096 := by omega
  have hsl9 : sl ≤ 4096 := by omega
  have hd9 : d ≤ 4097 := by omega
  obtain ⟨z0, z1, z2, z3⟩ := box4c w (.int .i64 bk) (.int .i64 cl) (.int .i64 bs) (.int .i64 sl) 71
  have g5 := decide_eq_true (show (Y : Int) < (a : Int) by omega)
  have g5' := decide_eq_true (show Y < a by omega)
  have BB := Lib.hid (below_alloc w (.cells #[.int .i64 bk, .int .i64 cl, .int .i64 bs, .int .i64 sl] 71))
  obtain ⟨A2, cw, rfl⟩ := vform t.rw_
  rw [← hM] at c2
  have hdN : N = d + fr2.length := hlen
  rw [← hn, ← hd]
  rcases hE with ⟨he, rfl⟩ | ⟨q2, r2, he, rfl⟩
  · have g6 := decide_eq_false (show ¬ (d : Int) < (N : Int) by rw [he] at hdN; simp at hdN; omega)
    have g6' := decide_eq_false (show ¬ d < N by rw [he] at hdN; simp at hdN; omega)
    clear cellF t x0 x1 x2 x3 hlf hN hM hfit hlen hdN he hd hn hE1 hE2 ha
    go_enter Try.func15, Try.ntmps15
    go_wp2
    go_ret
    exact ⟨rfl, BB.out⟩
  · have g6 := decide_eq_true (show (d : Int) < (N : Int) by rw [he] at hdN; simp at hdN; omega)
    have g6' := decide_eq_true (show d < N by rw [he] at hdN; simp at hdN; omega)
    have hdN2 : d < N := by rw [he] at hdN; simp at hdN; omega
    obtain ⟨_, _, v2, _⟩ := frs_at (fr1 ++ ⟨bk, cl, bs, sl⟩ :: fr2) d q2 (by rw [hd, hn, he, List.getElem?_append_right (by omega)]; simp)
    have u2 := cellF _ _ v2
    clear cellF t x0 x1 x2 x3 hlf hN hM hfit hlen hdN he hd hn hE1 hE2 ha v2
    go_enter Try.func15, Try.ntmps15
    go_wp2
    go_ret
    exact ⟨rfl, BB.out⟩
set_option maxRecDepth 100000 in
set_option maxHeartbeats 8000000 in
/-- Cut. -/
theorem cut_ok {w : World} {B g room : Nat} {fv wv : Value} {fr1 fr2 : List Fm} {f : Fm} {ws : List Int} (E a : Nat) (t : Sk w B g room fv wv (fr1 ++ f :: fr2) ws) (hE : (fr2 = [] ∧ E = ws.length) ∨ (∃ f2 r, fr2 = f2 :: r ∧ E = f2.base)) (hE1 : f.base + f.slots ≤ E) (hE2 : E ≤ ws.length) (ha : f.base + f.slots + a ≤ E) :
    Calls Try.prog 15 #[.pointer (some ⟨g, 0, none⟩), .int .i64 ((fr1.length + 1 : Nat) : Int), .int .i64 a] w fun e w' => ∃ fv' wv', e = .returned (.int .i64 0) ∧ Hid (Sk w' B g room fv' wv' (fr1 ++ [f]) (ws.take (f.base + f.slots + a))) ∧ Hid (Frm w w' (· = g)) := by
  have T := Lib.hid t
  have hfit := t.fits; have hsm := t.small
  have hlen : (fr1 ++ f :: fr2).length = fr1.length + 1 + fr2.length := by simp; omega
  rw [hlen] at hfit
  obtain ⟨gf, cf, rfl⟩ := Go.Joins.ownsRow_form t.rf (by rw [hlen]; omega)
  have hcf : (fr1 ++ f :: fr2).length ≤ cf := by
    rcases t.rf.2 with ⟨e, _⟩ | ⟨q, cap, cur, e, _, _, hc, _⟩
    · cases e
    · injection e with e1 e2 e3; omega
  have hlf := frs_len (fr1 ++ f :: fr2)
  have cellF : ∀ i v, (frs (fr1 ++ f :: fr2))[i]? = some v → w.cell? ⟨gf, i, none⟩ = some v := fun i v h2 => by
    have hi := (List.getElem?_eq_some_iff.1 h2).1
    have := t.rf.cellAt i (by omega)
    rw [this]; exact h2
  obtain ⟨n, hn⟩ : ∃ n, n = fr1.length := ⟨_, rfl⟩
  obtain ⟨x0, x1, x2, x3⟩ := frs_at (fr1 ++ f :: fr2) n f (by rw [hn, List.getElem?_append_right (Nat.le_refl _)]; simp)
  have y0 := cellF _ _ x0; have y1 := cellF _ _ x1; have y2 := cellF _ _ x2; have y3 := cellF _ _ x3
  obtain ⟨N, hN⟩ : ∃ N, N = (fr1 ++ f :: fr2).length := ⟨_, rfl⟩
  obtain ⟨M, hM⟩ : ∃ M, M = ws.length := ⟨_, rfl⟩
  have c1 := t.obj.c1; have c2 := t.obj.c2; have f1 := t.obj.f 1; have f2 := t.obj.f 2
  rw [← hN] at c1 hcf
  obtain ⟨d, hd⟩ : ∃ d : Nat, d = n + 1 := ⟨_, rfl⟩
  have hd1 : (d : Int) - 1 = (n : Int) := by omega
  rw [← hn, ← hd] at hlen
  rw [← hM] at hE hE2 hfit
  rw [← hN] at hlen
  have hdn : d ≤ N := by omega
  have hn9 : n ≤ 4096 := by omega
  have hN9 : N ≤ 4097 := by omega
  have hM9 : M ≤ 4096 := by omega
  have g1 := decide_eq_false (show ¬ (d : Int) < 0 by omega)
  have g2 := decide_eq_false (show ¬ (N : Int) < (d : Int) by omega)
  have g2' := decide_eq_false (show ¬ N < d by omega)
  have g3 := decide_eq_false (show ¬ (a : Int) < 0 by omega)
  have g4 : ((d : Int) == 0) = false := beq_eq_false_iff_ne.2 (by omega)
  have g4' : (d == 0) = false := beq_eq_false_iff_ne.2 (by omega)
  obtain ⟨bk, cl, bs, sl⟩ := f
  simp only at hE1 y0 y1 y2 y3 ha ⊢
  obtain ⟨X, hX⟩ : ∃ X : Nat, (E : Int) - (bs : Int) = X := ⟨E - bs, by omega⟩
  obtain ⟨Y, hY⟩ : ∃ Y : Nat, (X : Int) - (sl : Int) = Y := ⟨E - bs - sl, by omega⟩
  have hX9 : X ≤ 4096 := by omega
  have hY9 : Y ≤ 4096 := by omega
  have hbs9 : bs ≤ 4096 := by omega
  have hsl9 : sl ≤ 4096 := by omega
  have hd9 : d ≤ 4097 := by omega
  obtain ⟨z0, z1, z2, z3⟩ := box4c w (.int .i64 bk) (.int .i64 cl) (.int .i64 bs) (.int .i64 sl) 71
  have g5 := decide_eq_false (show ¬ (Y : Int) < (a : Int) by omega)
  have g5' := decide_eq_false (show ¬ Y < a by omega)
  obtain ⟨Z, hZ⟩ : ∃ Z : Nat, (bs : Int) + (sl : Int) = Z := ⟨bs + sl, by omega⟩
  obtain ⟨L, hL⟩ : ∃ L : Nat, (Z : Int) + (a : Int) = L := ⟨bs + sl + a, by omega⟩
  have hLe : bs + sl + a = L := by omega
  rw [hLe]
  have hLM : L ≤ M := by omega
  have hL9 : L ≤ 4096 := by omega
  have hZ9 : Z ≤ 4096 := by omega
  have hL0 : (0 : Int) ≤ (L : Int) := Int.natCast_nonneg _
  have hd0 : (0 : Int) ≤ (d : Int) := Int.natCast_nonneg _
  have hdcf : d ≤ cf := by omega
  have hdci : (d : Int) ≤ (cf : Int) := by omega
  have BB := Lib.hid (below_alloc w (.cells #[.int .i64 bk, .int .i64 cl, .int .i64 bs, .int .i64 sl] 71))
  have TAKE : Hid ((ws.take L).length = L) := Lib.hid (by rw [List.length_take]; omega)
  have GOOD : Hid (Good (fr1 ++ [(⟨bk, cl, bs, sl⟩ : Fm)]).reverse L) := Lib.hid (by
    have h := t.good
    rw [show (fr1 ++ (⟨bk, cl, bs, sl⟩ : Fm) :: fr2).reverse = fr2.reverse ++ ((⟨bk, cl, bs, sl⟩ : Fm) :: fr1.reverse) by simp] at h
    obtain ⟨m, _, h2⟩ := Good.rest h
    rw [show (fr1 ++ [(⟨bk, cl, bs, sl⟩ : Fm)]).reverse = (⟨bk, cl, bs, sl⟩ : Fm) :: fr1.reverse by simp]
    exact And.intro (by show bs + sl ≤ L; omega) h2.2)
  have LN : Hid (d = (fr1 ++ [(⟨bk, cl, bs, sl⟩ : Fm)]).length) := Lib.hid (by simp; omega)
  have FITS : Hid (L + 2 * (fr1 ++ [(⟨bk, cl, bs, sl⟩ : Fm)]).length ≤ room) := Lib.hid (by simp; omega)
  have HCF : Hid (∀ W, Below w.heap.size w W → W.ownsRow B 71 4 (.slice (some ⟨gf, 0, none⟩) d cf) d (frs (fr1 ++ [⟨bk, cl, bs, sl⟩]))) := Lib.hid (fun W hW => by
    have h := own_cut (p := d) (t.below hW).rf (by omega)
    have e : (frs (fr1 ++ (⟨bk, cl, bs, sl⟩ : Fm) :: fr2)).take (d * 4) = frs (fr1 ++ [⟨bk, cl, bs, sl⟩]) := by
      rw [show fr1 ++ (⟨bk, cl, bs, sl⟩ : Fm) :: fr2 = (fr1 ++ [⟨bk, cl, bs, sl⟩]) ++ fr2 by simp, frs_app _ fr2, List.take_left' (by rw [frs_len]; simp; omega)]
    rwa [e] at h)
  have WV : Hid (∃ A c, wv = .slice A M c ∧ M ≤ c ∧ ((A = none ∧ M = 0 ∧ c = 0) ∨ ∃ gw, A = some ⟨gw, 0, none⟩) ∧ ∀ W, Below w.heap.size w W → W.ownsRow B 30 1 (.slice A L c) L (wds (ws.take L))) := Lib.hid (by
    rcases t.rw_.2 with ⟨e, h0⟩ | ⟨gw, cap, cur, e, _, _, hc, _⟩
    · refine ⟨none, 0, by rw [e, hM, h0], by omega, .inl ⟨rfl, by omega, rfl⟩, fun W hW => ?_⟩
      have : L = 0 := by omega
      subst this
      simpa [wds] using World.ownsRow_nil W B 30 1
    · refine ⟨_, cap, by rw [e, hM], by omega, .inr ⟨gw, rfl⟩, fun W hW => ?_⟩
      have h := own_cut (p := L) (n := ws.length) (c := cap) (g := gw) (by have := (t.below hW).rw_; rwa [e] at this) (by omega)
      have e2 : (wds ws).take (L * 1) = wds (ws.take L) := by simp [wds, List.map_take]
      rwa [e2] at h)
  obtain ⟨A, c, rfl, hmc, hA, hcut⟩ := WV.out
  have HCUT := Lib.hid hcut
  have hLc : L ≤ c := by omega
  have hLci : (L : Int) ≤ (c : Int) := by omega
  have hlt := t.obj.lt
  have hne2 : g ≠ w.heap.size := by omega
  have hne := Ne.symm hne2
  have SKP : Hid (∀ W3 : World, W3.heap = (((w.setCell ⟨g, 1, none⟩ (.slice (some ⟨gf, 0, none⟩) d cf)).setCell ⟨g, 2, none⟩ (.slice A L c)).alloc (.cells #[.int .i64 bk, .int .i64 cl, .int .i64 bs, .int .i64 sl] 71)).heap → W3.os = w.os → W3.tape = w.tape → W3.output = w.output →
      Sk W3 B g room (.slice (some ⟨gf, 0, none⟩) d cf) (.slice A L c) (fr1 ++ [⟨bk, cl, bs, sl⟩]) (ws.take L) ∧ Frm w W3 (· = g)) := Lib.hid (fun W3 h1 h2 h3 h4 => by
    have P := Sk.cut (W3 := (w.setCell ⟨g, 1, none⟩ (.slice (some ⟨gf, 0, none⟩) d cf)).setCell ⟨g, 2, none⟩ (.slice A L c)) T.out (HCF.out w (Below.refl _ _)) (HCUT.out w (Below.refl _ _)) LN.out TAKE.out GOOD.out FITS.out rfl rfl rfl rfl
    have hb0 := below_alloc ((w.setCell ⟨g, 1, none⟩ (.slice (some ⟨gf, 0, none⟩) d cf)).setCell ⟨g, 2, none⟩ (.slice A L c)) (.cells #[.int .i64 bk, .int .i64 cl, .int .i64 bs, .int .i64 sl] 71)
    have hb : Below ((w.setCell ⟨g, 1, none⟩ (.slice (some ⟨gf, 0, none⟩) d cf)).setCell ⟨g, 2, none⟩ (.slice A L c)).heap.size ((w.setCell ⟨g, 1, none⟩ (.slice (some ⟨gf, 0, none⟩) d cf)).setCell ⟨g, 2, none⟩ (.slice A L c)) W3 := ⟨h2, h3, h4, by rw [h1]; exact hb0.size, fun i hi => by rw [h1]; exact hb0.block i hi⟩
    exact ⟨P.1.below hb, P.2.trans (Frm.of_below hb (Nat.le_refl _) _)⟩)
  have tb := T.out.below BB.out
  have k1 := tb.obj.c1; have k2 := tb.obj.c2; have l1 := tb.obj.f 1; have l2 := tb.obj.f 2
  rw [← hN] at k1
  have hdN : N = d + fr2.length := hlen
  rw [← hn, ← hd]
  rcases hE with ⟨he, rfl⟩ | ⟨q2, r2, he, rfl⟩
  · have g6 := decide_eq_false (show ¬ (d : Int) < (N : Int) by rw [he] at hdN; simp at hdN; omega)
    have g6' := decide_eq_false (show ¬ d < N by rw [he] at hdN; simp at hdN; omega)
    clear cellF t x0 x1 x2 x3 hlf hN hM hfit hlen hdN he hd hn hE1 hE2 ha tb hcut WV hLe
    rcases hA with ⟨rfl, hM0, rfl⟩ | ⟨gw, rfl⟩
    · obtain rfl : L = 0 := by omega
      subst hM0
      have zz : ((0 : Nat) : Int) = 0 := rfl
      simp only [zz] at hL c2 k2
      go_enter Try.func15, Try.ntmps15
      go_wp2
      go_region
      all_goals (
        go_wp2
        go_ret
        refine ⟨_, _, rfl, Lib.hid (And.left (SKP.out _ ?_ ?_ ?_ ?_)), Lib.hid (And.right (SKP.out _ ?_ ?_ ?_ ?_))⟩ <;> rfl)
    · go_enter Try.func15, Try.ntmps15
      go_wp2
      go_region
      all_goals (
        go_wp2
        go_ret
        refine ⟨_, _, rfl, Lib.hid (And.left (SKP.out _ ?_ ?_ ?_ ?_)), Lib.hid (And.right (SKP.out _ ?_ ?_ ?_ ?_))⟩ <;> rfl)
  · have g6 := decide_eq_true (show (d : Int) < (N : Int) by rw [he] at hdN; simp at hdN; omega)
    have g6' := decide_eq_true (show d < N by rw [he] at hdN; simp at hdN; omega)
    have hdN2 : d < N := by rw [he] at hdN; simp at hdN; omega
    obtain ⟨_, _, v2, _⟩ := frs_at (fr1 ++ ⟨bk, cl, bs, sl⟩ :: fr2) d q2 (by rw [hd, hn, he, List.getElem?_append_right (by omega)]; simp)
    have u2 := cellF _ _ v2
    clear cellF t x0 x1 x2 x3 hlf hN hM hfit hlen hdN he hd hn hE1 hE2 ha v2 tb hcut WV hLe
    rcases hA with ⟨rfl, hM0, rfl⟩ | ⟨gw, rfl⟩
    · obtain rfl : L = 0 := by omega
      subst hM0
      have zz : ((0 : Nat) : Int) = 0 := rfl
      simp only [zz] at hL c2 k2
      go_enter Try.func15, Try.ntmps15
      go_wp2
      go_region
      all_goals (
        go_wp2
        go_ret
        refine ⟨_, _, rfl, Lib.hid (And.left (SKP.out _ ?_ ?_ ?_ ?_)), Lib.hid (And.right (SKP.out _ ?_ ?_ ?_ ?_))⟩ <;> rfl)
    · go_enter Try.func15, Try.ntmps15
      go_wp2
      go_region
      all_goals (
        go_wp2
        go_ret
        refine ⟨_, _, rfl, Lib.hid (And.left (SKP.out _ ?_ ?_ ?_ ?_)), Lib.hid (And.right (SKP.out _ ?_ ?_ ?_ ?_))⟩ <;> rfl)
end Go.Proofs.Ytkecnhogooaccaa
