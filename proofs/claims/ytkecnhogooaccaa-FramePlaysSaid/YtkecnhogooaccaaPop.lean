import Derived.Test.YtkecnhogooaccaaTake
namespace Go.Proofs.Ytkecnhogooaccaa
open Go.ChangeShapes Go.WideShapes Go.ChangeAt Go.RowKit
set_option linter.unusedVariables false
theorem frm_two (w : World) (g : Nat) (x y : Value) (n : Nat) : Frm w (((w.setCell ⟨g, 1, none⟩ x).setCell ⟨g, 2, none⟩ y).drewN n) (· = g) := by
  have h := (frm_set (w := w) (R := (· = g)) 1 x rfl).trans (frm_set (R := (· = g)) 2 y rfl)
  exact ⟨h.os, h.tape, h.output, h.size, h.block⟩
theorem Sk.pop {W2 W3 : World} {B g room gf cf n m c bs N : Nat} {A : Option Addr} {fr : List Fm} {f : Fm} {ws : List Int} (t : Sk W2 B g room (.slice (some ⟨gf, 0, none⟩) N cf) (.slice A m c) (fr ++ [f]) ws)
    (hcf : W2.ownsRow B 71 4 (.slice (some ⟨gf, 0, none⟩) n cf) n (frs fr)) (hcw : W2.ownsRow B 30 1 (.slice A bs c) bs (wds (ws.take bs))) (hn : n = fr.length) (htake : (ws.take bs).length = bs) (hgood : Good fr.reverse bs) (hfits : bs + 2 * fr.length ≤ room)
    (e1 : W3.heap = ((W2.setCell ⟨g, 1, none⟩ (.slice (some ⟨gf, 0, none⟩) n cf)).setCell ⟨g, 2, none⟩ (.slice A bs c)).heap) (e2 : W3.os = W2.os) (e3 : W3.tape = W2.tape) (e4 : W3.output = W2.output) :
    Sk W3 B g room (.slice (some ⟨gf, 0, none⟩) n cf) (.slice A bs c) fr (ws.take bs) ∧ Frm W2 W3 (· = g) := by
  have f0 := (frm_set (w := W2) (R := (· = g)) 1 (.slice (some ⟨gf, 0, none⟩) n cf) rfl).trans (frm_set (R := (· = g)) 2 (.slice A bs c) rfl)
  have f : Frm W2 W3 (· = g) := ⟨e2, e3, e4, by rw [e1]; exact f0.size, fun i hi hr => by rw [e1]; exact f0.block i hi hr⟩
  have ho : SObj W3 g room (.slice (some ⟨gf, 0, none⟩) n cf) (.slice A bs c) := by
    have := (t.obj.set1 (.slice (some ⟨gf, 0, none⟩) n cf)).set2 (.slice A bs c)
    unfold SObj at this ⊢
    rw [e1]; exact this
  have hob : (Value.slice A bs c).ownBlock = (Value.slice A m c).ownBlock := by cases A <;> rfl
  refine ⟨⟨ho, ?_, ?_, t.nf, by rw [hob]; exact t.nw, fun k h => by rw [hob]; exact t.ne k h, t.le, by rw [htake]; exact hgood, by rw [htake]; exact hfits, t.small⟩, f⟩
  · have := own_frm hcf f (fun k h e => t.nf (e ▸ h))
    rw [hn] at this ⊢; exact this
  · rw [htake]
    exact own_frm hcw f (fun k h e => t.nw (by rw [← hob, ← e]; exact h))
set_option maxRecDepth 100000 in
set_option maxHeartbeats 4000000 in
theorem pop_ok {w : World} {B g room : Nat} {fv wv : Value} {fr : List Fm} {f : Fm} {ws : List Int} (t : Sk w B g room fv wv (fr ++ [f]) ws) :
    Calls Try.prog 21 #[.pointer (some ⟨g, 0, none⟩)] w fun e w' => ∃ fv' wv', e = .returned (.tuple #[.int .i64 f.back, .int .i64 f.call, .int .i64 0]) ∧ Hid (Sk w' B g room fv' wv' fr (ws.take f.base)) ∧ Hid (Frm w w' (· = g)) ∧ Hid (fv'.ownBlock = fv.ownBlock ∧ wv'.ownBlock = wv.ownBlock) := by
  have T := Lib.hid t
  have hg := t.good
  rw [List.reverse_append] at hg
  have hb : f.base ≤ ws.length := by have := hg.1; omega
  have HG := Lib.hid hg.2
  have hs : ws.length ≤ 4096 := by have := t.fits; have := t.small; omega
  have hfs : fr.length ≤ 4096 := by have := t.fits; have := t.small; simp at *; omega
  obtain ⟨gf, cf, rfl⟩ := Go.Joins.ownsRow_form t.rf (by simp)
  obtain ⟨n, hn⟩ : ∃ n, n = fr.length := ⟨_, rfl⟩
  obtain ⟨N, hN⟩ : ∃ N, N = (fr ++ [f]).length := ⟨_, rfl⟩
  have hNn : N = n + 1 := by rw [hN, hn]; simp
  have hN1 : (N : Int) - 1 = (n : Int) := by omega
  have hcf : N ≤ cf := by
    rcases t.rf.2 with ⟨e, _⟩ | ⟨q, cap, cur, e, _, _, hc, _⟩
    · cases e
    · injection e with e1 e2 e3; omega
  have hnc : n ≤ cf := by omega
  have hn9 : n ≤ 4096 := by omega
  have hN9 : N ≤ 4097 := by omega
  have hn0 : (0 : Int) ≤ (n : Int) := Int.natCast_nonneg _
  have hnci : (n : Int) ≤ (cf : Int) := by omega
  have hCF : ∀ W, Below w.heap.size w W → W.ownsRow B 71 4 (.slice (some ⟨gf, 0, none⟩) n cf) n (frs fr) := fun W hW => by
    have h := own_cut (p := n) (t.below hW).rf (by rw [← hN]; omega)
    have e : (frs (fr ++ [f])).take (n * 4) = frs fr := by rw [frs_app, List.take_left' (by rw [frs_len, hn])]
    rwa [e] at h
  have HCF := Lib.hid hCF
  obtain ⟨bk, cl, bs, sl⟩ := f
  simp only at hb HG ⊢
  obtain ⟨m, hm⟩ : ∃ m, m = ws.length := ⟨_, rfl⟩
  have HM := Lib.hid hm; have HNN := Lib.hid hN; have Hn := Lib.hid hn
  have TAKE : Hid ((ws.take bs).length = bs) := Lib.hid (by rw [List.length_take]; omega)
  have hbs : bs ≤ m := by omega
  have hm9 : m ≤ 4096 := by omega
  have hb9 : bs ≤ 4096 := by omega
  have hb0 : (0 : Int) ≤ (bs : Int) := Int.natCast_nonneg _
  have FITS : Hid (bs + 2 * fr.length ≤ room) := Lib.hid (by have := t.fits; simp at this; omega)
  have WV : Hid (∃ A c, wv = .slice A m c ∧ m ≤ c ∧ ((A = none ∧ m = 0 ∧ c = 0) ∨ ∃ gw, A = some ⟨gw, 0, none⟩) ∧ ∀ W, Below w.heap.size w W → W.ownsRow B 30 1 (.slice A bs c) bs (wds (ws.take bs))) := Lib.hid (by
    rcases t.rw_.2 with ⟨e, h0⟩ | ⟨gw, cap, cur, e, _, _, hc, _⟩
    · refine ⟨none, 0, by rw [e, hm, h0], by omega, .inl ⟨rfl, by omega, rfl⟩, fun W hW => ?_⟩
      have : bs = 0 := by omega
      subst this
      simpa [wds] using World.ownsRow_nil W B 30 1
    · refine ⟨_, cap, by rw [e, hm], by omega, .inr ⟨gw, rfl⟩, fun W hW => ?_⟩
      have h := own_cut (p := bs) (n := ws.length) (c := cap) (g := gw) (by have := (t.below hW).rw_; rwa [e] at this) (by omega)
      have e2 : (wds ws).take (bs * 1) = wds (ws.take bs) := by simp [wds, List.map_take]
      rwa [e2] at h)
  obtain ⟨A, c, rfl, hmc, hA, hcut⟩ := WV.out
  have HCUT := Lib.hid hcut
  have hbc : bs ≤ c := by omega
  clear t hg hCF hcut hn hN hm WV hNn
  go_enter Try.func21, Try.ntmps21
  go_wp2_with fail
  refine (top_some T.out).mono ?_; rintro e w1 ⟨rfl, hb1⟩
  obtain ⟨y0, y1, y2, y3⟩ := box4 w1 (.int .i64 bk) (.int .i64 cl) (.int .i64 bs) (.int .i64 sl)
  have BB := Lib.hid (bt hb1 (below_alloc w1 (.cells #[.int .i64 bk, .int .i64 cl, .int .i64 bs, .int .i64 sl] 71)))
  have tb := T.out.below BB.out
  have c1 := tb.obj.c1; have c2 := tb.obj.c2; have f1 := tb.obj.f 1; have f2 := tb.obj.f 2
  rw [← HNN.out] at c1
  have hne : w1.heap.size ≠ g := by have := (T.out.below hb1).obj.lt; omega
  have OBJ := Lib.hid tb.obj
  clear hb1 tb
  have hne2 : g ≠ w1.heap.size := Ne.symm hne
  have SKP : Hid (∀ W3 : World, W3.heap = (((w1.alloc (.cells #[.int .i64 bk, .int .i64 cl, .int .i64 bs, .int .i64 sl] 71)).setCell ⟨g, 1, none⟩ (.slice (some ⟨gf, 0, none⟩) n cf)).setCell ⟨g, 2, none⟩ (.slice A bs c)).heap → W3.os = (w1.alloc (.cells #[.int .i64 bk, .int .i64 cl, .int .i64 bs, .int .i64 sl] 71)).os → W3.tape = (w1.alloc (.cells #[.int .i64 bk, .int .i64 cl, .int .i64 bs, .int .i64 sl] 71)).tape → W3.output = (w1.alloc (.cells #[.int .i64 bk, .int .i64 cl, .int .i64 bs, .int .i64 sl] 71)).output →
      Sk W3 B g room (.slice (some ⟨gf, 0, none⟩) n cf) (.slice A bs c) fr (ws.take bs) ∧ Frm (w1.alloc (.cells #[.int .i64 bk, .int .i64 cl, .int .i64 bs, .int .i64 sl] 71)) W3 (· = g)) := Lib.hid (fun W3 h1 h2 h3 h4 => Sk.pop (T.out.below BB.out) (HCF.out _ BB.out) (HCUT.out _ BB.out) Hn.out TAKE.out HG.out FITS.out h1 h2 h3 h4)
  rcases hA with ⟨rfl, rfl, rfl⟩ | ⟨gw, rfl⟩
  · obtain rfl : bs = 0 := by omega
    have z0 : ((0 : Nat) : Int) = 0 := rfl
    simp only [z0] at c1 c2 f1 f2 y0 y1 y2 y3
    go_wp2
    go_region
    all_goals (
      go_wp2
      go_region
      all_goals (
        go_wp2
        go_quiet (fail)
        go_wp2
        go_returns
        refine ⟨_, _, rfl, Lib.hid (And.left (SKP.out _ ?_ ?_ ?_ ?_)), Lib.hid ((Frm.of_below BB.out (Nat.le_refl _) _).trans (And.right (SKP.out _ ?_ ?_ ?_ ?_))), Lib.hid ⟨rfl, rfl⟩⟩ <;> rfl))
  · go_wp2
    go_region
    all_goals (
      go_wp2
      go_region
      all_goals (
        go_wp2
        go_quiet (fail)
        go_wp2
        go_returns
        refine ⟨_, _, rfl, Lib.hid (And.left (SKP.out _ ?_ ?_ ?_ ?_)), Lib.hid ((Frm.of_below BB.out (Nat.le_refl _) _).trans (And.right (SKP.out _ ?_ ?_ ?_ ?_))), Lib.hid ⟨rfl, rfl⟩⟩ <;> rfl))
end Go.Proofs.Ytkecnhogooaccaa
