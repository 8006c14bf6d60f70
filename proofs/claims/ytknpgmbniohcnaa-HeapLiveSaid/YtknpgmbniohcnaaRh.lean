import Derived.Test.YtknpgmbniohcnaaLx
namespace Go.Proofs.Ytknpgmbniohcnaa
open Go.ChangeShapes Go.WideShapes Go.ChangeAt Go.RowKit
set_option linter.unusedVariables false
/-- the document's own heap in memory: its struct's cells in block H, its row in a block from B on. -/
structure RH (w : World) (B H : Nat) (m : Hm) : Prop where
  full : Full m
  hB : B ≤ w.heap.size
  at_ : ∃ T A c, T ≠ 27 ∧ w.heap[H]? = some (.cells #[.int .i64 m.room, .slice A m.ws.length c, .int .i64 m.turns] T (0, 0)) ∧ w.ownsRow B 27 1 (.slice A m.ws.length c) m.ws.length (wd m.ws)
def RR (w : World) (H : Nat) (k : Nat) : Prop := k = H ∨ ∃ n c, w.cell? ⟨H, 1, none⟩ = some (.slice (some ⟨k, 0, none⟩) n c)
section
variable {w w' : World} {B H : Nat} {m : Hm}
theorem RH.lt (h : RH w B H m) : H < w.heap.size := by
  obtain ⟨T, A, c, _, h1, _⟩ := h.at_
  exact (Array.getElem?_eq_some_iff.1 h1).1
theorem RH.cells (h : RH w B H m) : ∃ A c, w.cell? ⟨H, 0, none⟩ = some (.int .i64 m.room) ∧ w.cell? ⟨H, 1, none⟩ = some (.slice A m.ws.length c) ∧ w.cell? ⟨H, 2, none⟩ = some (.int .i64 m.turns) ∧ InW w A c m.ws ∧ (∀ j, w.frozen? ⟨H, j, none⟩ = false) ∧ w.ownsRow B 27 1 (.slice A m.ws.length c) m.ws.length (wd m.ws) := by
  obtain ⟨T, A, c, _, h1, h2⟩ := h.at_
  obtain ⟨A', c', e, hi, _⟩ := own_inW h2
  injection e with e1 _ e3
  subst e1 e3
  exact ⟨A, c, by simp [World.cell?, h1], by simp [World.cell?, h1], by simp [World.cell?, h1], hi, fun j => by simp [World.frozen?, h1], h2⟩
theorem RH.frm {R : Nat → Prop} (h : RH w B H m) (f : Frm w w' R) (hr : ∀ k, RR w H k → ¬ R k) : RH w' B H m := by
  obtain ⟨T, A, c, t, h1, h2⟩ := h.at_
  have e1 : w.cell? ⟨H, 1, none⟩ = some (.slice A m.ws.length c) := by simp [World.cell?, h1]
  refine ⟨h.full, Nat.le_trans h.hB f.size, T, A, c, t, (f.block H h.lt (hr H (.inl rfl))).trans h1, own_frm h2 f (fun k hk => hr k ?_)⟩
  rcases h2.2 with ⟨e, e0⟩ | ⟨g, cap, cur, e, _⟩
  · rw [e] at hk; simp [Value.ownBlock] at hk
  · rw [e] at hk; simp [Value.ownBlock] at hk; subst hk; exact .inr ⟨_, _, by rw [e1, e]⟩
theorem RH.ge (h : RH w B H m) {k : Nat} (hk : RR w H k) : k = H ∨ (B ≤ k ∧ k < w.heap.size) := by
  obtain ⟨T, A, c, t, h1, h2⟩ := h.at_
  have e1 : w.cell? ⟨H, 1, none⟩ = some (.slice A m.ws.length c) := by simp [World.cell?, h1]
  rcases hk with rfl | ⟨n, c', hc⟩
  · exact .inl rfl
  · rw [e1] at hc; injection hc with hc; rw [hc] at h2; exact .inr (h2.lt k rfl)
theorem RH.rlt (h : RH w B H m) {k : Nat} (hk : RR w H k) : k < w.heap.size := by
  rcases h.ge hk with e | e
  · rw [e]; exact h.lt
  · exact e.2
theorem RH.below (h : RH w B H m) (hb : Below w.heap.size w w') : RH w' B H m := h.frm (R := fun k => w.heap.size ≤ k) (Frm.of_below hb (Nat.le_refl _) _) (fun k hk hk2 => by have := h.rlt hk; omega)
theorem RH.mono {B' : Nat} (h : RH w B H m) (hb : B' ≤ B) : RH w B' H m := by
  obtain ⟨T, A, c, t, h1, h2⟩ := h.at_
  exact ⟨h.full, Nat.le_trans hb h.hB, T, A, c, t, h1, own_mono h2 hb⟩
end
theorem res46 {tmps : Array Value} {W : World} {a b c : Value} (h4 : tmps.getD 4 undef = a) (h5 : tmps.getD 5 undef = b) (h6 : tmps.getD 6 undef = c) :
    (results Try.f46 tmps).run Try.prog W = .ok (.tuple #[a, b, c]) W := by
  simp only [Array.getD_eq_getD_getElem?] at h4 h5 h6
  simp [results, Try.f46, go_sem, h4, h5, h6]
def thN (m : Hm) (p : Int) : Int := if findB m p = true then splS (m.ws.getD (atV p).toNat 0) else 0
set_option maxRecDepth 100000 in
set_option maxHeartbeats 4000000 in
theorem thing_any {w : World} {B H : Nat} {m : Hm} (h : RH w B H m) (p : Int) (hp : U64 p) :
    Calls Try.prog 46 #[.pointer (some ⟨H, 0, none⟩), .int .u64 p] w fun e w' => e = .returned (.tuple #[.int .i64 (findV m p), .int .i64 (thN m p), .bool (findB m p)]) ∧ w = w' := by
  obtain ⟨A, c, f0, f1, f2, hin, fz, own⟩ := h.cells
  have AT := Lib.hid (rat_any p hp.1 hp.2 w)
  obtain ⟨a, ha⟩ : ∃ a : Nat, atV p = (a : Int) := ⟨(atV p).toNat, by have := atV_nn hp.1; omega⟩
  rw [ha] at AT
  cases hb : atB p
  · have hF : findB m p = false := by unfold findB; rw [hb]; rfl
    have hV : findV m p = 0 := by unfold findV; rw [hF]; rfl
    have hN : thN m p = 0 := by unfold thN; rw [hF]; rfl
    rw [hF, hV, hN]
    rw [hb] at AT
    clear hF hV hN hb ha hin fz own h
    go_enter Try.func46, Try.ntmps46
    go_wp2_with fail
    refine AT.out.mono ?_; rintro e w1 ⟨rfl, rfl⟩
    clear AT
    go_wp2
    exact bodyPost_ret (res46 rfl rfl rfl) rfl ⟨rfl, rfl⟩
  rw [hb] at AT
  have hF0 : findB m p = (decide (a < m.ws.length) && m.st.getD a false) := by unfold findB; rw [hb, ha, Int.toNat_natCast]; rfl
  have HF0 := Lib.hid hF0
  have HA := Lib.hid ha
  have HIN := Lib.hid hin
  have FU := Lib.hid h.full
  have hlt := h.full.lt
  obtain ⟨L, hL⟩ : ∃ L, L = m.ws.length := ⟨_, rfl⟩
  rw [← hL] at f1 hlt
  have HL := Lib.hid hL
  have hab : (a : Int) < 9223372036854775807 := by
    have : atV p ≤ p := by unfold atV; have := hp.1; split <;> omega
    have h2 : atP p := of_decide_eq_true hb
    have h3 : p < 4294967296 := by unfold atP at h2; omega
    omega
  clear hF0 ha hin fz own h f0 f2 hL hb
  go_enter Try.func46, Try.ntmps46
  go_wp2_with fail
  refine AT.out.mono ?_; rintro e w1 ⟨rfl, rfl⟩
  clear AT
  go_wp2
  go_loop [9] (fun i => ∃ k : Nat, i = .int .i64 k ∧ k ≤ L ∧ Hid ((k = L ∨ m.st.getD k false = true) ∧ (findB m p = true → k ≤ a))) (fun i => L - (intOf i).toNat)
  case atStart => exact ⟨0, rfl, by omega, Lib.hid ⟨by rw [HL.out]; exact FU.out.tight.zero.imp (fun e => e.symm) id, fun _ => by omega⟩⟩
  case round =>
    obtain ⟨k, rfl, hk, HK⟩ := hrel
    by_cases hkL : k < L
    · have hkw : k < m.ws.length := by have := HL.out; omega
      have hst : m.st.getD k false = true := HK.out.1.resolve_left (by omega)
      obtain ⟨g1, g2, g3⟩ := FU.out.snd k hkw hst
      obtain ⟨b, off, rfl, hbl, hc⟩ := HIN.out.at (by omega)
      have hck := hc k hkw
      obtain ⟨x, hx⟩ : ∃ x, x = m.ws[k] := ⟨_, rfl⟩
      have hux : U64 x := hx ▸ FU.out.wf _ (List.getElem_mem hkw)
      have hgx : m.ws.getD k 0 = x := by rw [getD_at hkw, hx]
      rw [← hx] at hck
      rw [hgx] at g1 g2 g3
      have SP := Lib.hid (rsplit_any x hux.1 hux.2 w)
      have hn := splS_nn hux.1
      obtain ⟨sz, hsz⟩ : ∃ sz : Nat, splS x = (sz : Int) := ⟨(splS x).toNat, by omega⟩
      rw [hsz] at SP g2 g3 hn
      rw [Int.toNat_natCast] at g2 g3
      have hkLi : (k : Int) < (L : Int) := by omega
      have hsz2 : sz ≤ 65535 := by omega
      have HST := Lib.hid hst
      have HG := Lib.hid (And.intro g2 g3)
      have HSZ := Lib.hid (show splS (m.ws.getD k 0) = (sz : Int) by rw [hgx]; exact hsz)
      clear hc hx hgx hst g1 g2 g3 hsz hux
      by_cases hka : k = a
      · subst hka
        have hF : findB m p = true := by rw [HF0.out, decide_eq_true (by have := HL.out; omega), HST.out]; rfl
        have hV : findV m p = (k : Int) := by unfold findV; rw [hF]; exact HA.out
        have hN : thN m p = (sz : Int) := by unfold thN; rw [hF, HA.out, Int.toNat_natCast]; exact HSZ.out
        have HE := Lib.hid (And.intro hF (And.intro hV hN))
        have dd : ((k : Int) == (k : Int)) = true := beq_self_eq_true _
        clear hF hV hN
        go_wp2_with fail
        refine SP.out.mono ?_; rintro e w2 ⟨rfl, rfl⟩
        go_wp2
        exact bodyPost_ret (res46 rfl rfl rfl) rfl ⟨by rw [HE.out.1, HE.out.2.1, HE.out.2.2]; rfl, rfl⟩
      · have dd : ((k : Int) == (a : Int)) = false := beq_eq_false_iff_ne.2 (by omega)
        have e1 : IntKind.i64.wrap ((k : Int) + (sz : Int)) = (k : Int) + (sz : Int) := IntWalk.i64_in _ (by omega)
        have e2 : IntKind.i64.wrap ((k : Int) + (sz : Int) + 1) = (k : Int) + (sz : Int) + 1 := IntWalk.i64_in _ (by omega)
        have HR : Hid ((k + sz + 1 = L ∨ m.st.getD (k + sz + 1) false = true) ∧ (findB m p = true → k + sz + 1 ≤ a) ∧ k + sz + 1 ≤ L) := Lib.hid (by
          have hl := HL.out
          have z := FU.out.tight.next k (by omega) HST.out
          have hs : szN m.ws k = sz := by unfold szN; rw [HSZ.out]; rfl
          rw [hs, show k + 1 + sz = k + sz + 1 from by omega] at z
          refine ⟨z.imp (fun e => by omega) id, fun hf => ?_, by have := HG.out.1; omega⟩
          have h1 := HK.out.2 hf
          rw [HF0.out, Bool.and_eq_true, decide_eq_true_eq] at hf
          rcases Nat.lt_or_ge a (k + sz + 1) with h2 | h2
          · have h3 := HG.out.2 a (by omega) (by omega)
            rw [h3] at hf; cases hf.2
          · exact h2)
        clear hka
        go_wp2_with fail
        refine SP.out.mono ?_; rintro e w2 ⟨rfl, rfl⟩
        go_wp2
        go_round
        case rel => exact ⟨k + sz + 1, by push_cast; go_num, HR.out.2.2, Lib.hid ⟨HR.out.1, HR.out.2.1⟩⟩
        case measure => simp [intOf]; omega
    · obtain rfl : k = L := by omega
      have hF : findB m p = false := by
        cases hf : findB m p
        · rfl
        · have h1 := HK.out.2 hf
          rw [HF0.out, Bool.and_eq_true, decide_eq_true_eq] at hf
          have := HL.out; omega
      have HE := Lib.hid (And.intro hF (And.intro (show findV m p = 0 by unfold findV; rw [hF]; rfl) (show thN m p = 0 by unfold thN; rw [hF]; rfl)))
      have hkLi : ¬ (k : Int) < (k : Int) := by omega
      clear hF
      go_wp2
      exact bodyPost_ret (res46 rfl rfl rfl) rfl ⟨by rw [HE.out.1, HE.out.2.1, HE.out.2.2]; rfl, rfl⟩
end Go.Proofs.Ytknpgmbniohcnaa
