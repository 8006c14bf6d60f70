import Derived.Test.YtknpgmbniohcnaaRc
namespace Go.Proofs.Ytknpgmbniohcnaa
open Go.ChangeShapes Go.WideShapes Go.ChangeAt Go.RowKit
set_option linter.unusedVariables false
/-- objects without gaps; whether the references fit is not known yet. -/
structure Half (m : Hm) : Prop extends m.Ok where
  tight : Tight m.ws m.st
/-- the document's heap, read only: wherever its row lies. -/
structure RH0 (w : World) (H : Nat) (m : Hm) : Prop where
  full : Half m
  at_ : ∃ T A c, w.heap[H]? = some (.cells #[.int .i64 m.room, .slice A m.ws.length c, .int .i64 m.turns] T (0, 0)) ∧ InW w A c m.ws
theorem RH0.lt {w : World} {H : Nat} {m : Hm} (h : RH0 w H m) : H < w.heap.size := by
  obtain ⟨T, A, c, h1, _⟩ := h.at_
  exact (Array.getElem?_eq_some_iff.1 h1).1
theorem RH0.cells {w : World} {H : Nat} {m : Hm} (h : RH0 w H m) : ∃ A c, w.cell? ⟨H, 0, none⟩ = some (.int .i64 m.room) ∧ w.cell? ⟨H, 1, none⟩ = some (.slice A m.ws.length c) ∧ w.cell? ⟨H, 2, none⟩ = some (.int .i64 m.turns) ∧ InW w A c m.ws ∧ True ∧ True := by
  obtain ⟨T, A, c, h1, h2⟩ := h.at_
  exact ⟨A, c, by simp [World.cell?, h1], by simp [World.cell?, h1], by simp [World.cell?, h1], h2, trivial, trivial⟩
theorem RH0.below {w w' : World} {H : Nat} {m : Hm} (h : RH0 w H m) (hb : Below w.heap.size w w') : RH0 w' H m := by
  have hl := h.lt
  obtain ⟨T, A, c, h1, h2⟩ := h.at_
  exact ⟨h.full, T, A, c, (hb.block H hl).trans h1, h2.below hb⟩
set_option maxRecDepth 100000 in
set_option maxHeartbeats 4000000 in
theorem thing0_any {w : World} {H : Nat} {m : Hm} (h : RH0 w H m) (p : Int) (hp : U64 p) :
    Calls Try.prog 46 #[.pointer (some ⟨H, 0, none⟩), .int .u64 p] w fun e w' => e = .returned (.tuple #[.int .i64 (findV m p), .int .i64 (thN m p), .bool (findB m p)]) ∧ w = w' := by
  obtain ⟨A, c, f0, f1, f2, hin, fz, own⟩ := h.cells
  have AT := Lib.hid (rat_any p hp.1 hp.2 w)
  obtain ⟨a, ha⟩ : ∃ a : Nat, atV p = (a : Int) := ⟨(atV p).toNat, by have := atV_nn hp.1; omega⟩
  rw [ha] at AT
  cases hb : atB p
  · have hF : findB m p = false := by unfold findB; rw [hb]; rfl
    have hV : findV m p = 0 := by unfold findV; rw [hF]; rfl
    have hN : thN m p = 0 := by unfold thN; rw [hF]; rfl
    rw [hF, hV, hN]
    rw [hb] at AT
    clear hF hV hN hb ha hin fz own h
    go_enter Try.func46, Try.ntmps46
    go_wp2_with fail
    refine AT.out.mono ?_; rintro e w1 ⟨rfl, rfl⟩
    clear AT
    go_wp2
    exact bodyPost_ret (res46 rfl rfl rfl) rfl ⟨rfl, rfl⟩
  rw [hb] at AT
  have hF0 : findB m p = (decide (a < m.ws.length) && m.st.getD a false) := by unfold findB; rw [hb, ha, Int.toNat_natCast]; rfl
  have HF0 := Lib.hid hF0
  have HA := Lib.hid ha
  have HIN := Lib.hid hin
  have FU := Lib.hid h.full
  have hlt := h.full.lt
  obtain ⟨L, hL⟩ : ∃ L, L = m.ws.length := ⟨_, rfl⟩
  rw [← hL] at f1 hlt
  have HL := Lib.hid hL
  have hab : (a : Int) < 9223372036854775807 := by
    have : atV p ≤ p := by unfold atV; have := hp.1; split <;> omega
    have h2 : atP p := of_decide_eq_true hb
    have h3 : p < 4294967296 := by unfold atP at h2; omega
    omega
  clear hF0 ha hin fz own h f0 f2 hL hb
  go_enter Try.func46, Try.ntmps46
  go_wp2_with fail
  refine AT.out.mono ?_; rintro e w1 ⟨rfl, rfl⟩
  clear AT
  go_wp2
  go_loop [9] (fun i => ∃ k : Nat, i = .int .i64 k ∧ k ≤ L ∧ Hid ((k = L ∨ m.st.getD k false = true) ∧ (findB m p = true → k ≤ a))) (fun i => L - (intOf i).toNat)
  case atStart => exact ⟨0, rfl, by omega, Lib.hid ⟨by rw [HL.out]; exact FU.out.tight.zero.imp (fun e => e.symm) id, fun _ => by omega⟩⟩
  case round =>
    obtain ⟨k, rfl, hk, HK⟩ := hrel
    by_cases hkL : k < L
    · have hkw : k < m.ws.length := by have := HL.out; omega
      have hst : m.st.getD k false = true := HK.out.1.resolve_left (by omega)
      obtain ⟨g1, g2, g3⟩ := FU.out.snd k hkw hst
      obtain ⟨b, off, rfl, hbl, hc⟩ := HIN.out.at (by omega)
      have hck := hc k hkw
      obtain ⟨x, hx⟩ : ∃ x, x = m.ws[k] := ⟨_, rfl⟩
      have hux : U64 x := hx ▸ FU.out.wf _ (List.getElem_mem hkw)
      have hgx : m.ws.getD k 0 = x := by rw [getD_at hkw, hx]
      rw [← hx] at hck
      rw [hgx] at g1 g2 g3
      have SP := Lib.hid (rsplit_any x hux.1 hux.2 w)
      have hn := splS_nn hux.1
      obtain ⟨sz, hsz⟩ : ∃ sz : Nat, splS x = (sz : Int) := ⟨(splS x).toNat, by omega⟩
      rw [hsz] at SP g2 g3 hn
      rw [Int.toNat_natCast] at g2 g3
      have hkLi : (k : Int) < (L : Int) := by omega
      have hsz2 : sz ≤ 65535 := by omega
      have HST := Lib.hid hst
      have HG := Lib.hid (And.intro g2 g3)
      have HSZ := Lib.hid (show splS (m.ws.getD k 0) = (sz : Int) by rw [hgx]; exact hsz)
      clear hc hx hgx hst g1 g2 g3 hsz hux
      by_cases hka : k = a
      · subst hka
        have hF : findB m p = true := by rw [HF0.out, decide_eq_true (by have := HL.out; omega), HST.out]; rfl
        have hV : findV m p = (k : Int) := by unfold findV; rw [hF]; exact HA.out
        have hN : thN m p = (sz : Int) := by unfold thN; rw [hF, HA.out, Int.toNat_natCast]; exact HSZ.out
        have HE := Lib.hid (And.intro hF (And.intro hV hN))
        have dd : ((k : Int) == (k : Int)) = true := beq_self_eq_true _
        clear hF hV hN
        go_wp2_with fail
        refine SP.out.mono ?_; rintro e w2 ⟨rfl, rfl⟩
        go_wp2
        exact bodyPost_ret (res46 rfl rfl rfl) rfl ⟨by rw [HE.out.1, HE.out.2.1, HE.out.2.2]; rfl, rfl⟩
      · have dd : ((k : Int) == (a : Int)) = false := beq_eq_false_iff_ne.2 (by omega)
        have e1 : IntKind.i64.wrap ((k : Int) + (sz : Int)) = (k : Int) + (sz : Int) := IntWalk.i64_in _ (by omega)
        have e2 : IntKind.i64.wrap ((k : Int) + (sz : Int) + 1) = (k : Int) + (sz : Int) + 1 := IntWalk.i64_in _ (by omega)
        have HR : Hid ((k + sz + 1 = L ∨ m.st.getD (k + sz + 1) false = true) ∧ (findB m p = true → k + sz + 1 ≤ a) ∧ k + sz + 1 ≤ L) := Lib.hid (by
          have hl := HL.out
          have z := FU.out.tight.next k (by omega) HST.out
          have hs : szN m.ws k = sz := by unfold szN; rw [HSZ.out]; rfl
          rw [hs, show k + 1 + sz = k + sz + 1 from by omega] at z
          refine ⟨z.imp (fun e => by omega) id, fun hf => ?_, by have := HG.out.1; omega⟩
          have h1 := HK.out.2 hf
          rw [HF0.out, Bool.and_eq_true, decide_eq_true_eq] at hf
          rcases Nat.lt_or_ge a (k + sz + 1) with h2 | h2
          · have h3 := HG.out.2 a (by omega) (by omega)
            rw [h3] at hf; cases hf.2
          · exact h2)
        clear hka
        go_wp2_with fail
        refine SP.out.mono ?_; rintro e w2 ⟨rfl, rfl⟩
        go_wp2
        go_round
        case rel => exact ⟨k + sz + 1, by push_cast; go_num, HR.out.2.2, Lib.hid ⟨HR.out.1, HR.out.2.1⟩⟩
        case measure => simp [intOf]; omega
    · obtain rfl : k = L := by omega
      have hF : findB m p = false := by
        cases hf : findB m p
        · rfl
        · have h1 := HK.out.2 hf
          rw [HF0.out, Bool.and_eq_true, decide_eq_true_eq] at hf
          have := HL.out; omega
      have HE := Lib.hid (And.intro hF (And.intro (show findV m p = 0 by unfold findV; rw [hF]; rfl) (show thN m p = 0 by unfold thN; rw [hF]; rfl)))
      have hkLi : ¬ (k : Int) < (k : Int) := by omega
      clear hF
      go_wp2
      exact bodyPost_ret (res46 rfl rfl rfl) rfl ⟨by rw [HE.out.1, HE.out.2.1, HE.out.2.2]; rfl, rfl⟩
set_option maxRecDepth 100000 in
set_option maxHeartbeats 4000000 in
theorem rword0_any {w : World} {H : Nat} {m : Hm} (h : RH0 w H m) (x : Int) (hx : U64 x) : Calls Try.prog 44 #[.pointer (some ⟨H, 0, none⟩), .int .u64 x] w fun e w' => e = .returned (.bool (fitsB m x)) ∧ w = w' := by
  have TH := Lib.hid (thing0_any h x hx)
  obtain ⟨hx0, hx1⟩ := hx
  obtain ⟨a, ha⟩ : ∃ a, a = findV m x := ⟨_, rfl⟩
  obtain ⟨b, hb⟩ : ∃ b, b = thN m x := ⟨_, rfl⟩
  rw [← ha, ← hb] at TH
  unfold fitsB
  obtain ⟨f, hf⟩ : ∃ f, f = findB m x := ⟨_, rfl⟩
  rw [← hf] at TH ⊢
  clear ha hb hf h
  by_cases h1 : x % 2 = 1
  · have h4 : (x % 2 == 1) = true := by rw [h1]; rfl
    go_enter Try.func44, Try.ntmps44
    go_wp2_with fail
    refine TH.out.mono ?_; rintro e w1 ⟨rfl, rfl⟩
    go_wp2
    go_ret
    exact ⟨by rw [h4]; rfl, rfl⟩
  · have h4 : (x % 2 == 1) = false := beq_eq_false_iff_ne.2 h1
    go_enter Try.func44, Try.ntmps44
    go_wp2_with fail
    refine TH.out.mono ?_; rintro e w1 ⟨rfl, rfl⟩
    go_wp2
    go_ret
    exact ⟨by rw [h4]; rfl, rfl⟩
/-- what sound finds: objects without gaps. -/
theorem soundS_tight (ws : List Int) : ∀ (n a : Nat) (st st' : List Bool), StI ws a st → ws.length - a ≤ n → (a = 0 ∨ st.getD 0 false = true) → (∀ b, b < a → st.getD b false = true → b + 1 + szN ws b = a ∨ st.getD (b + 1 + szN ws b) false = true) → soundS ws n a st = some st' → StI ws ws.length st' ∧ Tight ws st'
  | 0, a, st, st', h, hn, h0, hl, e => by
    have ea : a = ws.length := by have := h.le; omega
    have e2 : st = st' := Option.some.inj e
    subst e2
    rw [ea] at h h0 hl
    refine ⟨h, h0.imp id id, fun b hb hs => hl b hb hs⟩
  | n + 1, a, st, st', h, hn, h0, hl, e => by
    have e' : (if a < ws.length then (if goodAt ws a = true then soundS ws n (a + (szN ws a + 1)) (st.set a true) else none) else some st) = some st' := e
    by_cases hlt : a < ws.length
    · rw [if_pos hlt] at e'
      by_cases hg : goodAt ws a = true
      · rw [if_pos hg] at e'
        have hn' := h.next hlt hg
        have hsl : a < st.length := by rw [h.len]; exact hlt
        refine soundS_tight ws n _ _ st' hn' (by omega) (.inr ?_) (fun b hb hs => ?_) e'
        · by_cases ha : a = 0
          · subst ha; exact getD_setB_same _ _ _ hsl
          · rw [getD_setB_ne _ _ _ _ (by omega)]; exact h0.resolve_left ha
        · by_cases hba : b = a
          · subst hba; left; omega
          · rw [getD_setB_ne _ _ _ _ hba] at hs
            have hb2 : b < a := by
              rcases Nat.lt_or_ge b a with h1 | h1
              · exact h1
              · rw [h.hi b h1] at hs; cases hs
            right
            rcases hl b hb2 hs with h1 | h1
            · rw [h1]; exact getD_setB_same _ _ _ hsl
            · by_cases hc : b + 1 + szN ws b = a
              · rw [hc]; exact getD_setB_same _ _ _ hsl
              · rw [getD_setB_ne _ _ _ _ hc]; exact h1
      · rw [if_neg hg] at e'; cases e'
    · rw [if_neg hlt] at e'
      have e2 : st = st' := Option.some.inj e'
      subst e2
      have ea : a = ws.length := by have := h.le; omega
      rw [ea] at h h0 hl
      exact ⟨h, h0, fun b hb hs => hl b hb hs⟩
theorem sndO_half {m : Hm} (ok : m.Ok) {st : List Bool} (h : sndO m.ws = some st) : Half (withSt m st) := by
  obtain ⟨h1, h2⟩ := soundS_tight m.ws m.ws.length 0 _ st (StI.init m.ws) (by omega) (.inl rfl) (fun b hb => by omega) h
  exact ⟨h1.ok ok, h2⟩
theorem loadF_full {l : List Int} (hb : ∀ x ∈ l, Byte x) {m : Hm} (h : loadF l = some m) : Full m := by
  unfold loadF at h
  by_cases hg : goodL l
  · rw [if_pos hg] at h
    by_cases hB : sndB (loadM l) = true
    · rw [if_pos hB] at h
      cases hs : sndO (wsOf l) with
      | none => rw [hs] at h; cases h
      | some st =>
        rw [hs] at h
        have e : withSt (loadM l) st = m := Option.some.inj h
        obtain ⟨⟨g1, g2⟩, g3, g4, g5, g6⟩ := hg
        have hlw : (wsOf l).length = l.length / 8 - 2 := by unfold wsOf; rw [List.length_map, List.length_range]
        have hok : (loadM l).Ok := by
          refine ⟨by simp [loadM, hlw], by show (wsOf l).length ≤ _; rw [hlw]; omega, by show 0 ≤ decAt l 0; omega, g4, (decAt_u64 hb 1).1, g6, fun x hx => ?_, fun a ha hst => ?_⟩
          · simp only [loadM, wsOf, List.mem_map] at hx
            obtain ⟨i, _, rfl⟩ := hx
            exact decAt_u64 hb _
          · simp only [loadM] at hst
            rw [List.getD_eq_getElem?_getD, List.getElem?_replicate] at hst
            split at hst <;> cases hst
        have hh := sndO_half hok hs
        rw [← e]
        refine ⟨hh.toOk, hh.tight, fun i hi hst => ?_⟩
        unfold sndB at hB
        rw [show (loadM l).ws = wsOf l from rfl, hs] at hB
        have hB2 : fitAll (withSt (loadM l) st) (wsOf l).length = true := hB
        unfold fitAll at hB2
        have z := List.all_eq_true.1 hB2 i (List.mem_range.2 hi)
        rw [hst, Bool.false_or] at z
        exact z
    · rw [if_neg hB] at h; cases h
  · rw [if_neg hg] at h; cases h
end Go.Proofs.Ytknpgmbniohcnaa
