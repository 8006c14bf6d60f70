import Derived.Test.YtknpgmbniohcnaaBase
namespace Go.Proofs.Ytknpgmbniohcnaa
open Go.ChangeShapes Go.WideShapes Go.ChangeAt Go.RowKit
set_option linter.unusedVariables false
theorem atV_nn {p : Int} (h : 0 ≤ p) : 0 ≤ atV p := by unfold atV; split <;> omega
theorem findB_of {m : Hm} {p : Int} {a : Nat} (h1 : atB p = true) (h2 : atV p = (a : Int)) (h3 : a < m.ws.length) (hl : m.st.length = m.ws.length) : findB m p = m.st[a]'(by omega) := by
  unfold findB
  rw [h1, h2]
  simp [h3, List.getD, List.getElem?_eq_getElem (show a < m.st.length by omega)]
def FindE (m : Hm) (p : Int) (e : Ending) : Prop := e = .returned (.tuple #[.int .i64 (findV m p), .bool (findB m p)])
set_option maxRecDepth 100000 in
set_option maxHeartbeats 2000000 in
theorem find_any {w : World} {B H o : Nat} {m : Hm} (h : HpAt w B H o m) (p : Int) (hp : U64 p) : Calls Try.prog 38 #[.pointer (some ⟨H, o, none⟩), .int .u64 p] w fun e w' => e = .returned (.tuple #[.int .i64 (findV m p), .bool (findB m p)]) ∧ w = w' := by
  obtain ⟨A1, c1, A2, c2, f0, f1, f2, f3, hw, hs⟩ := h.cells
  have hl := h.ok.len
  have hlt := h.ok.lt
  have AT := Lib.hid (at_any p hp.1 hp.2 w)
  obtain ⟨a, ha⟩ : ∃ a : Nat, atV p = (a : Int) := ⟨(atV p).toNat, by have := atV_nn hp.1; omega⟩
  rw [ha] at AT
  cases hb : atB p
  · have hF : findB m p = false := by unfold findB; rw [hb]; rfl
    have hV : findV m p = 0 := by unfold findV; rw [hF]; rfl
    rw [hF, hV]
    rw [hb] at AT
    clear hF hV hb ha hs hw hl h hp
    go_enter Try.func38, Try.ntmps38
    go_wp2_with fail
    refine AT.out.mono ?_; rintro e w1 ⟨rfl, rfl⟩
    clear AT
    go_wp2
    go_ret2
    exact ⟨rfl, rfl⟩
  rw [hb] at AT
  by_cases hal : a < m.ws.length
  · have hF := findB_of hb ha hal hl
    obtain ⟨g, rfl, hc⟩ := hs a hal
    have hali : (a : Int) < (m.ws.length : Int) := by omega
    have d1 : decide ((m.ws.length : Int) ≤ (a : Int)) = false := decide_eq_false (by omega)
    have d1' : decide (m.ws.length ≤ a) = false := decide_eq_false (by omega)
    cases hx : m.st[a]'(by omega)
    · rw [hx] at hF hc
      have hV : findV m p = 0 := by unfold findV; rw [hF]; rfl
      rw [hF, hV]
      clear hF hV hb ha hs hw hl h hp hx hal
      go_enter Try.func38, Try.ntmps38
      go_wp2_with fail
      refine AT.out.mono ?_; rintro e w1 ⟨rfl, rfl⟩
      clear AT
      go_wp2
      go_ret2
      exact ⟨rfl, rfl⟩
    · rw [hx] at hF hc
      have hV : findV m p = (a : Int) := by unfold findV; rw [hF, ← ha]; rfl
      rw [hF, hV]
      clear hF hV hb ha hs hw hl h hp hx hal
      go_enter Try.func38, Try.ntmps38
      go_wp2_with fail
      refine AT.out.mono ?_; rintro e w1 ⟨rfl, rfl⟩
      clear AT
      go_wp2
      go_ret2
      exact ⟨rfl, rfl⟩
  · have hF : findB m p = false := by unfold findB; rw [ha]; simp [hal]
    have hV : findV m p = 0 := by unfold findV; rw [hF]; rfl
    have d1 : decide ((m.ws.length : Int) ≤ (a : Int)) = true := decide_eq_true (by omega)
    have d1' : decide (m.ws.length ≤ a) = true := decide_eq_true (by omega)
    rw [hF, hV]
    clear hF hV hb ha hs hw hl h hp
    go_enter Try.func38, Try.ntmps38
    go_wp2_with fail
    refine AT.out.mono ?_; rintro e w1 ⟨rfl, rfl⟩
    clear AT
    go_wp2
    go_ret2
    exact ⟨rfl, rfl⟩
theorem findB_lt {m : Hm} {p : Int} (h : findB m p = true) : atB p = true ∧ findV m p = atV p ∧ (atV p).toNat < m.ws.length ∧ m.st.getD (atV p).toNat false = true := by
  have h0 := h
  unfold findB at h
  simp only [Bool.and_eq_true, decide_eq_true_eq] at h
  exact ⟨h.1.1, if_pos h0, h.1.2, h.2⟩
/-- may it stand in an object? -/
def fitsB (m : Hm) (x : Int) : Bool := x % 2 == 1 || findB m x
theorem fits_any {w : World} {B H o : Nat} {m : Hm} (h : HpAt w B H o m) (x : Int) (hx : U64 x) : Calls Try.prog 34 #[.pointer (some ⟨H, o, none⟩), .int .u64 x] w fun e w' => e = .returned (.bool (fitsB m x)) ∧ w = w' := by
  have FD := Lib.hid (find_any h x hx)
  unfold fitsB
  by_cases h1 : x % 2 = 1
  · have h3 : (bits BinOp.and IntKind.u64 x 1 == 1) = true := by rw [and_one x hx.1 hx.2, h1]; rfl
    have h4 : (x % 2 == 1) = true := by rw [h1]; rfl
    rw [h4]
    clear h h1 h4
    go_enter Try.func34, Try.ntmps34
    go_wp2
    go_ret
    exact ⟨rfl, rfl⟩
  · have h3 : (bits BinOp.and IntKind.u64 x 1 == 1) = false := by rw [and_one x hx.1 hx.2]; exact beq_eq_false_iff_ne.2 h1
    have h4 : (x % 2 == 1) = false := beq_eq_false_iff_ne.2 h1
    rw [h4]
    clear h h1 h4
    go_enter Try.func34, Try.ntmps34
    go_wp2_with fail
    refine FD.out.mono ?_; rintro e w1 ⟨rfl, rfl⟩
    clear FD
    go_wp2
    go_ret
    exact ⟨rfl, rfl⟩
theorem size_any {w : World} {B H o : Nat} {m : Hm} (h : HpAt w B H o m) (a : Nat) (ha : a < m.ws.length) : Calls Try.prog 50 #[.pointer (some ⟨H, o, none⟩), .int .i64 a] w fun e w' => e = .returned (.int .i64 (splS m.ws[a])) ∧ w = w' := by
  obtain ⟨A1, c1, A2, c2, f0, f1, f2, f3, hw, hs⟩ := h.cells
  obtain ⟨g, rfl, hc⟩ := hw a ha
  have hlt := h.ok.lt
  have hwf := h.ok.wf _ (List.getElem_mem ha)
  have hali : (a : Int) < (m.ws.length : Int) := by omega
  obtain ⟨x, hx⟩ : ∃ x, x = m.ws[a] := ⟨_, rfl⟩
  rw [← hx] at hc hwf ⊢
  have SP := Lib.hid (split_any x hwf.1 hwf.2 w)
  clear hx hwf hw hs h
  go_enter Try.func50, Try.ntmps50
  go_wp2_with fail
  refine SP.out.mono ?_; rintro e w1 ⟨rfl, rfl⟩
  clear SP
  go_wp2
  go_ret
  exact ⟨rfl, rfl⟩
end Go.Proofs.Ytknpgmbniohcnaa
