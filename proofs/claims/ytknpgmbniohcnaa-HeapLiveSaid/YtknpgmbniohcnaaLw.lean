import Derived.Test.YtknpgmbniohcnaaLv
namespace Go.Proofs.Ytknpgmbniohcnaa
open Go.ChangeShapes Go.WideShapes Go.ChangeAt Go.RowKit
set_option linter.unusedVariables false
/-- a walk over what hangs together: a: the places met; mk: which objects have been seen; mv: which were copied. -/
structure WI (F : Hm) (xs mv : List Int) (i : Nat) (a mk : List Int) : Prop where
  lm : mk.length = F.ws.length
  le : i ≤ a.length
  pre : ∀ j, j < i → findB F (a.getD j 0) = true → mk.getD (atV (a.getD j 0)).toNat 0 ≠ 0
  kid : ∀ p, p < F.ws.length → mk.getD p 0 ≠ 0 → F.st.getD p false = true ∧ ∀ j, j < szN F.ws p → F.ws.getD (p + 1 + j) 0 ∈ a
  rt : ∀ x ∈ xs, x ∈ a
  cp : ∀ x ∈ a, findB F x = true → mv.getD (atV x).toNat 0 ≠ 0
  cm : ∀ p, p < F.ws.length → mk.getD p 0 ≠ 0 → mv.getD p 0 ≠ 0
  u : ∀ x ∈ a, U64 x
  sz : a.length ≤ xs.length + usedN F mk
theorem wi_start {F : Hm} {xs mv : List Int} (hu : ∀ x ∈ xs, U64 x) (hc : ∀ x ∈ xs, findB F x = true → mv.getD (atV x).toNat 0 ≠ 0) : WI F xs mv 0 xs (List.replicate F.ws.length 0) := by
  have h0 : ∀ p, (List.replicate F.ws.length (0 : Int)).getD p 0 = 0 := fun p => by
    rw [List.getD_eq_getElem?_getD, List.getElem?_replicate]; split <;> rfl
  exact ⟨by simp, Nat.zero_le _, fun j hj => absurd hj (Nat.not_lt_zero _), fun p _ h => absurd (h0 p) h, fun x h => h, hc, fun p _ h => absurd (h0 p) h, hu, by omega⟩
theorem wi_skip {F : Hm} {xs mv a mk : List Int} {i : Nat} (h : WI F xs mv i a mk) (hi : i < a.length) (hs : findB F (a.getD i 0) = true → mk.getD (atV (a.getD i 0)).toNat 0 ≠ 0) : WI F xs mv (i + 1) a mk :=
  ⟨h.lm, hi, fun j hj hf => by
    rcases Nat.lt_succ_iff_lt_or_eq.1 hj with e | e
    · exact h.pre j e hf
    · subst e; exact hs hf, h.kid, h.rt, h.cp, h.cm, h.u, h.sz⟩
theorem objOf_at {F : Hm} (ok : F.Ok) {p j : Nat} (hp : p < F.ws.length) (hst : F.st.getD p false = true) (hj : j < szN F.ws p) : j < (objOf F p).length ∧ (objOf F p).getD j 0 = F.ws.getD (p + 1 + j) 0 := by
  have h1 := (obj_len ok hp hst).1
  have h2 : j < (objOf F p).length := by unfold szN at hj; omega
  exact ⟨h2, (objOf_mem h2).2⟩
theorem objOf_in {F : Hm} {p : Nat} {x : Int} (h : x ∈ objOf F p) : ∃ j, j < (objOf F p).length ∧ x = F.ws.getD (p + 1 + j) 0 := by
  obtain ⟨j, hj, e⟩ := List.getElem_of_mem h
  exact ⟨j, hj, by rw [← (objOf_mem hj).2, getD_at hj]; exact e.symm⟩
/-- an object that has not been seen: its words come behind. -/
theorem wi_new {F : Hm} (ok : F.Ok) {xs mv a mk : List Int} {i : Nat} (h : WI F xs mv i a mk) (hi : i < a.length) (hf : findB F (a.getD i 0) = true) (h0 : mk.getD (atV (a.getD i 0)).toNat 0 = 0)
    (hcp : ∀ p j, p < F.ws.length → mv.getD p 0 ≠ 0 → j < szN F.ws p → findB F (F.ws.getD (p + 1 + j) 0) = true → mv.getD (atV (F.ws.getD (p + 1 + j) 0)).toNat 0 ≠ 0) :
    WI F xs mv (i + 1) (a ++ objOf F (atV (a.getD i 0)).toNat) (mk.set (atV (a.getD i 0)).toNat 1) ∧ usedN F (mk.set (atV (a.getD i 0)).toNat 1) = usedN F mk + (szN F.ws (atV (a.getD i 0)).toNat + 1) := by
  obtain ⟨h1, h2, h3, h4⟩ := findB_lt hf
  have hmem : a.getD i 0 ∈ a := by rw [getD_at hi]; exact List.getElem_mem hi
  obtain ⟨x, hx⟩ : ∃ x, x = a.getD i 0 := ⟨_, rfl⟩
  rw [← hx] at hf h0 h1 h2 h3 h4 hmem ⊢
  obtain ⟨p, hp⟩ : ∃ p, p = (atV x).toNat := ⟨_, rfl⟩
  have hmv := h.cp x hmem hf
  rw [← hp] at h0 h3 h4 hmv ⊢
  obtain ⟨o1, o2⟩ := obj_len ok h3 h4
  have osz : (objOf F p).length = szN F.ws p := by unfold szN; omega
  have hus : usedN F (mk.set p 1) = usedN F mk + (szN F.ws p + 1) := by
    rw [used_set h3 h.lm h0 (by decide), o2, osz, Nat.add_comm 1]
  have sm : ∀ q, mk.getD q 0 ≠ 0 → (mk.set p 1).getD q 0 ≠ 0 := fun q hq => by
    by_cases e : q = p
    · subst e; rw [getD_set_same _ _ _ (by rw [h.lm]; exact h3)]; decide
    · rw [getD_set_ne _ _ _ _ e]; exact hq
  have sp : (mk.set p 1).getD p 0 ≠ 0 := by rw [getD_set_same _ _ _ (by rw [h.lm]; exact h3)]; decide
  refine ⟨⟨by simp [h.lm], by simp; omega, fun j hj hfj => ?_, fun q hq hmq => ?_, fun y hy => List.mem_append_left _ (h.rt y hy), fun y hy hfy => ?_, fun q hq hmq => ?_, fun y hy => ?_, by rw [hus, List.length_append, osz]; have := h.sz; omega⟩, hus⟩
  · have hja : j < a.length := by omega
    rw [getD_app_l _ _ _ _ hja] at hfj ⊢
    rcases Nat.lt_succ_iff_lt_or_eq.1 hj with e | e
    · exact sm _ (h.pre j e hfj)
    · subst e; rw [← hx, ← hp]; exact sp
  · by_cases e : q = p
    · subst e
      exact ⟨h4, fun j hj => List.mem_append_right _ (by
        obtain ⟨k1, k2⟩ := objOf_at ok h3 h4 hj
        rw [← k2, getD_at k1]; exact List.getElem_mem k1)⟩
    · rw [getD_set_ne _ _ _ _ e] at hmq
      obtain ⟨k1, k2⟩ := h.kid q hq hmq
      exact ⟨k1, fun j hj => List.mem_append_left _ (k2 j hj)⟩
  · rcases List.mem_append.1 hy with e | e
    · exact h.cp y e hfy
    · obtain ⟨j, hj, rfl⟩ := objOf_in e
      exact hcp p j h3 hmv (by omega) hfy
  · by_cases e : q = p
    · subst e; exact hmv
    · rw [getD_set_ne _ _ _ _ e] at hmq; exact h.cm q hq hmq
  · rcases List.mem_append.1 hy with e | e
    · exact h.u y e
    · obtain ⟨j, hj, rfl⟩ := objOf_in e
      have hlt := (objOf_mem hj).1
      rw [getD_at hlt]
      exact ok.wf _ (List.getElem_mem hlt)
/-- words of what was copied are copied, too. -/
theorem copied_kids {F : Hm} (hF : Full F) {xs : List Int} (hx : ∀ x ∈ xs, U64 x) : ∀ p j, p < F.ws.length → (colS F xs).mv.getD p 0 ≠ 0 → j < szN F.ws p → findB F (F.ws.getD (p + 1 + j) 0) = true → (colS F xs).mv.getD (atV (F.ws.getD (p + 1 + j) 0)).toNat 0 ≠ 0 := fun p j hp hm hj hf => by
  obtain ⟨h1, h2, h3⟩ := lv_col hF (P := fun _ => True) (fun _ _ _ _ _ _ _ => trivial) hx (fun _ _ _ => trivial)
  obtain ⟨k, e, _⟩ := h1.gd.mvs p hp hm
  exact (h1.new p k j hp e hj (obj_free h1 hp e hj).1).2 hf
/-- at the end: what was seen is what was copied. -/
theorem wi_end {F : Hm} (hF : Full F) {xs a mk : List Int} (hx : ∀ x ∈ xs, U64 x) (h : WI F xs (colS F xs).mv a.length a mk) : usedN F mk = (colS F xs).T.ws.length := by
  have hall : ∀ x ∈ a, findB F x = true → mk.getD (atV x).toNat 0 ≠ 0 := fun x hxa hf => by
    obtain ⟨j, hj, e⟩ := List.getElem_of_mem hxa
    have := h.pre j hj
    rw [getD_at hj, e] at this
    exact this hf
  obtain ⟨h1, _, _⟩ := lv_col hF (P := fun p => mk.getD p 0 ≠ 0) (fun p j hp hst hP hj hf => hall _ ((h.kid p hp hP).2 j hj) hf) hx (fun x hxx hf => hall x (h.rt x hxx) hf)
  rw [← h1.gd.inv.used]
  unfold usedN
  refine sumN_eq _ fun p hp => ?_
  by_cases hm : mk.getD p 0 = 0
  · rw [if_pos hm]
    by_cases hv : (colS F xs).mv.getD p 0 = 0
    · rw [if_pos hv]
    · obtain ⟨k, e, _⟩ := h1.gd.mvs p hp hv
      exact absurd hm (h1.src p k hp e).2.2.2.2
  · rw [if_neg hm, if_neg (h.cm p hp hm)]
/-- a place that is found, in the new heap. -/
theorem fwd_found {F : Hm} (hF : Full F) {xs : List Int} (hx : ∀ x ∈ xs, U64 x) {x : Int} (hu : U64 x) (hf : findB F x = true) (hm : (colS F xs).mv.getD (atV x).toNat 0 ≠ 0) :
    findB (colM F xs) (fwd F (colS F xs).mv x) = true ∧ (colM F xs).ws.getD (findV (colM F xs) (fwd F (colS F xs).mv x)).toNat 0 = F.ws.getD (findV F x).toNat 0 ∧ U64 (fwd F (colS F xs).mv x) ∧
    ∀ c : Nat, c < szN F.ws (atV x).toNat → (getR F x c).1 = F.ws.getD ((atV x).toNat + 1 + c) 0 ∧ (getR (colM F xs) (fwd F (colS F xs).mv x) c).1 = fwd F (colS F xs).mv (F.ws.getD ((atV x).toNat + 1 + c) 0) := by
  obtain ⟨f1, f2, f3, f4⟩ := findB_lt hf
  obtain ⟨h1, h2, h3⟩ := lv_col hF (P := fun _ => True) (fun _ _ _ _ _ _ _ => trivial) hx (fun _ _ _ => trivial)
  obtain ⟨k, e, hk, hs⟩ := h1.gd.mvs _ f3 hm
  have tok := h1.gd.inv.tok
  have hlt := tok.lt
  have ef : fwd F (colS F xs).mv x = (k : Int) * 2 := by unfold fwd; rw [if_pos hf, e]; omega
  have hfb : findB (colS F xs).T ((k : Int) * 2) = true := find_two tok hk hs
  have hfb2 : findB (colM F xs) ((k : Int) * 2) = true := hfb
  have hat : atV ((k : Int) * 2) = k := by
    unfold atV; rw [if_pos ⟨by omega, by omega⟩]; omega
  have hv : (findV (colM F xs) ((k : Int) * 2)).toNat = k := by unfold findV; rw [if_pos hfb2, hat]; rfl
  have hv0 : (findV F x).toNat = (atV x).toNat := by unfold findV; rw [if_pos hf]
  obtain ⟨s1, s2, s3, s4, _⟩ := h1.src _ k f3 e
  have hh : (colM F xs).ws.getD k 0 = F.ws.getD (atV x).toNat 0 := s4
  rw [ef]
  refine ⟨hfb2, by rw [hv, hv0]; exact hh, ⟨by omega, by omega⟩, fun c hc => ?_⟩
  have hc2 : (c : Int) < splS (F.ws.getD (atV x).toNat 0) := by unfold szN at hc; omega
  have c0 : ¬ ((c : Int) < 0 ∨ splS (F.ws.getD (findV F x).toNat 0) ≤ (c : Int)) := by rw [hv0]; omega
  have c1 : ¬ ((c : Int) < 0 ∨ splS ((colM F xs).ws.getD (findV (colM F xs) ((k : Int) * 2)).toNat 0) ≤ (c : Int)) := by rw [hv, hh]; omega
  have p0 : placeR F x c = (findV F x + 1 + c, 0) := by
    unfold placeR; rw [if_neg (by rw [hf]; decide), if_neg c0]
  have p1 : placeR (colM F xs) ((k : Int) * 2) c = (findV (colM F xs) ((k : Int) * 2) + 1 + c, 0) := by
    unfold placeR; rw [if_neg (by rw [hfb2]; decide), if_neg c1]
  have ev0 : findV F x = ((atV x).toNat : Int) := by
    have := atV_nn hu.1
    rw [f2]; omega
  have ev1 : findV (colM F xs) ((k : Int) * 2) = (k : Int) := by unfold findV; rw [if_pos hfb2, hat]
  constructor
  · unfold getR
    rw [p0, if_neg (by simp)]
    show F.ws.getD (findV F x + 1 + c).toNat 0 = _
    rw [ev0]
    congr 1
  · unfold getR
    rw [p1, if_neg (by simp)]
    show (colM F xs).ws.getD (findV (colM F xs) ((k : Int) * 2) + 1 + c).toNat 0 = _
    rw [ev1]
    have hfree := (obj_free h1 f3 e hc).1
    have := (h1.new _ k c f3 e hc hfree).1
    rw [← this]
    show (colS F xs).T.ws.getD _ 0 = _
    congr 1
/-- what is no place stays. -/
theorem fwd_none {F : Hm} {mv : List Int} {x : Int} (hf : findB F x = false) : fwd F mv x = x := by unfold fwd; rw [hf]; rfl
end Go.Proofs.Ytknpgmbniohcnaa
