import Derived.Test.YtknpgmbniohcnaaRg
namespace Go.Proofs.Ytknpgmbniohcnaa
open Go.ChangeShapes Go.WideShapes Go.ChangeAt Go.RowKit
set_option linter.unusedVariables false
/-- a collection on its way: what holds of the new heap. -/
structure Gd (F : Hm) (s : CS) (i : Nat) : Prop where
  inv : CInv F s
  tight : Tight s.T.ws s.T.st
  mvs : ∀ a, a < F.ws.length → s.mv.getD a 0 ≠ 0 → ∃ k : Nat, s.mv.getD a 0 = (k : Int) + 1 ∧ k < s.T.ws.length ∧ s.T.st.getD k false = true
  done : ∀ p, p < i → p < s.T.ws.length → s.T.st.getD p false = false → fitsB s.T (s.T.ws.getD p 0) = true
  todo : ∀ p, i ≤ p → p < s.T.ws.length → s.T.st.getD p false = false → fitsB F (s.T.ws.getD p 0) = true
theorem find_two {m : Hm} {k : Nat} (ok : m.Ok) (h1 : k < m.ws.length) (h2 : m.st.getD k false = true) : findB m ((k : Int) * 2) = true := by
  have hlt := ok.lt
  have hp : atP ((k : Int) * 2) := ⟨by omega, by omega⟩
  have hv : atV ((k : Int) * 2) = k := by unfold atV; rw [if_pos hp]; omega
  unfold findB
  rw [show atB ((k : Int) * 2) = true from decide_eq_true hp, hv, Int.toNat_natCast, decide_eq_true h1, h2]; rfl
theorem fits_of_find {m : Hm} {x : Int} (h : findB m x = true) : fitsB m x = true := by unfold fitsB; rw [h]; simp
theorem odd_not_find (m : Hm) {x : Int} (h : x % 2 = 1) : findB m x = false := by
  unfold findB
  have : atB x = false := decide_eq_false (fun hp => by unfold atP at hp; omega)
  rw [this]; rfl
theorem objOf_mem {F : Hm} {a p : Nat} (h : p < (objOf F a).length) : a + 1 + p < F.ws.length ∧ (objOf F a).getD p 0 = F.ws.getD (a + 1 + p) 0 := by
  have hl : (objOf F a).length ≤ F.ws.length - (a + 1) := by unfold objOf; rw [List.length_take, List.length_drop]; omega
  have h2 : a + 1 + p < F.ws.length := by omega
  exact ⟨h2, by rw [getD_at h, getD_at h2]; exact obj_at F a p h h2⟩
theorem gd_move {F : Hm} (hF : Full F) {s : CS} {i : Nat} (h : Gd F s i) (hi : i ≤ s.T.ws.length) (x : Int) (hx : U64 x) : Gd F (moveS F s x) i ∧ (fitsB F x = true → fitsB (moveS F s x).T (moveV F s x) = true) := by
  have hI := (cinv_move hF.toOk h.inv x hx).1
  cases hb : findB F x
  · have e1 : moveS F s x = s := by unfold moveS; rw [if_pos hb]
    have e2 : moveV F s x = x := by unfold moveV; rw [if_pos hb]
    rw [e1, e2]
    refine ⟨h, fun hf => ?_⟩
    unfold fitsB at hf ⊢
    rw [hb, Bool.or_false] at hf
    rw [hf]; rfl
  · obtain ⟨q1, q2, q3, q4⟩ := findB_lt hb
    obtain ⟨a, ha⟩ : ∃ a, a = (atV x).toNat := ⟨_, rfl⟩
    rw [← ha] at q3 q4
    have eV : moveV F s x = if s.mv.getD a 0 = 0 then (s.T.ws.length : Int) * 2 else (s.mv.getD a 0 - 1) * 2 := by unfold moveV; rw [if_neg (by rw [hb]; decide), ← ha]
    have eS : moveS F s x = if s.mv.getD a 0 = 0 then ⟨s.T.add (F.ws.getD a 0) (objOf F a), s.mv.set a (s.T.ws.length + 1)⟩ else s := by unfold moveS; rw [if_neg (by rw [hb]; decide), ← ha]
    by_cases h0 : s.mv.getD a 0 = 0
    · rw [if_pos h0] at eV eS
      rw [eS] at hI ⊢
      rw [eV]
      have hl := h.inv.tok.len
      have ha' : a < s.mv.length := by rw [h.inv.len]; exact q3
      obtain ⟨ol1, ol2⟩ := obj_len hF.toOk q3 q4
      have mono : ∀ {y}, fitsB s.T y = true → fitsB (s.T.add (F.ws.getD a 0) (objOf F a)) y = true := fun hy => fits_mono (m := s.T) (fun j hj => by simp only [Hm.add]; exact getD_app_l _ _ _ _ (by omega)) (by simp [Hm.add]) hy
      have stN : (s.T.add (F.ws.getD a 0) (objOf F a)).st.getD s.T.ws.length false = true := by
        simp only [Hm.add]
        rw [← hl, show s.T.st.length = s.T.st.length + 0 from rfl, getD_app_r]; rfl
      have lenN : s.T.ws.length < (s.T.add (F.ws.getD a 0) (objOf F a)).ws.length := by simp [Hm.add]
      refine ⟨⟨hI, tight_add h.inv.tok h.tight ol1.symm, fun b hb2 hne => ?_, fun p hp hpl hst => ?_, fun p hp hpl hst => ?_⟩, fun _ => fits_of_find (find_two hI.tok lenN stN)⟩
      · by_cases hba : b = a
        · subst hba
          refine ⟨s.T.ws.length, ?_, lenN, stN⟩
          show (s.mv.set b _).getD b 0 = _
          rw [getD_set_same _ _ _ ha']
        · have e : (s.mv.set a ((s.T.ws.length : Int) + 1)).getD b 0 = s.mv.getD b 0 := getD_set_ne _ _ _ _ hba
          have hne2 : s.mv.getD b 0 ≠ 0 := by rw [← e]; exact hne
          obtain ⟨k, k1, k2, k3⟩ := h.mvs b hb2 hne2
          refine ⟨k, e.trans k1, by simp [Hm.add]; omega, ?_⟩
          simp only [Hm.add]; rw [getD_app_l _ _ _ _ (by omega)]; exact k3
      · have hp2 : p < s.T.ws.length := by omega
        simp only [Hm.add] at hst ⊢
        rw [getD_app_l _ _ _ _ (by omega)] at hst
        rw [getD_app_l _ _ _ _ hp2]
        exact mono (h.done p hp hp2 hst)
      · simp only [Hm.add, List.length_append, List.length_cons] at hst hpl ⊢
        rcases Nat.lt_trichotomy p s.T.ws.length with h1 | h1 | h1
        · rw [getD_app_l _ _ _ _ (by omega)] at hst
          rw [getD_app_l _ _ _ _ h1]
          exact h.todo p hp h1 hst
        · subst h1
          rw [show (s.T.st ++ true :: List.replicate (objOf F a).length false).getD s.T.ws.length false = true from stN] at hst
          cases hst
        · obtain ⟨d, hd⟩ : ∃ d, p = s.T.ws.length + (d + 1) := ⟨p - s.T.ws.length - 1, by omega⟩
          rw [hd, getD_app_r, List.getD_cons_succ]
          have hdl : d < (objOf F a).length := by omega
          obtain ⟨o1, o2⟩ := objOf_mem hdl
          rw [o2]
          refine hF.fit _ o1 ((hF.snd a q3 q4).2.2 _ (by omega) ?_)
          have := ol1; omega
    · rw [if_neg h0] at eV eS
      rw [eS, eV]
      refine ⟨h, fun _ => ?_⟩
      obtain ⟨k, k1, k2, k3⟩ := h.mvs a q3 h0
      rw [k1, show ((k : Int) + 1 - 1) * 2 = (k : Int) * 2 by omega]
      exact fits_of_find (find_two h.inv.tok k2 k3)
theorem gd_scan {F : Hm} (hF : Full F) {s : CS} {i : Nat} (h : Gd F s i) (hi : i < s.T.ws.length) : Gd F (scanS F s i) (i + 1) := by
  have hI := cinv_scan hF.toOk h.inv hi
  unfold scanS at hI ⊢
  by_cases hst : s.T.st.getD i false = true
  · rw [if_pos hst]
    refine ⟨h.inv, h.tight, h.mvs, fun p hp hpl hs => ?_, fun p hp => h.todo p (by omega)⟩
    by_cases e : p = i
    · subst e; rw [hst] at hs; cases hs
    · exact h.done p (by omega) hpl hs
  · rw [if_neg hst] at hI ⊢
    have hst' : s.T.st.getD i false = false := by simpa using hst
    have hu : U64 (s.T.ws.getD i 0) := by rw [getD_at hi]; exact h.inv.tok.wf _ (List.getElem_mem hi)
    obtain ⟨g, hfit⟩ := gd_move hF h (by omega) _ hu
    obtain ⟨m1, m2, m3⟩ := moveS_st (F := F) (s.T.ws.getD i 0) h.inv.tok.len hi
    have hv := hfit (h.todo i (Nat.le_refl _) hi hst')
    obtain ⟨S, hS⟩ : ∃ S, S = moveS F s (s.T.ws.getD i 0) := ⟨_, rfl⟩
    obtain ⟨v, hv2⟩ : ∃ v, v = moveV F s (s.T.ws.getD i 0) := ⟨_, rfl⟩
    rw [← hS] at g m1 m2 m3 hI hv ⊢
    rw [← hv2] at hI hv ⊢
    have stI : S.T.st.getD i false = false := m1.trans hst'
    refine ⟨hI, ⟨?_, fun a ha hs => ?_⟩, fun a ha hne => ?_, fun p hp hpl hs => ?_, fun p hp hpl hs => ?_⟩
    · simp only [Hm.setW, List.length_set]; exact g.tight.zero
    · simp only [Hm.setW, List.length_set] at ha hs ⊢
      have hne : a ≠ i := fun e => by rw [e, stI] at hs; cases hs
      have e : szN (S.T.ws.set i v) a = szN S.T.ws a := by unfold szN; rw [getD_set_ne _ _ _ _ hne]
      rw [e]; exact g.tight.next a ha hs
    · obtain ⟨k, k1, k2, k3⟩ := g.mvs a ha hne
      exact ⟨k, k1, by simpa [Hm.setW] using k2, k3⟩
    · simp only [Hm.setW, List.length_set] at hpl hs ⊢
      by_cases e : p = i
      · subst e
        rw [getD_set_same _ _ _ hpl]
        exact fits_mono (m := S.T) (m' := S.T.setW p v) (fun _ _ => rfl) (by simp [Hm.setW]) hv
      · rw [getD_set_ne _ _ _ _ e]
        exact fits_mono (m := S.T) (m' := S.T.setW i v) (fun _ _ => rfl) (by simp [Hm.setW]) (g.done p (by omega) hpl hs)
    · simp only [Hm.setW, List.length_set] at hpl hs ⊢
      rw [getD_set_ne _ _ _ _ (by omega)]
      exact g.todo p (by omega) hpl hs
theorem gd_s0 {F : Hm} (hF : Full F) : Gd F (s0 F) 0 := by
  refine ⟨cinv_s0 hF.toOk, ⟨.inl rfl, fun a ha => by simp [s0] at ha⟩, fun a ha hne => ?_, fun p hp => by omega, fun p _ hp => by simp [s0] at hp⟩
  exfalso; apply hne
  simp only [s0]
  rw [List.getD_eq_getElem?_getD, List.getElem?_replicate]; split <;> rfl
theorem gd_roots {F : Hm} (hF : Full F) {s : CS} (h : Gd F s 0) (xs : List Int) (hx : ∀ x ∈ xs, U64 x) : Gd F (rootsF F s xs).1 0 := by
  have : ∀ (xs : List Int) (p : CS × List Int), (∀ x ∈ xs, U64 x) → Gd F p.1 0 → Gd F (xs.foldl (rootStep F) p).1 0 := by
    intro xs
    induction xs with
    | nil => intro p _ h1; exact h1
    | cons x xs ih =>
      intro p hx h1
      rw [List.foldl_cons]
      exact ih _ (fun y hy => hx y (by simp [hy])) (gd_move hF h1 (Nat.zero_le _) x (hx x (by simp))).1
  exact this xs (s, []) hx h
theorem gd_scanF {F : Hm} (hF : Full F) : ∀ (n i : Nat) (s : CS), Gd F s i → i ≤ s.T.ws.length → F.ws.length ≤ n + i → Gd F (scanF F n i s) (scanF F n i s).T.ws.length
  | 0, i, s, h, h1, h2 => by
    have hle := scan_len hF.toOk h.inv
    have e : i = s.T.ws.length := by omega
    show Gd F s s.T.ws.length
    rw [← e]; exact h
  | n + 1, i, s, h, h1, h2 => by
    show Gd F (if i < s.T.ws.length then scanF F n (i + 1) (scanS F s i) else s) (if i < s.T.ws.length then scanF F n (i + 1) (scanS F s i) else s).T.ws.length
    by_cases hlt : i < s.T.ws.length
    · rw [if_pos hlt]
      refine gd_scanF hF n (i + 1) _ (gd_scan hF h hlt) ?_ (by omega)
      unfold scanS
      split
      · omega
      · have := (moveS_st (F := F) (s.T.ws.getD i 0) h.inv.tok.len hlt).2.2
        simp only [Hm.setW, List.length_set]; omega
    · rw [if_neg hlt]
      have e : i = s.T.ws.length := by omega
      rw [← e]; exact h
theorem gd_col {F : Hm} (hF : Full F) {xs : List Int} (hx : ∀ x ∈ xs, U64 x) : Gd F (colS F xs) (colS F xs).T.ws.length :=
  gd_scanF hF _ _ _ (gd_roots hF (gd_s0 hF) xs hx) (Nat.zero_le _) (by omega)
theorem full_col {F : Hm} (hF : Full F) {xs : List Int} (hx : ∀ x ∈ xs, U64 x) : Full (colM F xs) := by
  have g := gd_col hF hx
  exact ⟨colM_ok hF.toOk hx, g.tight, fun i hi hst => fits_mono (m := (colS F xs).T) (m' := colM F xs) (fun _ _ => rfl) (Nat.le_refl _) (g.done i hi hi hst)⟩
end Go.Proofs.Ytknpgmbniohcnaa
