import Derived.Test.YtknpgmbniohcnaaFc
namespace Go.Proofs.Ytknpgmbniohcnaa
open Go.ChangeShapes Go.WideShapes Go.ChangeAt Go.RowKit
set_option linter.unusedVariables false
/-- a word as it is in the new heap. -/
def fwd (F : Hm) (mv : List Int) (x : Int) : Int := if findB F x = true then (mv.getD (atV x).toNat 0 - 1) * 2 else x
/-- a collection on its way: what lies where; P: what holds of all that is copied. -/
structure Lv (F : Hm) (P : Nat → Prop) (s : CS) (i : Nat) : Prop where
  gd : Gd F s i
  src : ∀ a (k : Nat), a < F.ws.length → s.mv.getD a 0 = (k : Int) + 1 → F.st.getD a false = true ∧ k < s.T.ws.length ∧ s.T.st.getD k false = true ∧ s.T.ws.getD k 0 = F.ws.getD a 0 ∧ P a
  old : ∀ a (k j : Nat), a < F.ws.length → s.mv.getD a 0 = (k : Int) + 1 → j < szN F.ws a → i ≤ k + 1 + j → s.T.ws.getD (k + 1 + j) 0 = F.ws.getD (a + 1 + j) 0
  new : ∀ a (k j : Nat), a < F.ws.length → s.mv.getD a 0 = (k : Int) + 1 → j < szN F.ws a → k + 1 + j < i → s.T.ws.getD (k + 1 + j) 0 = fwd F s.mv (F.ws.getD (a + 1 + j) 0) ∧ (findB F (F.ws.getD (a + 1 + j) 0) = true → s.mv.getD (atV (F.ws.getD (a + 1 + j) 0)).toNat 0 ≠ 0)
  cov : ∀ p, p < s.T.ws.length → s.T.st.getD p false = false → ∃ a k j : Nat, a < F.ws.length ∧ s.mv.getD a 0 = (k : Int) + 1 ∧ j < szN F.ws a ∧ p = k + 1 + j
theorem fwd_keep {F : Hm} {mv mv' : List Int} {x : Int} (h : findB F x = true → mv.getD (atV x).toNat 0 ≠ 0) (hm : ∀ a, mv.getD a 0 ≠ 0 → mv'.getD a 0 = mv.getD a 0) : fwd F mv' x = fwd F mv x := by
  unfold fwd
  by_cases hb : findB F x = true
  · rw [if_pos hb, if_pos hb, hm _ (h hb)]
  · rw [if_neg hb, if_neg hb]
theorem move_keep {F : Hm} {s : CS} (x : Int) (hl : s.mv.length = F.ws.length) : ∀ a, s.mv.getD a 0 ≠ 0 → (moveS F s x).mv.getD a 0 = s.mv.getD a 0 := by
  intro a ha
  unfold moveS
  split
  · rfl
  · split
    · rename_i h0
      exact getD_set_ne _ _ _ _ (fun e => ha (by rw [e]; exact h0))
    · rfl
theorem lv_move {F : Hm} (hF : Full F) {P : Nat → Prop} {s : CS} {i : Nat} (h : Lv F P s i) (hi : i ≤ s.T.ws.length) (x : Int) (hx : U64 x) (hP : findB F x = true → P (atV x).toNat) :
    Lv F P (moveS F s x) i ∧ moveV F s x = fwd F (moveS F s x).mv x ∧ (findB F x = true → (moveS F s x).mv.getD (atV x).toNat 0 ≠ 0) := by
  have hg := (gd_move hF h.gd hi x hx).1
  have hk := move_keep (F := F) (s := s) x h.gd.inv.len
  cases hb : findB F x
  · have e1 : moveS F s x = s := by unfold moveS; rw [if_pos hb]
    rw [e1]
    refine ⟨h, ?_, fun e => by cases e⟩
    unfold moveV fwd
    rw [if_pos hb, if_neg (by rw [hb]; decide)]
  · obtain ⟨q1, q2, q3, q4⟩ := findB_lt hb
    obtain ⟨a, ha⟩ : ∃ a, a = (atV x).toNat := ⟨_, rfl⟩
    have hPa := hP hb
    rw [← ha] at q3 q4 hPa ⊢
    have eV : moveV F s x = if s.mv.getD a 0 = 0 then (s.T.ws.length : Int) * 2 else (s.mv.getD a 0 - 1) * 2 := by unfold moveV; rw [if_neg (by rw [hb]; decide), ← ha]
    have eS : moveS F s x = if s.mv.getD a 0 = 0 then ⟨s.T.add (F.ws.getD a 0) (objOf F a), s.mv.set a (s.T.ws.length + 1)⟩ else s := by unfold moveS; rw [if_neg (by rw [hb]; decide), ← ha]
    have eF : fwd F (moveS F s x).mv x = ((moveS F s x).mv.getD a 0 - 1) * 2 := by unfold fwd; rw [if_pos hb, ← ha]
    rw [eF]
    by_cases h0 : s.mv.getD a 0 = 0
    · rw [if_pos h0] at eV eS
      rw [eS] at hg hk ⊢
      have ha' : a < s.mv.length := by rw [h.gd.inv.len]; exact q3
      have hl := h.gd.inv.tok.len
      have eA : (s.mv.set a ((s.T.ws.length : Int) + 1)).getD a 0 = (s.T.ws.length : Int) + 1 := getD_set_same _ _ _ ha'
      obtain ⟨ol1, ol2⟩ := obj_len hF.toOk q3 q4
      have osz : (objOf F a).length = szN F.ws a := by unfold szN; omega
      have lN : (s.T.add (F.ws.getD a 0) (objOf F a)).ws.length = s.T.ws.length + 1 + (objOf F a).length := by simp only [Hm.add, List.length_append, List.length_cons]; omega
      -- a copied object is an old one, or the one that is copied now
      have split : ∀ (b k : Nat), (s.mv.set a ((s.T.ws.length : Int) + 1)).getD b 0 = (k : Int) + 1 → (b = a ∧ k = s.T.ws.length) ∨ (b ≠ a ∧ s.mv.getD b 0 = (k : Int) + 1) := fun b k e => by
        by_cases hba : b = a
        · subst hba; rw [eA] at e; exact .inl ⟨rfl, by omega⟩
        · rw [getD_set_ne _ _ _ _ hba] at e; exact .inr ⟨hba, e⟩
      refine ⟨⟨hg, fun b k hb1 e => ?_, fun b k j hb1 e hj hij => ?_, fun b k j hb1 e hj hij => ?_, fun p hp hst => ?_⟩, by rw [eV]; show _ = ((s.mv.set a ((s.T.ws.length : Int) + 1)).getD a 0 - 1) * 2; rw [eA]; omega, fun _ => by show (s.mv.set a ((s.T.ws.length : Int) + 1)).getD a 0 ≠ 0; rw [eA]; omega⟩
      · rcases split b k e with ⟨rfl, rfl⟩ | ⟨hne, e2⟩
        · refine ⟨q4, by rw [lN]; omega, ?_, ?_, hPa⟩
          · simp only [Hm.add]
            rw [← hl, show s.T.st.length = s.T.st.length + 0 from rfl, getD_app_r]; rfl
          · simp only [Hm.add]
            rw [show s.T.ws.length = s.T.ws.length + 0 from rfl, getD_app_r]; rfl
        · obtain ⟨c1, c2, c3, c4, c5⟩ := h.src b k hb1 e2
          refine ⟨c1, by rw [lN]; omega, ?_, ?_, c5⟩
          · simp only [Hm.add]; rw [getD_app_l _ _ _ _ (by omega)]; exact c3
          · simp only [Hm.add]; rw [getD_app_l _ _ _ _ c2]; exact c4
      · rcases split b k e with ⟨rfl, rfl⟩ | ⟨hne, e2⟩
        · simp only [Hm.add]
          rw [show s.T.ws.length + 1 + j = s.T.ws.length + (j + 1) from by omega, getD_app_r, List.getD_cons_succ]
          exact (objOf_mem (by omega)).2
        · obtain ⟨c1, c2, c3, c4, c5⟩ := h.src b k hb1 e2
          have hs := h.gd.inv.tok.snd k c2 c3
          rw [c4] at hs
          have hlt : k + 1 + j < s.T.ws.length := by have := hs.2.1; unfold szN at hj; omega
          simp only [Hm.add]; rw [getD_app_l _ _ _ _ hlt]
          exact h.old b k j hb1 e2 hj hij
      · rcases split b k e with ⟨rfl, rfl⟩ | ⟨hne, e2⟩
        · omega
        · obtain ⟨n1, n2⟩ := h.new b k j hb1 e2 hj hij
          simp only [Hm.add]; rw [getD_app_l _ _ _ _ (by omega)]
          refine ⟨?_, fun hf => ?_⟩
          · rw [n1]; exact (fwd_keep n2 hk).symm
          · have z := n2 hf
            exact (hk _ z) ▸ z
      · by_cases hp2 : p < s.T.ws.length
        · have hst2 : s.T.st.getD p false = false := by
            simp only [Hm.add] at hst; rwa [getD_app_l _ _ _ _ (by omega)] at hst
          obtain ⟨b, k, j, c1, c2, c3, c4⟩ := h.cov p hp2 hst2
          exact ⟨b, k, j, c1, by rw [← c2]; exact hk b (by rw [c2]; omega), c3, c4⟩
        · have hpne : p ≠ s.T.ws.length := fun e => by
            rw [e] at hst
            simp only [Hm.add] at hst
            rw [← hl, show s.T.st.length = s.T.st.length + 0 from rfl, getD_app_r] at hst; cases hst
          rw [lN] at hp
          exact ⟨a, s.T.ws.length, p - s.T.ws.length - 1, q3, eA, by omega, by omega⟩
    · rw [if_neg h0] at eV eS
      rw [eS]
      exact ⟨h, eV, fun _ => h0⟩
/-- P holds of what an object refers to, if it holds of the object. -/
def Closed (F : Hm) (P : Nat → Prop) : Prop := ∀ a j : Nat, a < F.ws.length → F.st.getD a false = true → P a → j < szN F.ws a → findB F (F.ws.getD (a + 1 + j) 0) = true → P (atV (F.ws.getD (a + 1 + j) 0)).toNat
theorem obj_free {F : Hm} {P : Nat → Prop} {s : CS} {i a k j : Nat} (h : Lv F P s i) (ha : a < F.ws.length) (e : s.mv.getD a 0 = (k : Int) + 1) (hj : j < szN F.ws a) : k + 1 + j < s.T.ws.length ∧ s.T.st.getD (k + 1 + j) false = false := by
  obtain ⟨c1, c2, c3, c4, c5⟩ := h.src a k ha e
  have hs := h.gd.inv.tok.snd k c2 c3
  rw [c4] at hs
  unfold szN at hj
  exact ⟨by have := hs.2.1; omega, hs.2.2 _ (by omega) (by omega)⟩
theorem lv_scan {F : Hm} (hF : Full F) {P : Nat → Prop} (hC : Closed F P) {s : CS} {i : Nat} (h : Lv F P s i) (hi : i < s.T.ws.length) : Lv F P (scanS F s i) (i + 1) := by
  have hg := gd_scan hF h.gd hi
  cases hst : s.T.st.getD i false
  · -- a word
    obtain ⟨a0, k0, j0, z1, z2, z3, z4⟩ := h.cov i hi hst
    obtain ⟨y1, y2, y3, y4, y5⟩ := h.src a0 k0 z1 z2
    have hx0 : s.T.ws.getD i 0 = F.ws.getD (a0 + 1 + j0) 0 := by rw [z4]; exact h.old a0 k0 j0 z1 z2 z3 (by omega)
    have hu : U64 (s.T.ws.getD i 0) := by rw [getD_at hi]; exact h.gd.inv.tok.wf _ (List.getElem_mem hi)
    obtain ⟨x, hx⟩ : ∃ x, x = s.T.ws.getD i 0 := ⟨_, rfl⟩
    have eS : scanS F s i = ⟨(moveS F s x).T.setW i (moveV F s x), (moveS F s x).mv⟩ := by unfold scanS; rw [if_neg (by rw [hst]; decide), ← hx]
    rw [← hx] at hx0 hu
    obtain ⟨lm, e1, e2⟩ := lv_move hF h (by omega) x hu (fun hf => by
      rw [hx0] at hf ⊢
      exact hC a0 j0 z1 y1 y5 z3 hf)
    have hk := move_keep (F := F) (s := s) x h.gd.inv.len
    obtain ⟨m1, m2, m3⟩ := moveS_st (F := F) x h.gd.inv.tok.len hi
    have k0' : (moveS F s x).mv.getD a0 0 = (k0 : Int) + 1 := by rw [← z2]; exact hk a0 (by rw [z2]; omega)
    rw [eS] at hg ⊢
    obtain ⟨S, hS⟩ : ∃ S, S = moveS F s x := ⟨_, rfl⟩
    obtain ⟨v, hv⟩ : ∃ v, v = moveV F s x := ⟨_, rfl⟩
    rw [← hS] at lm e1 e2 m1 m2 m3 k0' hg ⊢
    rw [← hv] at e1 hg ⊢
    have iS : i < S.T.ws.length := by omega
    have stI : S.T.st.getD i false = false := m1.trans hst
    -- one position, one object
    have uniq : ∀ a k j : Nat, a < F.ws.length → S.mv.getD a 0 = (k : Int) + 1 → j < szN F.ws a → k + 1 + j = i → F.ws.getD (a + 1 + j) 0 = x := fun a k j ha e hj he => by
      have z := lm.old a k j ha e hj (by omega)
      rw [he, m2, ← hx] at z
      exact z.symm
    refine ⟨hg, fun a k ha e => ?_, fun a k j ha e hj hij => ?_, fun a k j ha e hj hij => ?_, fun p hp hs => ?_⟩
    · obtain ⟨c1, c2, c3, c4, c5⟩ := lm.src a k ha e
      refine ⟨c1, by simpa [Hm.setW] using c2, c3, ?_, c5⟩
      have hne : k ≠ i := fun e => by rw [e, stI] at c3; cases c3
      simp only [Hm.setW]; rw [getD_set_ne _ _ _ _ hne]; exact c4
    · simp only [Hm.setW]; rw [getD_set_ne _ _ _ _ (by omega)]
      exact lm.old a k j ha e hj (by omega)
    · simp only [Hm.setW]
      by_cases he : k + 1 + j = i
      · have hw := uniq a k j ha e hj he
        rw [he, getD_set_same _ _ _ iS, hw]
        exact ⟨e1, e2⟩
      · rw [getD_set_ne _ _ _ _ he]
        exact lm.new a k j ha e hj (by omega)
    · simp only [Hm.setW, List.length_set] at hp hs
      exact lm.cov p hp hs
  · have eS : scanS F s i = s := by unfold scanS; rw [if_pos hst]
    rw [eS] at hg ⊢
    refine ⟨hg, h.src, fun a k j ha e hj hij => h.old a k j ha e hj (by omega), fun a k j ha e hj hij => ?_, h.cov⟩
    have hf := (obj_free h ha e hj).2
    have hne : k + 1 + j ≠ i := fun e => by rw [e, hst] at hf; cases hf
    exact h.new a k j ha e hj (by omega)
theorem lv_s0 {F : Hm} (hF : Full F) (P : Nat → Prop) : Lv F P (s0 F) 0 := by
  have hz : ∀ a, (s0 F).mv.getD a 0 = 0 := fun a => by
    simp only [s0]
    rw [List.getD_eq_getElem?_getD, List.getElem?_replicate]; split <;> rfl
  refine ⟨gd_s0 hF, fun a k _ e => ?_, fun a k j _ e => ?_, fun a k j _ e => ?_, fun p hp => by simp [s0] at hp⟩
  all_goals (rw [hz] at e; omega)
theorem lv_roots {F : Hm} (hF : Full F) {P : Nat → Prop} (xs : List Int) (hx : ∀ x ∈ xs, U64 x) (hP : ∀ x ∈ xs, findB F x = true → P (atV x).toNat) :
    Lv F P (rootsF F (s0 F) xs).1 0 ∧ (rootsF F (s0 F) xs).2 = xs.map (fwd F (rootsF F (s0 F) xs).1.mv) ∧ ∀ x ∈ xs, findB F x = true → (rootsF F (s0 F) xs).1.mv.getD (atV x).toNat 0 ≠ 0 := by
  have : ∀ (xs ys : List Int) (p : CS × List Int), (∀ x ∈ xs, U64 x) → (∀ x ∈ xs, findB F x = true → P (atV x).toNat) → Lv F P p.1 0 → p.2 = ys.map (fwd F p.1.mv) → (∀ x ∈ ys, findB F x = true → p.1.mv.getD (atV x).toNat 0 ≠ 0) →
      Lv F P (xs.foldl (rootStep F) p).1 0 ∧ (xs.foldl (rootStep F) p).2 = (ys ++ xs).map (fwd F (xs.foldl (rootStep F) p).1.mv) ∧ ∀ x ∈ ys ++ xs, findB F x = true → (xs.foldl (rootStep F) p).1.mv.getD (atV x).toNat 0 ≠ 0 := by
    intro xs
    induction xs with
    | nil => intro ys p _ _ h1 h2 h3; simpa using ⟨h1, h2, h3⟩
    | cons x xs ih =>
      intro ys p hx hP h1 h2 h3
      obtain ⟨lm, e1, e2⟩ := lv_move hF h1 (Nat.zero_le _) x (hx x (by simp)) (hP x (by simp))
      have hk := move_keep (F := F) (s := p.1) x h1.gd.inv.len
      rw [List.foldl_cons, show ys ++ x :: xs = (ys ++ [x]) ++ xs from by simp]
      refine ih (ys ++ [x]) (rootStep F p x) (fun y hy => hx y (by simp [hy])) (fun y hy => hP y (by simp [hy])) lm ?_ (fun y hy hf => ?_)
      · show p.2 ++ [moveV F p.1 x] = _
        rw [List.map_append, h2, e1]
        show List.map (fwd F p.1.mv) ys ++ _ = List.map (fwd F (moveS F p.1 x).mv) ys ++ _
        rw [List.map_congr_left fun y hy => (fwd_keep (h3 y hy) hk).symm]
        rfl
      · simp only [List.mem_append, List.mem_singleton] at hy
        rcases hy with hy | rfl
        · have z := h3 y hy hf
          show (moveS F p.1 x).mv.getD _ 0 ≠ 0
          rw [hk _ z]; exact z
        · exact e2 hf
  have z := this xs [] (s0 F, []) hx hP (lv_s0 hF P) rfl (fun x hx => by cases hx)
  simpa [rootsF] using z
theorem scan_keep {F : Hm} (hF : Full F) : ∀ (n i : Nat) (s : CS), CInv F s → ∀ a, s.mv.getD a 0 ≠ 0 → (scanF F n i s).mv.getD a 0 = s.mv.getD a 0
  | 0, _, _, _, _, _ => rfl
  | n + 1, i, s, h, a, ha => by
    show (if i < s.T.ws.length then scanF F n (i + 1) (scanS F s i) else s).mv.getD a 0 = _
    split
    · rename_i hlt
      have h1 := cinv_scan hF.toOk h hlt
      have e : (scanS F s i).mv.getD a 0 = s.mv.getD a 0 := by
        unfold scanS
        split
        · rfl
        · exact move_keep _ h.len a ha
      rw [scan_keep hF n (i + 1) _ h1 a (by rw [e]; exact ha), e]
    · rfl
theorem lv_scanF {F : Hm} (hF : Full F) {P : Nat → Prop} (hC : Closed F P) : ∀ (n i : Nat) (s : CS), Lv F P s i → i ≤ s.T.ws.length → F.ws.length ≤ n + i → Lv F P (scanF F n i s) (scanF F n i s).T.ws.length
  | 0, i, s, h, h1, h2 => by
    have hle := scan_len hF.toOk h.gd.inv
    have e : i = s.T.ws.length := by omega
    show Lv F P s s.T.ws.length
    rw [← e]; exact h
  | n + 1, i, s, h, h1, h2 => by
    show Lv F P (if i < s.T.ws.length then scanF F n (i + 1) (scanS F s i) else s) (if i < s.T.ws.length then scanF F n (i + 1) (scanS F s i) else s).T.ws.length
    by_cases hlt : i < s.T.ws.length
    · rw [if_pos hlt]
      refine lv_scanF hF hC n (i + 1) _ (lv_scan hF hC h hlt) ?_ (by omega)
      unfold scanS
      split
      · omega
      · have := (moveS_st (F := F) (s.T.ws.getD i 0) h.gd.inv.tok.len hlt).2.2
        simp only [Hm.setW, List.length_set]; omega
    · rw [if_neg hlt]
      have e : i = s.T.ws.length := by omega
      rw [← e]; exact h
/-- the collection: roots and words are put forward by the same map; P holds of all that is copied. -/
theorem lv_col {F : Hm} (hF : Full F) {P : Nat → Prop} (hC : Closed F P) {xs : List Int} (hx : ∀ x ∈ xs, U64 x) (hP : ∀ x ∈ xs, findB F x = true → P (atV x).toNat) :
    Lv F P (colS F xs) (colS F xs).T.ws.length ∧ colR F xs = xs.map (fwd F (colS F xs).mv) ∧ ∀ x ∈ xs, findB F x = true → (colS F xs).mv.getD (atV x).toNat 0 ≠ 0 := by
  obtain ⟨h1, h2, h3⟩ := lv_roots hF xs hx hP
  have hk := scan_keep hF F.ws.length 0 _ h1.gd.inv
  refine ⟨lv_scanF hF hC _ _ _ h1 (Nat.zero_le _) (by omega), ?_, fun x hx2 hf => ?_⟩
  · unfold colR
    rw [h2]
    exact List.map_congr_left fun y hy => (fwd_keep (h3 y hy) hk).symm
  · have z := h3 x hx2 hf
    unfold colS
    rw [hk _ z]; exact z
end Go.Proofs.Ytknpgmbniohcnaa
