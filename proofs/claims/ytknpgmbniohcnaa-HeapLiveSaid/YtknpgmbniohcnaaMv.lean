import Derived.Test.YtknpgmbniohcnaaMake
namespace Go.Proofs.Ytknpgmbniohcnaa
open Go.ChangeShapes Go.WideShapes Go.ChangeAt Go.RowKit
set_option linter.unusedVariables false
/-- what a copy costs: an object's words. -/
def cost (F : Hm) (a : Nat) : Nat := if F.st.getD a false = true then 1 + (splS (F.ws.getD a 0)).toNat else 0
def sumN (f : Nat → Nat) : Nat → Nat
  | 0 => 0
  | n + 1 => sumN f n + f n
theorem sumN_le {f g : Nat → Nat} : ∀ n, (∀ a, a < n → f a ≤ g a) → sumN f n ≤ sumN g n
  | 0, _ => Nat.le_refl _
  | n + 1, h => Nat.add_le_add (sumN_le n fun a ha => h a (by omega)) (h n (by omega))
theorem sumN_eq {f g : Nat → Nat} : ∀ n, (∀ a, a < n → f a = g a) → sumN f n = sumN g n
  | 0, _ => rfl
  | n + 1, h => by unfold sumN; rw [sumN_eq n fun a ha => h a (by omega), h n (by omega)]
theorem sumN_one {f g : Nat → Nat} {b c : Nat} : ∀ n, b < n → (∀ a, a < n → a ≠ b → f a = g a) → f b = g b + c → sumN f n = sumN g n + c
  | 0, h, _, _ => by omega
  | n + 1, h, he, hb => by
    unfold sumN
    by_cases hbn : b = n
    · subst hbn
      rw [sumN_eq b fun a ha => he a (by omega) (by omega), hb]; omega
    · rw [sumN_one n (by omega) (fun a ha hne => he a (by omega) hne) hb, he n (by omega) (fun e => hbn e.symm)]; omega
theorem sumN_split (f : Nat → Nat) (n : Nat) : ∀ k, sumN f (n + k) = sumN f n + sumN (fun i => f (n + i)) k
  | 0 => rfl
  | k + 1 => by show sumN f (n + k) + f (n + k) = sumN f n + (sumN (fun i => f (n + i)) k + f (n + k)); rw [sumN_split f n k]; omega
theorem sumN_zero : ∀ n, sumN (fun _ => 0) n = 0
  | 0 => rfl
  | n + 1 => by show sumN (fun _ => 0) n + 0 = 0; rw [sumN_zero n]
theorem total_from {F : Hm} (ok : F.Ok) : ∀ (d a : Nat), a + d = F.ws.length → sumN (fun i => cost F (a + i)) d ≤ d := by
  intro d
  induction d using Nat.strongRecOn with
  | _ d ih =>
  intro a had
  cases d with
  | zero => exact Nat.le_refl _
  | succ d =>
    by_cases hst : F.st.getD a false = true
    · obtain ⟨_, h2, h3⟩ := ok.snd a (by omega) hst
      obtain ⟨s, hs⟩ : ∃ s, s = (splS (F.ws.getD a 0)).toNat := ⟨_, rfl⟩
      rw [← hs] at h2 h3
      have e : d + 1 = (1 + s) + (d - s) := by omega
      rw [e, sumN_split]
      have h4 : sumN (fun i => cost F (a + i)) (1 + s) = 1 + s := by
        rw [sumN_split]
        have h5 : sumN (fun i => (fun i => cost F (a + i)) (1 + i)) s = 0 := by
          have : sumN (fun i => (fun i => cost F (a + i)) (1 + i)) s = sumN (fun _ => 0) s := sumN_eq s fun i hi => by
            show cost F (a + (1 + i)) = 0
            unfold cost
            rw [h3 _ (by omega) (by omega)]; rfl
          rw [this, sumN_zero]
        rw [h5]
        show 0 + cost F a + 0 = _
        unfold cost
        rw [if_pos hst, ← hs]; omega
      have h6 := ih (d - s) (by omega) (a + (1 + s)) (by omega)
      have h7 : sumN (fun i => (fun i => cost F (a + i)) (1 + s + i)) (d - s) = sumN (fun i => cost F (a + (1 + s) + i)) (d - s) := sumN_eq _ fun i _ => by
        show cost F (a + (1 + s + i)) = cost F (a + (1 + s) + i)
        rw [Nat.add_assoc a (1 + s) i]
      rw [h4, h7]; omega
    · have e : d + 1 = 1 + d := by omega
      rw [e, sumN_split]
      have h6 := ih d (by omega) (a + 1) (by omega)
      have h7 : sumN (fun i => (fun i => cost F (a + i)) (1 + i)) d = sumN (fun i => cost F (a + 1 + i)) d := sumN_eq _ fun i _ => by
        show cost F (a + (1 + i)) = cost F (a + 1 + i)
        rw [Nat.add_assoc a 1 i]
      have h8 : sumN (fun i => cost F (a + i)) 1 = 0 := by
        show 0 + cost F a = 0
        unfold cost; rw [if_neg hst]
      rw [h7, h8]; omega
/-- how much has been copied. -/
def usedN (F : Hm) (mv : List Int) : Nat := sumN (fun a => if mv.getD a 0 = 0 then 0 else cost F a) F.ws.length
theorem used_le {F : Hm} (ok : F.Ok) (mv : List Int) : usedN F mv ≤ F.ws.length := by
  have h1 : usedN F mv ≤ sumN (fun a => cost F (0 + a)) F.ws.length := sumN_le _ fun a _ => by
    show (if mv.getD a 0 = 0 then 0 else cost F a) ≤ cost F (0 + a)
    rw [Nat.zero_add]; split <;> omega
  exact Nat.le_trans h1 (total_from ok _ 0 (by omega))
theorem getD_set_same (l : List Int) (a : Nat) (v : Int) (h : a < l.length) : (l.set a v).getD a 0 = v := by simp [List.getD, h]
theorem getD_set_ne (l : List Int) (a b : Nat) (v : Int) (h : b ≠ a) : (l.set a v).getD b 0 = l.getD b 0 := by simp [List.getD, List.getElem?_set_ne (Ne.symm h)]
theorem used_set {F : Hm} {mv : List Int} {a : Nat} {v : Int} (ha : a < F.ws.length) (hl : mv.length = F.ws.length) (h0 : mv.getD a 0 = 0) (hv : v ≠ 0) : usedN F (mv.set a v) = usedN F mv + cost F a := by
  unfold usedN
  refine sumN_one _ ha (fun b hb hne => ?_) ?_
  · show (if (mv.set a v).getD b 0 = 0 then 0 else cost F b) = _
    rw [getD_set_ne _ _ _ _ hne]
  · show (if (mv.set a v).getD a 0 = 0 then 0 else cost F a) = (if mv.getD a 0 = 0 then 0 else cost F a) + cost F a
    rw [getD_set_same _ _ _ (by omega), if_neg hv, if_pos h0, Nat.zero_add]
structure CS where
  T : Hm
  mv : List Int
def objOf (F : Hm) (a : Nat) : List Int := (F.ws.drop (a + 1)).take (splS (F.ws.getD a 0)).toNat
def moveV (F : Hm) (s : CS) (w : Int) : Int := if findB F w = false then w else if s.mv.getD (atV w).toNat 0 = 0 then (s.T.ws.length : Int) * 2 else (s.mv.getD (atV w).toNat 0 - 1) * 2
def moveS (F : Hm) (s : CS) (w : Int) : CS := if findB F w = false then s else if s.mv.getD (atV w).toNat 0 = 0 then ⟨s.T.add (F.ws.getD (atV w).toNat 0) (objOf F (atV w).toNat), s.mv.set (atV w).toNat (s.T.ws.length + 1)⟩ else s
structure CInv (F : Hm) (s : CS) : Prop where
  tok : s.T.Ok
  len : s.mv.length = F.ws.length
  rng : ∀ v ∈ s.mv, 0 ≤ v ∧ v ≤ 65536
  used : usedN F s.mv = s.T.ws.length
theorem obj_len {F : Hm} (ok : F.Ok) {a : Nat} (ha : a < F.ws.length) (hst : F.st.getD a false = true) : ((objOf F a).length : Int) = splS (F.ws.getD a 0) ∧ cost F a = 1 + (objOf F a).length := by
  obtain ⟨_, h2, _⟩ := ok.snd a ha hst
  have hnn := splS_nn (ok.wf _ (List.getElem_mem ha)).1
  rw [← getD_at ha] at hnn
  have hl : (objOf F a).length = (splS (F.ws.getD a 0)).toNat := by
    unfold objOf; rw [List.length_take, List.length_drop]; omega
  refine ⟨by omega, ?_⟩
  unfold cost; rw [if_pos hst, hl]
theorem cinv_move {F : Hm} (ok : F.Ok) {s : CS} (h : CInv F s) (w : Int) (hw : U64 w) : CInv F (moveS F s w) ∧ (findB F w = true → s.mv.getD (atV w).toNat 0 = 0 → s.T.ws.length + (objOf F (atV w).toNat).length + 1 ≤ F.ws.length) := by
  unfold moveS
  cases hb : findB F w
  · rw [if_pos rfl]; exact ⟨h, fun h => by cases h⟩
  · rw [if_neg (by decide)]
    obtain ⟨h1, h2, h3, h4⟩ := findB_lt hb
    obtain ⟨a, ha⟩ : ∃ a, a = (atV w).toNat := ⟨_, rfl⟩
    rw [← ha] at h3 h4 ⊢
    by_cases h0 : s.mv.getD a 0 = 0
    · rw [if_pos h0]
      obtain ⟨h5, h6⟩ := obj_len ok h3 h4
      obtain ⟨h7, h8, h9⟩ := ok.snd a h3 h4
      have hu := used_set (F := F) (mv := s.mv) (a := a) (v := s.T.ws.length + 1) h3 h.len h0 (by omega)
      have hle := used_le ok (s.mv.set a (s.T.ws.length + 1))
      rw [hu, h.used, h6] at hle
      have hlt := ok.lt
      have hwf : ∀ x ∈ objOf F a, U64 x := fun x hx => ok.wf x (List.mem_of_mem_drop (List.mem_of_mem_take hx))
      refine ⟨⟨add_ok h.tok (by rw [getD_at h3]; exact ok.wf _ (List.getElem_mem h3)) hwf h7 h5.symm (by omega), by rw [List.length_set]; exact h.len, fun v hv => ?_, ?_⟩, fun _ _ => by omega⟩
      · rcases List.mem_or_eq_of_mem_set hv with h | h'
        · exact CInv.rng ‹_› v h
        · subst h'; have := h.tok.lt; omega
      · rw [hu, h.used, h6]
        simp only [Hm.add, List.length_append, List.length_cons]; omega
    · rw [if_neg h0]; exact ⟨h, fun _ h => absurd h h0⟩
end Go.Proofs.Ytknpgmbniohcnaa
