import Derived.Test.YtknpgmbniohcnaaLd
namespace Go.Proofs.Ytknpgmbniohcnaa
open Go.ChangeShapes Go.WideShapes Go.ChangeAt Go.RowKit
set_option linter.unusedVariables false
/-- a heap as the program keeps it: objects without gaps, whose references refer to objects. -/
structure Tight (ws : List Int) (st : List Bool) : Prop where
  zero : ws.length = 0 ∨ st.getD 0 false = true
  next : ∀ a, a < ws.length → st.getD a false = true → a + 1 + szN ws a = ws.length ∨ st.getD (a + 1 + szN ws a) false = true
structure Full (m : Hm) : Prop extends m.Ok where
  tight : Tight m.ws m.st
  fit : ∀ i, i < m.ws.length → m.st.getD i false = false → fitsB m (m.ws.getD i 0) = true
theorem full_emp {room : Int} (h0 : 0 ≤ room) (h1 : room ≤ 65536) : Full (emp room) := ⟨emp_ok h0 h1, ⟨.inl rfl, fun a ha => by simp [emp] at ha⟩, fun i hi => by simp [emp] at hi⟩
theorem getD_app_l {α : Type} (l r : List α) (d : α) (i : Nat) (h : i < l.length) : (l ++ r).getD i d = l.getD i d := by
  rw [List.getD_eq_getElem?_getD, List.getElem?_append_left h, ← List.getD_eq_getElem?_getD]
theorem getD_app_r {α : Type} (l r : List α) (d : α) (i : Nat) : (l ++ r).getD (l.length + i) d = r.getD i d := by
  rw [List.getD_eq_getElem?_getD, List.getElem?_append_right (by omega), ← List.getD_eq_getElem?_getD, Nat.add_sub_cancel_left]
theorem find_mono {m m' : Hm} (hs : ∀ i, i < m.ws.length → m'.st.getD i false = m.st.getD i false) (hl : m.ws.length ≤ m'.ws.length) {x : Int} (h : findB m x = true) : findB m' x = true := by
  obtain ⟨h1, h2, h3, h4⟩ := findB_lt h
  unfold findB
  rw [h1, decide_eq_true (show (atV x).toNat < m'.ws.length by omega), hs _ h3, h4]; rfl
theorem fits_mono {m m' : Hm} (hs : ∀ i, i < m.ws.length → m'.st.getD i false = m.st.getD i false) (hl : m.ws.length ≤ m'.ws.length) {x : Int} (h : fitsB m x = true) : fitsB m' x = true := by
  unfold fitsB at h ⊢
  rw [Bool.or_eq_true] at h ⊢
  exact h.imp id (find_mono hs hl)
theorem szN_app (l r : List Int) (a : Nat) (h : a < l.length) : szN (l ++ r) a = szN l a := by unfold szN; rw [getD_app_l _ _ _ _ h]
theorem tight_add {m : Hm} (ok : m.Ok) (h : Tight m.ws m.st) {head : Int} {xs : List Int} (hs : splS head = xs.length) : Tight (m.add head xs).ws (m.add head xs).st := by
  have hl := ok.len
  refine ⟨?_, fun a ha hst => ?_⟩
  · right
    rcases Nat.eq_zero_or_pos m.ws.length with h0 | h0
    · have e : m.st = [] := List.eq_nil_of_length_eq_zero (by omega)
      simp [Hm.add, e]
    · simp only [Hm.add]
      rw [getD_app_l _ _ _ _ (by omega)]
      exact h.zero.resolve_left (by omega)
  · simp only [Hm.add, List.length_append, List.length_cons] at ha hst ⊢
    rcases Nat.lt_trichotomy a m.ws.length with h1 | h1 | h1
    · rw [getD_app_l _ _ _ _ (by omega)] at hst
      rw [szN_app _ _ _ h1]
      rcases h.next a h1 hst with h2 | h2
      · right
        rw [h2, ← hl, show m.st.length = m.st.length + 0 from rfl, getD_app_r]; rfl
      · right
        have h3 := ok.snd a h1 hst
        by_cases h4 : a + 1 + szN m.ws a < m.st.length
        · rw [getD_app_l _ _ _ _ h4]; exact h2
        · rw [List.getD_eq_getElem?_getD, List.getElem?_eq_none (by omega)] at h2; cases h2
    · left
      subst h1
      have e : szN (m.ws ++ head :: xs) m.ws.length = xs.length := by
        unfold szN
        rw [show m.ws.length = m.ws.length + 0 from rfl, getD_app_r]
        simp [hs]
      rw [e]; omega
    · obtain ⟨d, hd⟩ : ∃ d, a = m.st.length + (d + 1) := ⟨a - m.ws.length - 1, by omega⟩
      rw [hd, getD_app_r, List.getD_cons_succ, List.getD_eq_getElem?_getD, List.getElem?_replicate] at hst
      split at hst <;> simp at hst
theorem full_add {m : Hm} (h : Full m) {head : Int} {xs : List Int} (hok : (m.add head xs).Ok) (hs : splS head = xs.length) (hx : ∀ x ∈ xs, fitsB m x = true) : Full (m.add head xs) := by
  have hl := h.len
  have mono : ∀ {x}, fitsB m x = true → fitsB (m.add head xs) x = true := fun hf => fits_mono (fun i hi => by simp only [Hm.add]; exact getD_app_l _ _ _ _ (by omega)) (by simp [Hm.add]) hf
  refine ⟨hok, tight_add h.toOk h.tight hs, fun i hi hst => ?_⟩
  simp only [Hm.add, List.length_append, List.length_cons] at hi
  rcases Nat.lt_trichotomy i m.ws.length with h1 | h1 | h1
  · have e1 : (m.add head xs).st.getD i false = m.st.getD i false := getD_app_l _ _ _ _ (by omega)
    have e2 : (m.add head xs).ws.getD i 0 = m.ws.getD i 0 := getD_app_l _ _ _ _ h1
    rw [e1] at hst
    rw [e2]
    exact mono (h.fit i h1 hst)
  · subst h1
    have e1 : (m.add head xs).st.getD m.ws.length false = true := by
      simp only [Hm.add]
      rw [← hl, show m.st.length = m.st.length + 0 from rfl, getD_app_r]; rfl
    rw [e1] at hst; cases hst
  · obtain ⟨d, hd⟩ : ∃ d, i = m.ws.length + (d + 1) := ⟨i - m.ws.length - 1, by omega⟩
    have e2 : (m.add head xs).ws.getD i 0 = xs.getD d 0 := by simp only [Hm.add]; rw [hd, getD_app_r, List.getD_cons_succ]
    rw [e2]
    have hdl : d < xs.length := by omega
    rw [getD_at hdl]
    exact mono (hx _ (List.getElem_mem hdl))
theorem full_make {m : Hm} (h : Full m) {k t : Int} {xs : List Int} (hx : ∀ x ∈ xs, U64 x) : Full (makeM m k t xs) := by
  unfold makeM
  by_cases he : makeE m k t xs = 0
  · rw [if_pos he]
    have h1 : headB k t xs.length = true := by
      cases hb : headB k t xs.length
      · unfold makeE at he; rw [if_pos hb] at he; cases he
      · rfl
    have h2 : xs.all (fitsB m) = true := by
      cases hb : xs.all (fitsB m)
      · unfold makeE at he; rw [if_neg (by rw [h1]; decide), if_pos hb] at he; cases he
      · rfl
    have h3 : ¬ m.room < m.ws.length + xs.length + 1 := by
      intro h3
      unfold makeE at he; rw [if_neg (by rw [h1]; decide), if_neg (by rw [h2]; decide), if_pos h3] at he; cases he
    obtain ⟨hu, hok, hsz, _, _⟩ := headV_ok h1
    have := h.r1
    exact full_add h (add_ok h.toOk hu hx hok hsz (by omega)) hsz (fun x hx => List.all_eq_true.1 h2 x hx)
  · rw [if_neg he]; exact h
theorem make_room (m : Hm) (k t : Int) (xs : List Int) : (makeM m k t xs).room = m.room ∧ (makeM m k t xs).turns = m.turns := by
  unfold makeM; split <;> exact ⟨rfl, rfl⟩
theorem make_len {m : Hm} {k t : Int} {xs : List Int} (h : (m.ws.length : Int) ≤ m.room) : ((makeM m k t xs).ws.length : Int) ≤ (makeM m k t xs).room := by
  rw [(make_room m k t xs).1]
  unfold makeM
  split
  · rename_i he
    have h3 : ¬ m.room < m.ws.length + xs.length + 1 := by
      intro h3
      unfold makeE at he
      rw [if_pos h3] at he
      split at he
      · cases he
      · split at he <;> cases he
    simp only [Hm.add, List.length_append, List.length_cons]; omega
  · exact h
/-- what is loaded of a heap's bytes is that heap. -/
def allM (m : Hm) : List Int := m.room :: m.turns :: m.ws
theorem enc_all (m : Hm) : encM m = (allM m).flatMap put8 := by simp [encM, allM]
theorem drop_enc (L : List Int) : ∀ i, (L.flatMap put8).drop (i * 8) = (L.drop i).flatMap put8 := by
  induction L with
  | nil => intro i; simp
  | cons a t ih =>
    intro i
    cases i with
    | zero => simp
    | succ i =>
      rw [List.flatMap_cons, List.drop_succ_cons, ← ih i, List.drop_append, put8_len, List.drop_eq_nil_of_le (by rw [put8_len]; omega), List.nil_append]
      congr 1; omega
theorem dec_enc {L : List Int} (hu : ∀ x ∈ L, U64 x) {i : Nat} (hi : i < L.length) : decAt (L.flatMap put8) i = L[i] := by
  unfold decAt
  rw [drop_enc, List.drop_eq_getElem_cons hi, List.flatMap_cons, List.take_left' (put8_len _)]
  exact dec_put8 (hu _ (List.getElem_mem hi))
theorem enc_byte {L : List Int} (hu : ∀ x ∈ L, U64 x) : ∀ y ∈ L.flatMap put8, Byte y := by
  intro y hy
  rw [List.mem_flatMap] at hy
  obtain ⟨x, hx, hy⟩ := hy
  exact put8_byte (hu x hx) y hy
theorem all_u64 {m : Hm} (ok : m.Ok) : ∀ x ∈ allM m, U64 x := by
  intro x hx
  have h0 := ok.r0; have h1 := ok.r1; have h2 := ok.t0; have h3 := ok.t1
  simp only [allM, List.mem_cons] at hx
  rcases hx with rfl | rfl | hx
  · exact ⟨by omega, by omega⟩
  · exact ⟨by omega, by omega⟩
  · exact ok.wf x hx
theorem encM_len (m : Hm) : (encM m).length = 8 * (m.ws.length + 2) := by rw [enc_all, enc_len]; simp [allM]
theorem wsOf_enc {m : Hm} (ok : m.Ok) : wsOf (encM m) = m.ws := by
  have hl : (encM m).length / 8 - 2 = m.ws.length := by rw [encM_len]; omega
  unfold wsOf
  rw [hl]
  refine List.ext_getElem (by simp) fun i h1 h2 => ?_
  rw [List.getElem_map, List.getElem_range, enc_all, dec_enc (all_u64 ok) (by simp only [allM, List.length_cons]; omega)]
  rfl
def upTo (st : List Bool) (a : Nat) : List Bool := st.take a ++ List.replicate (st.length - a) false
theorem upTo_get (st : List Bool) (a j : Nat) : (upTo st a).getD j false = (decide (j < a) && st.getD j false) := by
  unfold upTo
  by_cases h : j < a
  · rw [decide_eq_true h, Bool.true_and]
    by_cases h2 : j < st.length
    · rw [getD_app_l _ _ _ _ (by rw [List.length_take]; omega)]
      rw [List.getD_eq_getElem?_getD, List.getElem?_take_of_lt h, ← List.getD_eq_getElem?_getD]
    · rw [List.getD_eq_getElem?_getD, List.getElem?_eq_none (by simp; omega), List.getD_eq_getElem?_getD, List.getElem?_eq_none (by omega)]
  · rw [decide_eq_false h, Bool.false_and]
    by_cases h2 : j < st.length
    · rw [List.getD_eq_getElem?_getD, List.getElem?_append_right (by rw [List.length_take]; omega), List.getElem?_replicate]; split <;> rfl
    · rw [List.getD_eq_getElem?_getD, List.getElem?_eq_none (by simp; omega)]; rfl
theorem upTo_len (st : List Bool) (a : Nat) (h : a ≤ st.length) : (upTo st a).length = st.length := by unfold upTo; simp; omega
theorem bool_ext {l r : List Bool} (hl : l.length = r.length) (h : ∀ j, j < l.length → l.getD j false = r.getD j false) : l = r := by
  refine List.ext_getElem hl fun j h1 h2 => ?_
  have := h j h1
  simpa [List.getD, List.getElem?_eq_getElem h1, List.getElem?_eq_getElem h2] using this
theorem sound_upTo {m : Hm} (h : Full m) : ∀ (n a : Nat), a ≤ m.ws.length → m.ws.length - a ≤ n → (a = m.ws.length ∨ m.st.getD a false = true) → soundS m.ws n a (upTo m.st a) = some m.st
  | 0, a, ha, hn, _ => by
    have e : a = m.st.length := by have := h.len; omega
    show some (upTo m.st a) = some m.st
    rw [e]; simp [upTo]
  | n + 1, a, ha, hn, hs => by
    show (if a < m.ws.length then (if goodAt m.ws a = true then soundS m.ws n (a + (szN m.ws a + 1)) ((upTo m.st a).set a true) else none) else some (upTo m.st a)) = _
    by_cases hlt : a < m.ws.length
    · rw [if_pos hlt]
      have hst := hs.resolve_left (by omega)
      obtain ⟨h1, h2, h3⟩ := h.snd a hlt hst
      have h2' : a + 1 + szN m.ws a ≤ m.ws.length := h2
      have hg : goodAt m.ws a = true := by
        unfold goodAt
        rw [show splB (m.ws.getD a 0) = true from decide_eq_true h1, decide_eq_true (show a + szN m.ws a < m.ws.length by omega)]; rfl
      rw [if_pos hg]
      have hle := h.len
      have e : (upTo m.st a).set a true = upTo m.st (a + (szN m.ws a + 1)) := by
        refine bool_ext (by rw [List.length_set, upTo_len _ _ (by omega), upTo_len _ _ (by omega)]) fun j hj => ?_
        rw [List.length_set, upTo_len _ _ (by omega)] at hj
        by_cases hja : j = a
        · subst hja
          rw [getD_setB_same _ _ _ (by rw [upTo_len _ _ (by omega)]; omega), upTo_get, hst, decide_eq_true (by omega)]; rfl
        · rw [getD_setB_ne _ _ _ _ hja, upTo_get, upTo_get]
          by_cases hj1 : j < a
          · rw [decide_eq_true hj1, decide_eq_true (by omega)]
          · rw [decide_eq_false hj1]
            by_cases hj2 : j < a + (szN m.ws a + 1)
            · rw [h3 j (by omega) (by show j ≤ a + szN m.ws a; omega)]; simp
            · rw [decide_eq_false hj2]
      rw [e]
      refine sound_upTo h n _ (by omega) (by omega) ?_
      rw [show a + (szN m.ws a + 1) = a + 1 + szN m.ws a from by omega]
      exact h.tight.next a hlt hst
    · rw [if_neg hlt]
      have e : a = m.st.length := by have := h.len; omega
      rw [e]; simp [upTo]
theorem sndO_full {m : Hm} (h : Full m) : sndO m.ws = some m.st := by
  have := sound_upTo h m.ws.length 0 (Nat.zero_le _) (by omega) (h.tight.zero.imp (fun e => e.symm) id)
  unfold sndO
  rw [show List.replicate m.ws.length false = upTo m.st 0 from by simp [upTo, h.len]]
  exact this
theorem load_enc {m : Hm} (h : Full m) (h16 : 16 ≤ m.room) (hr : (m.ws.length : Int) ≤ m.room) : loadF (encM m) = some m := by
  have ok := h.toOk
  have hl : (encM m).length / 8 - 2 = m.ws.length := by rw [encM_len]; omega
  have e0 : decAt (encM m) 0 = m.room := by rw [enc_all, dec_enc (all_u64 ok) (by simp [allM])]; rfl
  have e1 : decAt (encM m) 1 = m.turns := by rw [enc_all, dec_enc (all_u64 ok) (by simp [allM])]; rfl
  have hg : goodL (encM m) := by
    refine ⟨⟨by rw [encM_len]; omega, by rw [encM_len]; omega⟩, by rw [e0]; exact h16, by rw [e0]; exact ok.r1, by rw [hl, e0]; exact hr, by rw [e1]; exact ok.t1⟩
  have hm : loadM (encM m) = withSt m (List.replicate m.ws.length false) := by
    unfold loadM withSt; rw [e0, e1, wsOf_enc ok, hl]
  have hs : sndO (wsOf (encM m)) = some m.st := by rw [wsOf_enc ok]; exact sndO_full h
  have hB : sndB (loadM (encM m)) = true := by
    rw [hm]
    unfold sndB
    rw [show (withSt m (List.replicate m.ws.length false)).ws = m.ws from rfl, sndO_full h]
    show fitAll m m.ws.length = true
    unfold fitAll
    refine List.all_eq_true.2 fun i hi => ?_
    rw [List.mem_range] at hi
    cases hst : m.st.getD i false
    · rw [h.fit i hi hst]; rfl
    · rfl
  unfold loadF
  rw [if_pos hg, if_pos hB, hs, hm]
  rfl
end Go.Proofs.Ytknpgmbniohcnaa
