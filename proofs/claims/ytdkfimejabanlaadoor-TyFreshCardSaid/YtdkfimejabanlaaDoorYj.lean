import Derived.Test.YtdkfimejabanlaaDoorYi
namespace Go.Proofs.YtdkfimejabanlaaDoor
open Go.ChangeShapes Go.WideShapes Go.ChangeAt Go.RowKit Go.WideMaps
set_option linter.unusedVariables false
set_option linter.unusedSimpArgs false
/-- v stands for t now. -/
def bindS (St : List TT) (v : Nat) (t : TT) : List TT := (St ++ List.replicate (v + 1 - St.length) zeroT).set v t
theorem bindS_len (St : List TT) (v : Nat) (t : TT) : (bindS St v t).length = max St.length (v + 1) := by
  unfold bindS; rw [List.length_set, List.length_append, List.length_replicate]; omega
theorem stA_get (St : List TT) (x : Int) : stA St x = if 0 ≤ x then (St[x.toNat]?).getD zeroT else zeroT := by
  unfold stA; rw [List.getD_eq_getElem?_getD]
theorem pad_get (St : List TT) (k x : Nat) : ((St ++ List.replicate k zeroT)[x]?).getD zeroT = (St[x]?).getD zeroT := by
  by_cases h : x < St.length
  · rw [List.getElem?_append_left h]
  · rw [List.getElem?_append_right (by omega), List.getElem?_eq_none (l := St) (by omega), List.getElem?_replicate]
    split <;> rfl
theorem stA_pad (St : List TT) (k : Nat) (x : Int) : stA (St ++ List.replicate k zeroT) x = stA St x := by
  rw [stA_get, stA_get, pad_get]
theorem stA_bind (St : List TT) (v : Nat) (t : TT) : stA (bindS St v t) v = t := by
  rw [stA_get, if_pos (by omega), Int.toNat_natCast]
  unfold bindS
  rw [List.getElem?_set_self (by rw [List.length_append, List.length_replicate]; omega)]; rfl
theorem stA_bind_ne (St : List TT) {v : Nat} {x : Int} (t : TT) (h : x ≠ v) : stA (bindS St v t) x = stA St x := by
  rw [stA_get, stA_get]
  by_cases h0 : 0 ≤ x
  · rw [if_pos h0, if_pos h0]
    unfold bindS
    rw [List.getElem?_set_ne (by omega), pad_get]
  · rw [if_neg h0, if_neg h0]
/-- the state of one that unifies: what stands, what was set. -/
structure US where
  st : List TT
  set : List Int
def standU (u : US) (v : Int) (t : TT) : US := ⟨bindS u.st v.toNat t, u.set ++ [v]⟩
def uniL (f : US → TT → TT → Int × US) : List TT → List TT → US → Int × US
  | a :: l, b :: r, u => if (f u a b).1 = 0 then uniL f l r (f u a b).2 else f u a b
  | _, _, u => (0, u)
open Classical in
/-- two types are made one (below the fuel). -/
noncomputable def uniF : Nat → US → TT → TT → Int × US
  | 0, u, _, _ => (-1, u)
  | d + 1, u, a, b =>
    if 500 < fsz u.st a ∨ 500 < fsz u.st b then (2, u)
    else if (resF u.st a).k = 7 then
      if (resF u.st b).k = 7 then
        if (resF u.st b).vr < (resF u.st a).vr then (0, standU u (resF u.st a).vr (resF u.st b))
        else if (resF u.st a).vr < (resF u.st b).vr then (0, standU u (resF u.st b).vr (resF u.st a))
        else (0, u)
      else if Occ u.st (resF u.st a).vr (resF u.st b) then (5, u) else (0, standU u (resF u.st a).vr (resF u.st b))
    else if (resF u.st b).k = 7 then
      if Occ u.st (resF u.st b).vr (resF u.st a) then (5, u) else (0, standU u (resF u.st b).vr (resF u.st a))
    else if (resF u.st a).k ≠ (resF u.st b).k ∨ (resF u.st a).nm ≠ (resF u.st b).nm then (5, u)
    else uniL (uniF d) (resF u.st a).args (resF u.st b).args u
/-- places that hold nothing hold the zero type. -/
def Zok (St : List TT) : Prop := ∀ x, (stA St x).k = 0 → stA St x = zeroT
/-- how many stand for nothing. -/
def ubn (St : List TT) : Nat := (List.range 2000).countP (fun x : Nat => decide ((stA St (x : Int)).k = 0))
structure UInv (u : US) : Prop where
  ok : ∃ rk, StOk u.st rk
  zok : Zok u.st
  set : ∀ v ∈ u.set, 0 ≤ v ∧ v < u.st.length
  cnt : u.set.length + ubn u.st ≤ 2000
/-- what was done besides. -/
structure UExt (u u' : US) : Prop where
  inv : UInv u'
  ext : ∃ s, u'.set = u.set ++ s ∧ (∀ x ∈ s, (stA u.st x).k = 0 ∧ (stA u'.st x).k ≠ 0) ∧ ∀ x, x ∉ s → stA u'.st x = stA u.st x
  ubn : u' = u ∨ ubn u'.st < ubn u.st
theorem UExt.refl {u : US} (h : UInv u) : UExt u u := ⟨h, ⟨[], by simp, by simp, fun _ _ => rfl⟩, .inl rfl⟩
theorem UExt.trans {a b c : US} (h : UExt a b) (k : UExt b c) : UExt a c := by
  obtain ⟨s, h1, h2, h3⟩ := h.ext
  obtain ⟨s', k1, k2, k3⟩ := k.ext
  refine ⟨k.inv, ⟨s ++ s', by rw [k1, h1, List.append_assoc], fun x hx => ?_, fun x hx => ?_⟩, ?_⟩
  · have hd : x ∈ s' → x ∉ s := fun hx' hs => absurd (k2 x hx').1 (h2 x hs).2
    rcases List.mem_append.1 hx with hx | hx
    · have hn : x ∉ s' := fun e => hd e hx
      rw [k3 x hn]; exact h2 x hx
    · have e := h3 x (hd hx)
      rw [← e]; exact k2 x hx
  · rw [List.mem_append, not_or] at hx
    rw [k3 x hx.2, h3 x hx.1]
  · rcases h.ubn with e | h <;> rcases k.ubn with e' | k
    · exact .inl (e'.trans e)
    · rw [e] at k; exact .inr k
    · rw [e']; exact .inr h
    · exact .inr (Nat.lt_trans k h)
theorem countP_lt {p q : Nat → Bool} {v : Nat} : ∀ {l : List Nat}, v ∈ l → p v = true → q v = false → (∀ x, q x = true → p x = true) → l.countP q < l.countP p
  | a :: l, hv, hp, hq, h => by
    have hle : l.countP q ≤ l.countP p := List.countP_mono_left fun x _ => h x
    rw [List.countP_cons, List.countP_cons]
    rcases List.mem_cons.1 hv with rfl | hv
    · rw [if_pos hp, if_neg (by rw [hq]; simp)]; omega
    · have := countP_lt hv hp hq h
      by_cases ha : q a = true
      · rw [if_pos ha, if_pos (h a ha)]; omega
      · rw [if_neg ha]; omega
theorem stand_ext {u : US} (h : UInv u) {v : Int} {t : TT} (h0 : 0 ≤ v) (h1 : v ≤ 1999) (hv : (stA u.st v).k = 0) (hs : shp t = true) (hk : t.k ≠ 0) (ho : ¬ Occ u.st v t) : UExt u (standU u v t) := by
  obtain ⟨x, rfl⟩ : ∃ x : Nat, v = x := ⟨v.toNat, by omega⟩
  obtain ⟨rk, hst⟩ := h.ok
  have e : standU u (x : Int) t = ⟨bindS u.st x t, u.set ++ [(x : Int)]⟩ := by unfold standU; rw [Int.toNat_natCast]
  rw [e]
  have hl := hst.len
  have hub : ubn (bindS u.st x t) < ubn u.st := by
    unfold ubn
    refine countP_lt (v := x) (l := List.range 2000) (List.mem_range.2 (by omega)) (by simpa using hv) ?_ (fun y hy => ?_)
    · rw [stA_bind]; simpa using hk
    · by_cases hx : (y : Int) = x
      · rw [hx, stA_bind] at hy
        exact absurd (of_decide_eq_true hy) hk
      · rw [stA_bind_ne _ _ hx] at hy; exact hy
  refine ⟨⟨stand_ok hst (by rw [bindS_len]; omega) hs hv ho (stA_bind _ _ _) (fun y hy => stA_bind_ne _ _ hy), fun y hy => ?_, fun y hy => ?_, ?_⟩, ⟨[(x : Int)], rfl, fun y hy => ?_, fun y hy => ?_⟩, .inr hub⟩
  · by_cases hx : y = x
    · subst hx; rw [show (US.st ⟨bindS u.st x t, u.set ++ [(x : Int)]⟩) = bindS u.st x t from rfl, stA_bind] at hy; exact absurd hy hk
    · rw [show (US.st ⟨bindS u.st x t, u.set ++ [(x : Int)]⟩) = bindS u.st x t from rfl, stA_bind_ne _ _ hx] at hy ⊢; exact h.zok y hy
  · show 0 ≤ y ∧ y < ((bindS u.st x t).length : Int)
    rw [bindS_len]
    rcases List.mem_append.1 hy with hy | hy
    · have := h.set y hy; omega
    · rw [List.mem_singleton] at hy; subst hy; omega
  · show (u.set ++ [(x : Int)]).length + ubn (bindS u.st x t) ≤ 2000
    have := h.cnt
    rw [List.length_append, List.length_singleton]; omega
  · rw [List.mem_singleton] at hy; subst hy
    exact ⟨hv, by show (stA (bindS u.st x t) x).k ≠ 0; rw [stA_bind]; exact hk⟩
  · rw [List.mem_singleton] at hy
    exact stA_bind_ne _ _ hy
theorem shp_k {t : TT} (h : shp t = true) : t.k ≠ 0 ∧ 0 ≤ t.vr ∧ t.vr ≤ 1999 := by
  rw [shp_eq, Bool.and_eq_true] at h
  have := head_var h.1
  omega
theorem res_zero {St : List TT} {t : TT} (h : ¬ bnd St t) (h7 : t.k = 7) : (stA St t.vr).k = 0 := Classical.byContradiction fun e => h ⟨h7, e⟩
theorem occ_var_no {St : List TT} {v : Int} {T : TT} (hb : ¬ bnd St T) (h7 : T.k = 7) (h : T.vr ≠ v) : ¬ Occ St v T := fun ho => h ((occ_var hb h7).1 ho)
theorem uniF_ext : ∀ (d : Nat) (u : US) (a b : TT), UInv u → shp a = true → shp b = true → UExt u (uniF d u a b).2 := by
  intro d
  induction d with
  | zero => intro u a b h _ _; exact .refl h
  | succ d ih =>
    intro u a b h ha hb
    obtain ⟨rk, hst⟩ := h.ok
    have sA := res_shp hst (resF_res hst a) ha
    have sB := res_shp hst (resF_res hst b) hb
    have nA := res_stop (resF_res hst a)
    have nB := res_stop (resF_res hst b)
    have kA := shp_k sA
    have kB := shp_k sB
    have HL : ∀ (l r : List TT) (u : US), UInv u → (∀ x ∈ l, shp x = true) → (∀ x ∈ r, shp x = true) → UExt u (uniL (uniF d) l r u).2 := by
      intro l
      induction l with
      | nil => intro r u hu _ _; exact .refl hu
      | cons x l il =>
        intro r u hu hl hr
        cases r with
        | nil => exact .refl hu
        | cons y r =>
          have h1 := ih u x y hu (hl x (by simp)) (hr y (by simp))
          rw [uniL]
          split
          · exact h1.trans (il r _ h1.inv (fun z hz => hl z (List.mem_cons_of_mem _ hz)) (fun z hz => hr z (List.mem_cons_of_mem _ hz)))
          · exact h1
    rw [uniF]
    split
    · exact .refl h
    split
    · rename_i hA7
      split
      · rename_i hB7
        split
        · exact stand_ext h kA.2.1 kA.2.2 (res_zero nA hA7) sB kB.1 (occ_var_no nB hB7 (by omega))
        · split
          · exact stand_ext h kB.2.1 kB.2.2 (res_zero nB hB7) sA kA.1 (occ_var_no nA hA7 (by omega))
          · exact .refl h
      · split
        · exact .refl h
        · rename_i ho
          exact stand_ext h kA.2.1 kA.2.2 (res_zero nA hA7) sB kB.1 ho
    · split
      · rename_i hB7
        split
        · exact .refl h
        · rename_i ho
          exact stand_ext h kB.2.1 kB.2.2 (res_zero nB hB7) sA kA.1 ho
      · split
        · exact .refl h
        · exact HL _ _ u h (shp_head sA).2.2 (shp_head sB).2.2
/-- the measure of the recursion. -/
noncomputable def muU (u : US) (a : TT) : Nat := ubn u.st * 502 + min (fsz u.st a) 501
theorem mu_arg {u u' : US} {a x : TT} (hok : ∃ rk, StOk u.st rk) (ha : shp a = true) (h5 : ¬ 500 < fsz u.st a) (hx : x ∈ (resF u.st a).args) (hu : u' = u ∨ ubn u'.st < ubn u.st) : muU u' x < muU u a := by
  obtain ⟨rk, hst⟩ := hok
  unfold muU
  rcases hu with rfl | h
  · have := fsz_arg hst ha hx; omega
  · have : ubn u'.st * 502 + 502 ≤ ubn u.st * 502 := by omega
    omega
theorem ubn_le (St : List TT) : ubn St ≤ 2000 := by
  unfold ubn
  exact Nat.le_trans List.countP_le_length (Nat.le_of_eq List.length_range)
theorem mu_lt (u : US) (a : TT) : muU u a < 2001 * 502 := by
  unfold muU
  have := ubn_le u.st
  omega
end Go.Proofs.YtdkfimejabanlaaDoor
