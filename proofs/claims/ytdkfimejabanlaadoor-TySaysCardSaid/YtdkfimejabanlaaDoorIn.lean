import Derived.Test.YtdkfimejabanlaaDoorSm
namespace Go.Proofs.YtdkfimejabanlaaDoor
open Go.ChangeShapes Go.WideShapes Go.ChangeAt Go.RowKit Go.WideMaps
set_option linter.unusedVariables false
set_option linter.unusedSimpArgs false
def badB (b : UInt8) : Bool := decide (b.toNat < 97) || decide (122 < b.toNat)
def resNm (nm : ByteArray) : Bool := nm.data.toList == [105, 110, 116] || nm.data.toList == [98, 111, 111, 108] || nm.data.toList == [117, 110, 105, 116]
mutual
/-- is there a name that is no name? -/
def oddT : TT → Bool
  | .mk _ nm _ args => nm.data.toList.any badB || resNm nm || oddL args
def oddL : List TT → Bool
  | [] => false
  | a :: r => oddT a || oddL r
end
theorem oddT_eq (V : TT) : oddT V = (V.nm.data.toList.any badB || resNm V.nm || oddL V.args) := by cases V; rw [oddT]; rfl
theorem oddL_any : ∀ l : List TT, oddL l = l.any oddT
  | [] => rfl
  | a :: r => by rw [oddL, oddL_any r]; rfl
/-- a closed type's text, as a list. -/
def lst (V : TT) : List UInt8 := (txt V []).data.toList
structure Clo (V : TT) : Prop where
  sh : shp V = true
  vs : varsT V [] = []
  od : oddT V = false
theorem nil_of_sub {l m : List Int} (h : ∀ y ∈ l, y ∈ m) (hm : m = []) : l = [] := by
  cases l with
  | nil => rfl
  | cons a r => have := h a (by simp); rw [hm] at this; cases this
theorem clo_seven {V : TT} (h : Clo V) : V.k ≠ 7 := fun h7 => by
  have h1 := h.vs
  rw [varsT_eq, if_pos h7] at h1
  have h2 := varsL_sub V.args (addV [] V.vr) V.vr addV_mem
  rw [h1] at h2; cases h2
theorem clo_kids : ∀ (l : List TT), shpL l = true → varsL l [] = [] → oddL l = false → ∀ a ∈ l, Clo a
  | [], _, _, _, _, h => by cases h
  | a :: r, h1, h2, h3, x, hx => by
    rw [shpL, Bool.and_eq_true] at h1
    rw [varsL] at h2
    rw [oddL, Bool.or_eq_false_iff] at h3
    have h4 : varsT a [] = [] := nil_of_sub (varsL_sub r _) h2
    rw [h4] at h2
    rcases List.mem_cons.1 hx with rfl | hx
    · exact ⟨h1.1, h4, h3.1⟩
    · exact clo_kids r h1.2 h2 h3.2 x hx
theorem clo_args {V : TT} (h : Clo V) : ∀ a ∈ V.args, Clo a := by
  have h1 := h.sh
  have h2 := h.vs
  have h3 := h.od
  rw [shp_eq, Bool.and_eq_true] at h1
  rw [varsT_eq, if_neg (clo_seven h)] at h2
  rw [oddT_eq, Bool.or_eq_false_iff] at h3
  exact clo_kids _ h1.2 h2 h3.2
theorem head_vr {V : TT} (h : shp V = true) (h7 : V.k ≠ 7) : V.vr = 0 := by
  rw [shp_eq, Bool.and_eq_true] at h
  have h1 := h.1
  unfold headOk at h1
  simp only [Bool.and_eq_true, Bool.or_eq_true] at h1
  rcases h1.2 with h2 | h2
  · exact eq_of_beq h2
  · exact absurd (eq_of_beq h2) h7
theorem head_nm {V : TT} (h : shp V = true) (h4 : V.k ≠ 4) : V.nm = ⟨#[]⟩ := by
  rw [shp_eq, Bool.and_eq_true] at h
  have h1 := h.1
  unfold headOk at h1
  simp only [Bool.and_eq_true] at h1
  have h3 := h1.1.1.1.2
  have h5 : (V.k == 4) = false := beq_eq_false_iff_ne.2 h4
  rw [h5] at h3
  have h6 : emptyB V.nm = true := by
    cases hb : emptyB V.nm with
    | true => rfl
    | false => rw [hb] at h3; cases h3
  unfold emptyB at h6
  exact toList_nil h6
theorem head_nm4 {V : TT} (h : shp V = true) (h4 : V.k = 4) : V.nm.data.toList ≠ [] := fun e => by
  rw [shp_eq, Bool.and_eq_true] at h
  have h1 := h.1
  unfold headOk at h1
  simp only [Bool.and_eq_true] at h1
  have h3 := h1.1.1.1.2
  rw [h4] at h3
  have h6 : emptyB V.nm = true := by unfold emptyB; rw [toList_data, e]; rfl
  rw [h6] at h3; cases h3
theorem head_len {V : TT} (h : shp V = true) : (V.args.length : Int) = arT V.k ∧ 1 ≤ V.k ∧ V.k ≤ 7 := by
  rw [shp_eq, Bool.and_eq_true] at h
  have := head_var h.1
  omega
theorem data_app (a b : ByteArray) : (a ++ b).data.toList = a.data.toList ++ b.data.toList := by rw [ByteArray.data_append, Array.toList_append]
/-- a word. -/
def Word (l : List UInt8) : Prop := l ≠ [] ∧ ∀ b ∈ l, badB b = false
theorem leaf_form {V : TT} (h : Clo V) (hk : V.k ≤ 4) : Word (lst V) ∧ V = .mk V.k V.nm 0 [] ∧ (V.k = 4 → lst V = V.nm.data.toList) ∧ (V.k ≠ 4 → V.nm = ⟨#[]⟩) ∧ (V.k = 1 → lst V = [105, 110, 116]) ∧ (V.k = 2 → lst V = [98, 111, 111, 108]) ∧ (V.k = 3 → lst V = [117, 110, 105, 116]) := by
  obtain ⟨hl, h1, h7⟩ := head_len h.sh
  have hv := head_vr h.sh (clo_seven h)
  have ha : V.args = [] := List.length_eq_zero_iff.1 (by
    have : arT V.k = 0 := by unfold arT; rw [if_neg (by omega), if_neg (by omega)]
    omega)
  have hod := h.od
  rw [oddT_eq, Bool.or_eq_false_iff, Bool.or_eq_false_iff] at hod
  have e : ∀ k, V.k = k → k = 1 ∨ k = 2 ∨ k = 3 ∨ k = 4 → lst V = if k = 1 then [105, 110, 116] else if k = 2 then [98, 111, 111, 108] else if k = 3 then [117, 110, 105, 116] else V.nm.data.toList := fun k hk hc => by
    unfold lst; rw [txt_eq, hk]
    rcases hc with rfl | rfl | rfl | rfl <;> rfl
  refine ⟨?_, (TT.eta V).trans (by rw [hv, ha]), fun h4 => by rw [e 4 h4 (by omega)]; rfl, fun h4 => head_nm h.sh h4, fun h4 => by rw [e 1 h4 (by omega)]; rfl, fun h4 => by rw [e 2 h4 (by omega)]; rfl, fun h4 => by rw [e 3 h4 (by omega)]; rfl⟩
  have hc : V.k = 1 ∨ V.k = 2 ∨ V.k = 3 ∨ V.k = 4 := by omega
  rcases hc with h4 | h4 | h4 | h4
  · rw [show lst V = [105, 110, 116] from (e 1 h4 (by omega)).trans (by rfl)]; exact ⟨by decide, by decide⟩
  · rw [show lst V = [98, 111, 111, 108] from (e 2 h4 (by omega)).trans (by rfl)]; exact ⟨by decide, by decide⟩
  · rw [show lst V = [117, 110, 105, 116] from (e 3 h4 (by omega)).trans (by rfl)]; exact ⟨by decide, by decide⟩
  · rw [show lst V = V.nm.data.toList from (e 4 h4 (by omega)).trans (by rfl)]
    refine ⟨head_nm4 h.sh h4, fun b hb => ?_⟩
    have := hod.1.1
    rw [List.any_eq_false] at this
    have := this b hb
    simpa using this
theorem fun_form {V : TT} (h : Clo V) (hk : V.k = 5) : ∃ a b, V = .mk 5 ⟨#[]⟩ 0 [a, b] ∧ Clo a ∧ Clo b ∧ lst V = 40 :: (lst a ++ (32 :: 45 :: 62 :: 32 :: (lst b ++ [41]))) := by
  obtain ⟨hl, -, -⟩ := head_len h.sh
  have hv := head_vr h.sh (clo_seven h)
  have hn := head_nm h.sh (by omega)
  have hl2 : V.args.length = 2 := by
    have : arT V.k = 2 := by unfold arT; rw [if_pos hk]
    omega
  match ha : V.args, hl2 with
  | [a, b], _ =>
    have hca := clo_args h a (by rw [ha]; simp)
    have hcb := clo_args h b (by rw [ha]; simp)
    refine ⟨a, b, (TT.eta V).trans (by rw [hv, ha, hn, hk]), hca, hcb, ?_⟩
    unfold lst
    rw [txt_eq, hk, ha]
    simp only [txtL, hca.vs, data_app]
    simp
theorem ref_form {V : TT} (h : Clo V) (hk : V.k = 6) : ∃ a, V = .mk 6 ⟨#[]⟩ 0 [a] ∧ Clo a ∧ lst V = 40 :: (lst a ++ [32, 114, 101, 102, 41]) := by
  obtain ⟨hl, -, -⟩ := head_len h.sh
  have hv := head_vr h.sh (clo_seven h)
  have hn := head_nm h.sh (by omega)
  have hl2 : V.args.length = 1 := by
    have : arT V.k = 1 := by unfold arT; rw [if_neg (by omega), if_pos hk]
    omega
  match ha : V.args, hl2 with
  | [a], _ =>
    have hca := clo_args h a (by rw [ha]; simp)
    refine ⟨a, (TT.eta V).trans (by rw [hv, ha, hn, hk]), hca, ?_⟩
    unfold lst
    rw [txt_eq, hk, ha]
    simp only [txtL, hca.vs, data_app]
    simp
/-- what follows is no letter. -/
def End (r : List UInt8) : Prop := ∀ b s, r = b :: s → badB b = true
theorem word_split : ∀ {x y r s : List UInt8}, (∀ b ∈ x, badB b = false) → (∀ b ∈ y, badB b = false) → End r → End s → x ++ r = y ++ s → x = y ∧ r = s
  | [], [], r, s, _, _, _, _, h => ⟨rfl, h⟩
  | [], b :: y, r, s, _, hy, hr, _, h => by
    have := hr b (y ++ s) h
    rw [hy b (by simp)] at this; cases this
  | a :: x, [], r, s, hx, _, _, hs, h => by
    have := hs a (x ++ r) h.symm
    rw [hx a (by simp)] at this; cases this
  | a :: x, b :: y, r, s, hx, hy, hr, hs, h => by
    rw [List.cons_append, List.cons_append] at h
    injection h with h1 h2
    obtain ⟨h3, h4⟩ := word_split (fun c hc => hx c (List.mem_cons_of_mem _ hc)) (fun c hc => hy c (List.mem_cons_of_mem _ hc)) hr hs h2
    exact ⟨by rw [h1, h3], h4⟩
theorem leaf_inj {V U : TT} (h : Clo V) (g : Clo U) (hk : V.k ≤ 4) (gk : U.k ≤ 4) (e : lst V = lst U) : V = U := by
  obtain ⟨-, e1, a4, an, a1, a2, a3⟩ := leaf_form h hk
  obtain ⟨-, e2, b4, bn, b1, b2, b3⟩ := leaf_form g gk
  have r1 := h.od
  have r2 := g.od
  rw [oddT_eq, Bool.or_eq_false_iff, Bool.or_eq_false_iff] at r1 r2
  have n1 := r1.1.2
  have n2 := r2.1.2
  unfold resNm at n1 n2
  simp only [Bool.or_eq_false_iff, beq_eq_false_iff_ne] at n1 n2
  obtain ⟨-, hl, -⟩ := head_len h.sh
  obtain ⟨-, gl, -⟩ := head_len g.sh
  have key : V.k = U.k ∧ V.nm = U.nm := by
    by_cases p4 : V.k = 4
    · rw [a4 p4] at e
      by_cases q4 : U.k = 4
      · rw [b4 q4] at e
        refine ⟨p4.trans q4.symm, ?_⟩
        have := Array.ext' e
        cases hV : V.nm; cases hU : U.nm
        rw [hV, hU] at this
        exact congrArg ByteArray.mk this
      · exfalso
        rcases (show U.k = 1 ∨ U.k = 2 ∨ U.k = 3 by omega) with q | q | q
        · rw [b1 q] at e; exact n1.1.1 e
        · rw [b2 q] at e; exact n1.1.2 e
        · rw [b3 q] at e; exact n1.2 e
    · by_cases q4 : U.k = 4
      · exfalso
        rw [b4 q4] at e
        rcases (show V.k = 1 ∨ V.k = 2 ∨ V.k = 3 by omega) with q | q | q
        · rw [a1 q] at e; exact n2.1.1 e.symm
        · rw [a2 q] at e; exact n2.1.2 e.symm
        · rw [a3 q] at e; exact n2.2 e.symm
      · refine ⟨?_, by rw [an p4, bn q4]⟩
        rcases (show V.k = 1 ∨ V.k = 2 ∨ V.k = 3 by omega) with p | p | p
        · rcases (show U.k = 1 ∨ U.k = 2 ∨ U.k = 3 by omega) with q | q | q
          · exact p.trans q.symm
          · rw [a1 p, b2 q] at e; exact absurd e (by decide)
          · rw [a1 p, b3 q] at e; exact absurd e (by decide)
        · rcases (show U.k = 1 ∨ U.k = 2 ∨ U.k = 3 by omega) with q | q | q
          · rw [a2 p, b1 q] at e; exact absurd e (by decide)
          · exact p.trans q.symm
          · rw [a2 p, b3 q] at e; exact absurd e (by decide)
        · rcases (show U.k = 1 ∨ U.k = 2 ∨ U.k = 3 by omega) with q | q | q
          · rw [a3 p, b1 q] at e; exact absurd e (by decide)
          · rw [a3 p, b2 q] at e; exact absurd e (by decide)
          · exact p.trans q.symm
  rw [e1, e2, key.1, key.2]
theorem lst_inj : ∀ (n : Nat) (V U : TT) (r s : List UInt8), nodes V ≤ n → Clo V → Clo U → End r → End s → lst V ++ r = lst U ++ s → V = U ∧ r = s := by
  intro n
  induction n with
  | zero => intro V U r s hn; have := nodes_eq V; omega
  | succ n ih =>
    intro V U r s hn h g hr hs e
    obtain ⟨-, h1, h7⟩ := head_len h.sh
    obtain ⟨-, g1, g7⟩ := head_len g.sh
    have hv7 := clo_seven h
    have gv7 := clo_seven g
    have open40 : badB 40 = true := by decide
    have opn : ∀ {W : TT}, Clo W → 5 ≤ W.k → ∃ t, lst W = 40 :: t := fun {W} hw h5 => by
      have h8 := (head_len hw.sh).2.2
      have h9 := clo_seven hw
      rcases (show W.k = 5 ∨ W.k = 6 by omega) with h6 | h6
      · obtain ⟨a, b, -, -, -, e⟩ := fun_form hw h6; exact ⟨_, e⟩
      · obtain ⟨a, -, -, e⟩ := ref_form hw h6; exact ⟨_, e⟩
    have wrd : ∀ {W : TT}, Clo W → W.k ≤ 4 → ∃ b t, lst W = b :: t ∧ badB b = false := fun {W} hw h5 => by
      obtain ⟨⟨hne, hall⟩, -⟩ := leaf_form hw h5
      match hl : lst W, hne with
      | b :: t, _ => exact ⟨b, t, rfl, hall b (by rw [hl]; simp)⟩
    by_cases hk : V.k ≤ 4
    · by_cases gk : U.k ≤ 4
      · obtain ⟨e1, e2⟩ := word_split (leaf_form h hk).1.2 (leaf_form g gk).1.2 hr hs e
        exact ⟨leaf_inj h g hk gk e1, e2⟩
      · exfalso
        obtain ⟨t, et⟩ := opn g (by omega)
        obtain ⟨b, t2, eb, hb⟩ := wrd h hk
        rw [et, eb, List.cons_append, List.cons_append] at e
        injection e with e _
        rw [e, open40] at hb; cases hb
    · by_cases gk : U.k ≤ 4
      · exfalso
        obtain ⟨t, et⟩ := opn h (by omega)
        obtain ⟨b, t2, eb, hb⟩ := wrd g gk
        rw [et, eb, List.cons_append, List.cons_append] at e
        injection e with e _
        rw [← e, open40] at hb; cases hb
      · have e32 : ∀ t, End (32 :: t) := fun t b s hb => by injection hb with hb _; rw [← hb]; decide
        have e41 : ∀ t, End (41 :: t) := fun t b s hb => by injection hb with hb _; rw [← hb]; decide
        rcases (show V.k = 5 ∨ V.k = 6 by omega) with h5 | h5
        · obtain ⟨a, b, eV, ca, cb, lV⟩ := fun_form h h5
          have hna : nodes a ≤ n ∧ nodes b ≤ n := by rw [eV, nodes, nodesL, nodesL, nodesL] at hn; omega
          rcases (show U.k = 5 ∨ U.k = 6 by omega) with g5 | g5
          · obtain ⟨a2, b2, eU, ca2, cb2, lU⟩ := fun_form g g5
            rw [lV, lU] at e
            simp only [List.cons_append, List.append_assoc, List.nil_append] at e
            injection e with _ e
            obtain ⟨p1, p2⟩ := ih a a2 _ _ hna.1 ca ca2 (e32 _) (e32 _) e
            simp only [List.cons.injEq, true_and] at p2
            obtain ⟨p3, p4⟩ := ih b b2 _ _ hna.2 cb cb2 (e41 _) (e41 _) p2
            injection p4 with _ p4
            exact ⟨by rw [eV, eU, p1, p3], p4⟩
          · obtain ⟨a2, eU, ca2, lU⟩ := ref_form g g5
            rw [lV, lU] at e
            simp only [List.cons_append, List.append_assoc, List.nil_append] at e
            injection e with _ e
            obtain ⟨p1, p2⟩ := ih a a2 _ _ hna.1 ca ca2 (e32 _) (e32 _) e
            exfalso
            injection p2 with _ p2
            injection p2 with p2 _
            cases p2
        · obtain ⟨a, eV, ca, lV⟩ := ref_form h h5
          have hna : nodes a ≤ n := by rw [eV, nodes, nodesL, nodesL] at hn; omega
          rcases (show U.k = 5 ∨ U.k = 6 by omega) with g5 | g5
          · obtain ⟨a2, b2, eU, ca2, cb2, lU⟩ := fun_form g g5
            rw [lV, lU] at e
            simp only [List.cons_append, List.append_assoc, List.nil_append] at e
            injection e with _ e
            obtain ⟨p1, p2⟩ := ih a a2 _ _ hna ca ca2 (e32 _) (e32 _) e
            exfalso
            injection p2 with _ p2
            injection p2 with p2 _
            cases p2
          · obtain ⟨a2, eU, ca2, lU⟩ := ref_form g g5
            rw [lV, lU] at e
            simp only [List.cons_append, List.append_assoc, List.nil_append] at e
            injection e with _ e
            obtain ⟨p1, p2⟩ := ih a a2 _ _ hna ca ca2 (e32 _) (e32 _) e
            simp only [List.cons.injEq, true_and] at p2
            exact ⟨by rw [eV, eU, p1], p2⟩
/-- types without variables, without odd names, are alike where their texts are. -/
theorem show_inj {V U : TT} (hV : shp V = true) (hU : shp U = true) (vV : varsOf V = []) (vU : varsOf U = []) (oV : oddT V = false) (oU : oddT U = false) (e : showT V = showT U) : V = U := by
  have h := lst_inj (nodes V) V U [] [] (Nat.le_refl _) ⟨hV, vV, oV⟩ ⟨hU, vU, oU⟩ (fun _ _ h => by cases h) (fun _ _ h => by cases h) (by unfold lst; unfold showT at e; rw [e])
  exact h.1
end Go.Proofs.YtdkfimejabanlaaDoor
