import Derived.Test.YtclilpabdcdeoaaDoorKd
namespace Go.Proofs.YtclilpabdcdeoaaDoor
open Go.ChangeShapes Go.WideShapes Go.ChangeAt Go.RowKit
set_option linter.unusedVariables false
theorem not_q {x : ByteArray} (h : x.size ≠ 1) : (x.toList == [63]) = false := by
  rw [toList_data]
  refine beq_eq_false_iff_ne.2 fun e => h ?_
  have := congrArg List.length e
  rw [Array.length_toList] at this
  exact this
theorem dig_q (u : Nat) : Lib.decDigits u ≠ [63] := by
  intro h
  rw [Lib.decDigits_eq] at h
  have hm : (63 : UInt8) ∈ (List.range (Lib.nDigits u)).map fun t => Lib.dg u (Lib.nDigits u - 1 - t) := by rw [h]; exact List.mem_cons_self
  obtain ⟨t, _, ht⟩ := List.mem_map.1 hm
  have key : ∀ p : Fin 10, UInt8.ofNat (48 + p.val) ≠ 63 := by decide
  exact key ⟨u / 10 ^ (Lib.nDigits u - 1 - t) % 10, Nat.mod_lt _ (by decide)⟩ ht
theorem itoa_q (z : Int) : ((numT z).toList == [63]) = false := by
  rw [toList_data]
  refine beq_eq_false_iff_ne.2 fun e => ?_
  have e : Lib.itoa z = [63] := by simpa [numT] using e
  unfold Lib.itoa at e
  split at e
  · injection e with e1 _; exact absurd e1 (by decide)
  · exact dig_q _ e
theorem leaf_at {k : Int} : leafV 7 k = some polyT := rfl
theorem kinds_math {V : VT} {k : Int} (hk : 1 ≤ k) (hk6 : k ≤ 6) (hnm : (V.nm.toList == [63]) = false) : ((rtext [] [] 50 V (tyFor k)).toList == [63]) = (V.k != k) := by
  have htk : (tyFor k).k = k := rfl
  unfold rtext
  rw [htk]
  by_cases he : V.k = k
  · have e2 : (V.k != k) = false := by rw [he]; simp
    rw [e2]
    have hc : k = 1 ∨ k = 2 ∨ k = 3 ∨ k = 4 ∨ k = 5 ∨ k = 6 := by omega
    rcases hc with rfl | rfl | rfl | rfl | rfl | rfl
    all_goals rw [he]
    · show ((numT V.n).toList == [63]) = false
      exact itoa_q _
    · show ((boolT (V.n == 1)).toList == [63]) = false
      exact not_q (by unfold boolT; split <;> decide)
    · exact not_q (x := unitT) (by decide)
    · show ((constrT _ [] V).toList == [63]) = false
      unfold constrT
      split
      · exact hnm
      · refine not_q ?_
        have h3 : closeT.size = 1 := rfl
        have h4 := piecesT_len (rtext [] [] 49) (typesOf [] V.nm) V.args 0
        simp only [ByteArray.size_append]
        rename_i hne
        omega
    · exact not_q (x := funT) (by decide)
    · show ((refdT _ [] V _).toList == [63]) = false
      unfold refdT
      have h3 : refT.size = 4 := rfl
      split <;> (refine not_q ?_; simp only [ByteArray.size_append]; omega)
  · have e2 : (V.k != k) = true := by simpa [bne] using he
    rw [e2]
    have : leafV k V.k = some markT := by
      unfold leafV
      rw [if_neg (by omega), if_neg (fun h => he h.symm)]
    rw [this]
    show (markT.toList == [63]) = true
    rw [toList_data]; rfl
theorem PowTab.on {w W : World} (hT : PowTab w) (h : Below w.heap.size w W) : PowTab W := fun w' h' => hT w' (h.trans (h'.mono h.size))
set_option maxRecDepth 100000 in
set_option maxHeartbeats 4000000 in
theorem kinds_walk {w : World} {V : VT} {v : Value} (hT : PowTab w) (hv : VIn w V v) (k : Int) :
    Calls Tryd.prog 8 #[v, .int .i64 k] w fun e w' => e = .returned (.bool true) ∧ Below w.heap.size w w' := by
  have hall : ∀ W, Below w.heap.size w W → Calls Tryd.prog 21 #[v, .int .i64 64] W fun e w' => e = .returned (.bool (bigD 7 V)) ∧ Below W.heap.size W w' := fun W hb => big_any 7 V v 64 W most64 (hv.later hb)
  have hN := VIn_n 6 hv
  obtain ⟨A, c, e, hve, hn, hA⟩ := id hv
  by_cases hgo : bigD 7 V = false ∧ 1 ≤ k ∧ k ≤ 6 ∧ (V.nm.toList == [63]) = false
  · obtain ⟨hb, h1, h6, hq⟩ := hgo
    have hm := kinds_math (V := V) h1 h6 hq
    have hsz : ∀ T, (rtext [] [] 50 V T).size ≤ 900000 := fun T => by
      have := rtext_cap [] [] (fun _ h => by cases h) 50 V T hb hN
      have h2 : capB 7 = 524262 := rfl
      omega
    have hbig : ∀ W, Below w.heap.size w W → Calls Tryd.prog 21 #[v, .int .i64 64] W fun e w' => e = .returned (.bool false) ∧ Below W.heap.size W w' := fun W h => hb ▸ hall W h
    have hr : ∀ W t, Below w.heap.size w W → TIn W (tyFor k) t → Calls Tryd.prog 14 #[v, t, .slice none 0 0, .slice none 0 0] W fun e w' => e = .returned (.string (rtext [] [] 50 V (tyFor k))) ∧ Below W.heap.size W w' := fun W t h ht =>
      render_any (cons := []) (cells := []) (hT.on h) (.inl rfl) (by simp) (.inl rfl) (hv.later h) ht (hsz _)
    have hp : ∀ W, Below w.heap.size w W → Calls Tryd.prog 14 #[v, .agg #[.int .i64 7, .string ⟨#[]⟩, .int .i64 0, .slice none 0 0], .slice none 0 0, .slice none 0 0] W fun e w' => e = .returned (.string ⟨#[60, 112, 111, 108, 121, 62]⟩) ∧ Below W.heap.size W w' := fun W h =>
      render_any (cons := []) (cells := []) (T := .mk 7 ⟨#[]⟩ 0 []) (hT.on h) (.inl rfl) (by simp) (.inl rfl) (hv.later h) ⟨none, 0, rfl, .inl rfl⟩ (hsz _)
    subst hve
    have hc : k = 1 ∨ k = 2 ∨ k = 3 ∨ k = 4 ∨ k = 5 ∨ k = 6 := by omega
    rcases hc with rfl | rfl | rfl | rfl | rfl | rfl
    · exact kinds1 hbig hr hp hq hm rfl
    · exact kinds2 hbig hr hp hq hm rfl
    · exact kinds3 hbig hr hp hq hm rfl
    · exact kinds4 hbig hr hp hq hm rfl
    · exact kinds5 hbig hr hp hq hm rfl
    · exact kinds6 hbig hr hp hq hm rfl
  · subst hve
    have HALL := Lib.hid hall
    obtain ⟨bg, hbg⟩ : ∃ b, b = bigD 7 V := ⟨_, rfl⟩
    have hall' : ∀ W, Below w.heap.size w W → Calls Tryd.prog 21 #[.agg #[.int .i64 V.k, .int .i64 V.n, .string V.nm, .slice A V.args.length c, .int .i64 V.node, e, .int .i64 V.at_], .int .i64 64] W fun e w' => e = .returned (.bool bg) ∧ Below W.heap.size W w' := hbg ▸ hall
    rw [← hbg] at hgo
    have HL := Lib.hid hall'
    clear hall hall' hN hA hn hv hbg HALL hT
    have hcase : bg = true ∨ (bg = false ∧ k < 1) ∨ (bg = false ∧ ¬ k < 1 ∧ 6 < k) ∨ (bg = false ∧ ¬ k < 1 ∧ ¬ 6 < k ∧ (V.nm.toList == [63]) = true) := by
      cases bg
      · by_cases a : k < 1
        · exact .inr (.inl ⟨rfl, a⟩)
        · by_cases b : 6 < k
          · exact .inr (.inr (.inl ⟨rfl, a, b⟩))
          · refine .inr (.inr (.inr ⟨rfl, a, b, ?_⟩))
            cases hq : (V.nm.toList == [63])
            · exact absurd ⟨rfl, by omega, by omega, hq⟩ hgo
            · rfl
      · exact .inl rfl
    clear hgo
    rcases hcase with h | ⟨h, d1⟩ | ⟨h, d1, d2⟩ | ⟨h, d1, d2, d3⟩
    all_goals
      subst h
      (try have d1 := decide_eq_true d1)
      (try have d1 := decide_eq_false d1)
      (try have d2 := decide_eq_true d2)
      (try have d2 := decide_eq_false d2)
      go_enter Tryd.func8, Tryd.ntmps8
      go_wp2_with fail
      refine (awake _).mono ?_; rintro e w1 ⟨rfl, hb1⟩
      have B1 := Lib.hid (below2 (belowA w _) hb1)
      have c0 := keepC hb1 (box_at (W := w) (t := 26) (vs := #[.int .i64 V.k, .int .i64 V.n, .string V.nm, .slice A V.args.length c, .int .i64 V.node, e, .int .i64 V.at_]) 0 rfl)
      have c1 := keepC hb1 (box_at (W := w) (t := 26) (vs := #[.int .i64 V.k, .int .i64 V.n, .string V.nm, .slice A V.args.length c, .int .i64 V.node, e, .int .i64 V.at_]) 1 rfl)
      have c2 := keepC hb1 (box_at (W := w) (t := 26) (vs := #[.int .i64 V.k, .int .i64 V.n, .string V.nm, .slice A V.args.length c, .int .i64 V.node, e, .int .i64 V.at_]) 2 rfl)
      have c3 := keepC hb1 (box_at (W := w) (t := 26) (vs := #[.int .i64 V.k, .int .i64 V.n, .string V.nm, .slice A V.args.length c, .int .i64 V.node, e, .int .i64 V.at_]) 3 rfl)
      have c4 := keepC hb1 (box_at (W := w) (t := 26) (vs := #[.int .i64 V.k, .int .i64 V.n, .string V.nm, .slice A V.args.length c, .int .i64 V.node, e, .int .i64 V.at_]) 4 rfl)
      have c5 := keepC hb1 (box_at (W := w) (t := 26) (vs := #[.int .i64 V.k, .int .i64 V.n, .string V.nm, .slice A V.args.length c, .int .i64 V.node, e, .int .i64 V.at_]) 5 rfl)
      have c6 := keepC hb1 (box_at (W := w) (t := 26) (vs := #[.int .i64 V.k, .int .i64 V.n, .string V.nm, .slice A V.args.length c, .int .i64 V.node, e, .int .i64 V.at_]) 6 rfl)
      clear hb1
      go_wp2_with fail
      refine (HL.out _ B1.out).mono ?_; rintro e w2 ⟨rfl, hb2⟩
      have B2 := Lib.hid (below2 B1.out hb2)
      have c2 := keepC hb2 c2
      clear hb2 B1 HL
      go_wp2
      go_ret
      exact ⟨rfl, B2.out⟩
end Go.Proofs.YtclilpabdcdeoaaDoor
