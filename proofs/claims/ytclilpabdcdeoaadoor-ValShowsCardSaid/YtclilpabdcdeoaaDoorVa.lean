import Derived.Test.YtclilpabdcdeoaaDoorCon
namespace Go.Proofs.YtclilpabdcdeoaaDoor
open Go.ChangeShapes Go.WideShapes Go.ChangeAt Go.RowKit
set_option linter.unusedVariables false
set_option maxRecDepth 100000 in
set_option maxHeartbeats 4000000 in
theorem value_con {w0 w : World} {R vb vo : Nat} {cs ks : Value} {s nm x : ByteArray} {wi vr : Int} {A0 : Option Addr} {n0 c0 : Nat} (h : RS w0 w R cs ks s)
    (hv : Has w0 w R vb vo (.int .i64 4)) (hw : wi < 50)
    (hC : ∀ W, RS w0 W R cs ks s → Kp R w W → Calls Tryd.prog 38 #[.pointer (some ⟨R, 0, none⟩), .pointer (some ⟨vb, vo, none⟩), .int .i64 wi] W fun e w' => e = .returned (.tuple #[]) ∧ Hid (RS w0 w' R cs ks (s ++ x)) ∧ Hid (Kp R W w')) :
    Calls Tryd.prog 31 #[.pointer (some ⟨R, 0, none⟩), .pointer (some ⟨vb, vo, none⟩), .agg #[.int .i64 4, .string nm, .int .i64 vr, .slice A0 n0 c0], .int .i64 wi] w fun e w' => e = .returned (.tuple #[]) ∧ Hid (RS w0 w' R cs ks (s ++ x)) ∧ Hid (Kp R w w') := by
  have CC : Hid (∀ O q, Calls Tryd.prog 38 #[.pointer (some ⟨R, 0, none⟩), .pointer (some ⟨vb, vo, none⟩), .int .i64 wi] ((w.alloc O).drewN q) fun e w' => e = .returned (.tuple #[]) ∧ Hid (RS w0 w' R cs ks (s ++ x)) ∧ Hid (Kp R w w')) := Lib.hid (fun O q =>
    (hC _ ((h.alloc O).drewN q) ((kp_alloc R w O).trans (kp_drewN R _ q))).mono (by
      rintro e w' ⟨rfl, a, b⟩
      exact ⟨rfl, a, Lib.hid (((kp_alloc R w O).trans (kp_drewN R _ q)).trans b.out)⟩))
  have hv0 : ∀ O, (w.alloc O).cell? ⟨vb, vo, none⟩ = some (.int .i64 4) := fun O => (hv.kp (kp_alloc R w O)).cell (h.alloc O).below
  have dw : decide (50 ≤ wi) = false := decide_eq_false (by omega)
  clear hC h hv
  go_enter Tryd.func31, Tryd.ntmps31
  go_wp2
  go_quiet (fail)
  go_wp2_with fail
  refine (CC.out _ _).mono ?_; rintro e w1 ⟨rfl, H1, K1⟩
  clear CC
  go_wp2
  first | go_end0 | (simp only [Exit.inBlock, Exit.then]; refine bodyPost_ret (results_none rfl _ _ _) rfl ?_) | refine bodyPost_ret (results_none rfl _ _ _) rfl ?_
  exact ⟨rfl, H1, K1⟩
set_option maxRecDepth 100000 in
set_option maxHeartbeats 4000000 in
theorem value_cell {w0 w : World} {R vb vo : Nat} {cs ks : Value} {s nm x : ByteArray} {wi vr : Int} {A0 : Option Addr} {n0 c0 : Nat} (h : RS w0 w R cs ks s)
    (hv : Has w0 w R vb vo (.int .i64 6)) (hw : wi < 50)
    (hC : ∀ W, RS w0 W R cs ks s → Kp R w W → Calls Tryd.prog 39 #[.pointer (some ⟨R, 0, none⟩), .pointer (some ⟨vb, vo, none⟩), .agg #[.int .i64 6, .string nm, .int .i64 vr, .slice A0 n0 c0], .int .i64 wi] W fun e w' => e = .returned (.tuple #[]) ∧ Hid (RS w0 w' R cs ks (s ++ x)) ∧ Hid (Kp R W w')) :
    Calls Tryd.prog 31 #[.pointer (some ⟨R, 0, none⟩), .pointer (some ⟨vb, vo, none⟩), .agg #[.int .i64 6, .string nm, .int .i64 vr, .slice A0 n0 c0], .int .i64 wi] w fun e w' => e = .returned (.tuple #[]) ∧ Hid (RS w0 w' R cs ks (s ++ x)) ∧ Hid (Kp R w w') := by
  have CC : Hid (∀ O q, Calls Tryd.prog 39 #[.pointer (some ⟨R, 0, none⟩), .pointer (some ⟨vb, vo, none⟩), .agg #[.int .i64 6, .string nm, .int .i64 vr, .slice A0 n0 c0], .int .i64 wi] ((w.alloc O).drewN q) fun e w' => e = .returned (.tuple #[]) ∧ Hid (RS w0 w' R cs ks (s ++ x)) ∧ Hid (Kp R w w')) := Lib.hid (fun O q =>
    (hC _ ((h.alloc O).drewN q) ((kp_alloc R w O).trans (kp_drewN R _ q))).mono (by
      rintro e w' ⟨rfl, a, b⟩
      exact ⟨rfl, a, Lib.hid (((kp_alloc R w O).trans (kp_drewN R _ q)).trans b.out)⟩))
  have hv0 : ∀ O, (w.alloc O).cell? ⟨vb, vo, none⟩ = some (.int .i64 6) := fun O => (hv.kp (kp_alloc R w O)).cell (h.alloc O).below
  have dw : decide (50 ≤ wi) = false := decide_eq_false (by omega)
  clear hC h hv
  go_enter Tryd.func31, Tryd.ntmps31
  go_wp2
  go_quiet (fail)
  go_wp2_with fail
  refine (CC.out _ _).mono ?_; rintro e w1 ⟨rfl, H1, K1⟩
  clear CC
  go_wp2
  first | go_end0 | (simp only [Exit.inBlock, Exit.then]; refine bodyPost_ret (results_none rfl _ _ _) rfl ?_) | refine bodyPost_ret (results_none rfl _ _ _) rfl ?_
  exact ⟨rfl, H1, K1⟩
theorem leaf_none {tk vk : Int} (h : leafV tk vk = none) : tk = vk ∧ (vk = 1 ∨ vk = 2 ∨ vk = 4 ∨ vk = 6) := by
  unfold leafV at h
  repeat' split at h
  all_goals first | (cases h; done) | (rename_i h1 h2 h3 h4; first | exact ⟨by assumption, by assumption⟩ | exact ⟨h1, by assumption⟩)
theorem bs_le {a b c : ByteArray} (h : a ++ b = c) : a.size ≤ c.size := by rw [← h, ByteArray.size_append]; omega
theorem ba_empty (a : ByteArray) : a ++ ByteArray.empty = a := by simp
/-- what stands below a renderer's text never shrinks: bounds on prefixes. -/
theorem value_any {w0 : World} {R ck cc : Nat} {Ak Ac : Option Addr} {cons : List CN} {cells : List VT} (hT : PowTab w0) (hc : CRow w0 Ak cons) (hl : cons.length ≤ 1000000) (hcl : VRow w0 Ac cells) :
    ∀ (f : Nat) (V : VT) (T : TT) (w : World) (s : ByteArray) (vb vo : Nat) (wi : Int) (A A2 : Option Addr) (c c2 : Nat), wi + f = 50 → 0 ≤ wi → RS w0 w R (.slice Ac cells.length cc) (.slice Ak cons.length ck) s →
      Has w0 w R vb vo (.int .i64 V.k) → Has w0 w R vb (vo + 1) (.int .i64 V.n) → (-9223372036854775808 ≤ V.n ∧ V.n ≤ 9223372036854775807) → Has w0 w R vb (vo + 2) (.string V.nm) → Has w0 w R vb (vo + 3) (.slice A V.args.length c) → VRow w0 A V.args → Has w0 w R vb (vo + 6) (.int .i64 V.at_) →
      TRow w0 A2 T.args → (s ++ rtext cells cons f V T).size ≤ 900000 →
      Calls Tryd.prog 31 #[.pointer (some ⟨R, 0, none⟩), .pointer (some ⟨vb, vo, none⟩), .agg #[.int .i64 T.k, .string T.nm, .int .i64 T.vr, .slice A2 T.args.length c2], .int .i64 wi] w fun e w' => e = .returned (.tuple #[]) ∧ Hid (RS w0 w' R (.slice Ac cells.length cc) (.slice Ak cons.length ck) (s ++ rtext cells cons f V T)) ∧ Hid (Kp R w w') := by
  intro f
  induction f with
  | zero =>
    intro V T w s vb vo wi A A2 c c2 hwi hw0 h _ _ _ _ _ _ _ _ hs
    exact value_dots h (by rw [ByteArray.size_append] at hs; omega) (by omega)
  | succ f ih =>
    intro V T w s vb vo wi A A2 c c2 hwi hw0 h v0 v1 v1b v2 v3 hA v6 hT2 hs
    have hs0 : s.size ≤ 900000 := by rw [ByteArray.size_append] at hs; omega
    have g0 : ∀ O, (w.alloc O).cell? ⟨vb, vo, none⟩ = some (.int .i64 V.k) := fun O => (v0.kp (kp_alloc R w O)).cell (h.alloc O).below
    have g1 : ∀ O, (w.alloc O).cell? ⟨vb, vo + 1, none⟩ = some (.int .i64 V.n) := fun O => (v1.kp (kp_alloc R w O)).cell (h.alloc O).below
    unfold rtext at hs ⊢
    cases hlf : leafV T.k V.k with
    | some x =>
      rw [hlf] at hs
      exact value_leaf h hs0 g0 (by omega) hlf
    | none =>
      rw [hlf] at hs
      obtain ⟨hk, hks⟩ := leaf_none hlf
      rw [hk]
      dsimp only at hs ⊢
      rcases hks with hk1 | hk1 | hk1 | hk1
      · rw [hk1] at g0 ⊢
        rw [if_pos rfl]
        exact value_num h hT hs0 g0 g1 (by omega) v1b.1 v1b.2
      · rw [hk1] at g0 ⊢
        rw [if_neg (by decide), if_pos rfl]
        exact value_bool h hs0 g0 g1 (by omega)
      · rw [hk1] at v0 hs ⊢
        rw [if_neg (by decide), if_neg (by decide), if_pos rfl] at hs ⊢
        refine value_con h v0 (by omega) (fun W hW hK => construct_any hW hc hl (by omega) (by omega) (v2.kp hK) (v3.kp hK) hA ?_ hs)
        intro a ha W s' b' o' t hta htv hRS hsz hok
        obtain ⟨tk, tn, tv, ta⟩ := t
        have hta : ta = [] := hta
        have htv : tv = 0 := htv
        subst hta htv
        rw [okV_eq] at hok
        obtain ⟨hb', hn, c0, c1, c2', ⟨A', c', c3, hA'⟩, c4, _, c6⟩ := hok
        exact ih a (.mk tk tn 0 []) W s' b' o' (wi + 1) A' none c' 0 (by omega) (by omega) hRS (.inr ⟨hb', c0⟩) (.inr ⟨hb', c1⟩) hn (.inr ⟨hb', c2'⟩) (.inr ⟨hb', c3⟩) hA' (.inr ⟨hb', c6⟩) (.inl rfl) hsz
      · rw [hk1] at v0 hs ⊢
        rw [if_neg (by decide), if_neg (by decide), if_neg (by decide)] at hs ⊢
        refine value_cell h v0 (by omega) (fun W hW hK => ?_)
        unfold refdT at hs ⊢
        by_cases hg : 0 ≤ V.at_ ∧ V.at_.toNat < cells.length ∧ T.args.length = 1
        · rw [dif_pos hg] at hs ⊢
          obtain ⟨ga, gb, gc⟩ := hg
          obtain ⟨cb, co, rfl, hcb, hcr⟩ : ∃ b o, Ac = some ⟨b, o, none⟩ ∧ b < w0.heap.size ∧ okL w0 cells b o := by
            rcases hcl with h1 | h1
            · omega
            · exact h1
          obtain ⟨tb, to_, rfl, htb, htr⟩ : ∃ b o, A2 = some ⟨b, o, none⟩ ∧ b < w0.heap.size ∧ okTL w0 T.args b o := by
            rcases hT2 with h1 | h1
            · omega
            · exact h1
          have hok := okL_at hcr V.at_.toNat gb
          obtain ⟨t1', ht1⟩ := List.length_eq_one_iff.1 gc
          obtain ⟨tk, tn, tv, ta⟩ := T
          have ht1 : ta = [t1'] := ht1
          subst ht1
          obtain ⟨htk, -⟩ : okT w0 t1' tb to_ ∧ True := by
            have h5 : okTL w0 [t1'] tb to_ := htr
            rw [okTL] at h5; exact ⟨h5.1, trivial⟩
          rw [okT_eq] at htk
          obtain ⟨_, t0, t1, t2, A3, c3, t3, hT3⟩ := htk
          have hj : V.at_ = (V.at_.toNat : Int) := (Int.toNat_of_nonneg ga).symm
          rw [hj] at v6
          have hs : (s ++ (refT ++ rtext cells cons f cells[V.at_.toNat] t1')).size ≤ 900000 := hs
          have hsz : (s ++ refT ++ rtext cells cons f cells[V.at_.toNat] t1').size ≤ 900000 := by rw [ByteArray.append_assoc]; exact hs
          show Calls Tryd.prog 39 #[.pointer (some ⟨R, 0, none⟩), .pointer (some ⟨vb, vo, none⟩), .agg #[.int .i64 6, .string tn, .int .i64 tv, .slice (some ⟨tb, to_, none⟩) 1 c2], .int .i64 wi] W fun e w' => e = .returned (.tuple #[]) ∧ Hid (RS w0 w' R (.slice (some ⟨cb, co, none⟩) cells.length cc) (.slice Ak cons.length ck) (s ++ (refT ++ rtext cells cons f cells[V.at_.toNat] t1'))) ∧ Hid (Kp R W w')
          rw [← ByteArray.append_assoc]
          refine cell_good hW hs0 (v6.kp hK) gb (by omega) (by omega) (A2 := A3) (c2 := c3) (n2 := t1'.args.length) (tk := t1'.k) (vr2 := t1'.vr) (nm2 := t1'.nm) (.inr ⟨htb, t0⟩) (.inr ⟨htb, t1⟩) (.inr ⟨htb, t2⟩) (.inr ⟨htb, t3⟩) ?_
          intro W2 hW2 hK2
          rw [okV_eq] at hok
          obtain ⟨hb', hn, c0, c1, c2', ⟨A', c', c3', hA'⟩, c4, _, c6⟩ := hok
          exact ih _ _ W2 _ cb (co + V.at_.toNat * 7) (wi + 1) A' A3 c' c3 (by omega) (by omega) hW2 (.inr ⟨hb', c0⟩) (.inr ⟨hb', c1⟩) hn (.inr ⟨hb', c2'⟩) (.inr ⟨hb', c3'⟩) hA' (.inr ⟨hb', c6⟩) hT3 hsz
        · rw [dif_neg hg] at hs ⊢
          rw [← ByteArray.append_assoc]
          refine cell_bad hW hs0 (v6.kp hK) ?_
          by_cases a1 : V.at_ < 0
          · exact .inl a1
          · by_cases a2 : (cells.length : Int) ≤ V.at_
            · exact .inr (.inl a2)
            · exact .inr (.inr (fun a3 => hg ⟨by omega, by omega, a3⟩))
/-- a value, a type, handed over by value. -/
def VIn (w : World) (V : VT) (v : Value) : Prop := ∃ A c e, v = .agg #[.int .i64 V.k, .int .i64 V.n, .string V.nm, .slice A V.args.length c, .int .i64 V.node, e, .int .i64 V.at_] ∧ (-9223372036854775808 ≤ V.n ∧ V.n ≤ 9223372036854775807) ∧ VRow w A V.args
def TIn (w : World) (T : TT) (v : Value) : Prop := ∃ A c, v = .agg #[.int .i64 T.k, .string T.nm, .int .i64 T.vr, .slice A T.args.length c] ∧ TRow w A T.args
theorem render_any {w : World} {ck cc : Nat} {Ak Ac : Option Addr} {cons : List CN} {cells : List VT} {V : VT} {T : TT} {v t : Value} (hT : PowTab w) (hc : CRow w Ak cons) (hl : cons.length ≤ 1000000) (hcl : VRow w Ac cells) (hv : VIn w V v) (ht : TIn w T t) (hs : (rtext cells cons 50 V T).size ≤ 900000) :
    Calls Tryd.prog 14 #[v, t, .slice Ac cells.length cc, .slice Ak cons.length ck] w fun e w' => e = .returned (.string (rtext cells cons 50 V T)) ∧ Below w.heap.size w w' := by
  obtain ⟨A, c, e, rfl, hn, hA⟩ := hv
  obtain ⟨A2, c2, rfl, hA2⟩ := ht
  refine render_of (fun W hW hh => ?_)
  have hs' : (ByteArray.empty ++ rtext cells cons 50 V T).size ≤ 900000 := by rw [ByteArray.empty_append]; exact hs
  have := value_any hT hc hl hcl 50 V T W .empty w.heap.size 0 0 A A2 c c2 (by omega) (by omega) hW (hh 0 _ rfl) (hh 1 _ rfl) hn (hh 2 _ rfl) (hh 3 _ rfl) hA (hh 6 _ rfl) hA2 hs'
  rw [ByteArray.empty_append] at this
  exact this.mono fun e w' ⟨h1, h2, _⟩ => ⟨h1, h2⟩
end Go.Proofs.YtclilpabdcdeoaaDoor
