import Derived.Test.YtkecnhogooaccaaPlace
namespace Go.Proofs.Ytkecnhogooaccaa
open Go.ChangeShapes Go.WideShapes Go.ChangeAt Go.RowKit
set_option linter.unusedVariables false
/-- the stack's blocks that may turn when words are added. -/
def MineW (g : Nat) (wv : Value) (k : Nat) : Prop := k = g ∨ wv.ownBlock = some k
theorem good_more {fr : List Fm} {f : Fm} {n m : Nat} (h : Good (fr ++ [f]).reverse n) (hm : n ≤ m) : Good (fr ++ [f]).reverse m := by
  rw [List.reverse_append] at h ⊢
  exact ⟨Nat.le_trans h.1 hm, h.2⟩
set_option maxRecDepth 100000 in
set_option maxHeartbeats 2000000 in
theorem add_ok {w : World} {B g room : Nat} {fv wv : Value} {fr : List Fm} {f : Fm} {ws : List Int} (x : Int) (t : Sk w B g room fv wv (fr ++ [f]) ws) (hr : ws.length + 2 * (fr.length + 1) + 1 ≤ room) :
    Calls Try.prog 10 #[.pointer (some ⟨g, 0, none⟩), .int .u64 x] w fun e w' => ∃ wv', e = .returned (.int .i64 0) ∧ Hid (Sk w' B g room fv wv' (fr ++ [f]) (ws ++ [x])) ∧ Hid (Frm w w' (MineW g wv)) ∧ Hid (∀ k, wv'.ownBlock = some k → wv.ownBlock = some k ∨ w.heap.size ≤ k) := by
  obtain ⟨i0, hi0, hz0, hz1, hz2⟩ := info_parts info30
  have T := Lib.hid t
  have c1 := t.obj.c1
  have hB : B ≤ w.heap.size := Nat.le_of_lt (Nat.lt_of_le_of_lt t.le t.obj.lt)
  obtain ⟨gf, cf, rfl⟩ := Go.Joins.ownsRow_form t.rf (by simp)
  obtain ⟨N, hN⟩ : ∃ N, N = (fr ++ [f]).length := ⟨_, rfl⟩
  rw [← hN] at c1
  have hN0 : ((N : Int) == 0) = false := beq_eq_false_iff_ne.2 (by rw [hN]; simp; omega)
  have hN0' : (N == 0) = false := beq_eq_false_iff_ne.2 (by rw [hN]; simp)
  have FREE : Hid (∀ W, Below w.heap.size w W → Calls Try.prog 38 #[.pointer (some ⟨g, 0, none⟩)] W fun e w' => ∃ F : Nat, e = .returned (.int .i64 (F : Int)) ∧ 1 ≤ F ∧ Below W.heap.size W w') := Lib.hid (fun W hW => (free_any (t.below hW)).mono (fun e w' ⟨he, hb⟩ => ⟨_, he, by simp; omega, hb⟩))
  obtain ⟨n, hn⟩ : ∃ n, n = ws.length := ⟨_, rfl⟩
  have hnl : n ≤ 4096 := by have := t.fits; have := t.small; omega
  have HN := Lib.hid hn
  have HR := Lib.hid hr
  clear t hN hn hr
  go_enter Try.func10, Try.ntmps10
  go_wp2_with fail
  refine (FREE.out _ (Below.refl _ _)).mono ?_; rintro e w1 ⟨F, rfl, hF, hb1⟩
  have d1 := decide_eq_false (show ¬ (F : Int) < 1 by omega)
  have d1' := decide_eq_false (show ¬ F < 1 by omega)
  have T1 := Lib.hid (T.out.below hb1)
  have OWN : Hid (w1.ownsRow B 30 1 wv n (wds ws)) := Lib.hid (by rw [HN.out]; exact T1.out.rw_)
  have F1 := Lib.hid hb1
  have c2 := T1.out.obj.c2
  have hB1 : B ≤ w1.heap.size := Nat.le_trans hB hb1.size
  clear hb1 hF FREE
  go_wp2_with (at_builtin; refine wpList_append_lies _ rfl (.tmp 18) (.tmp 20) 35 rfl B 30 i0 (.int .u64 0) 1 8 Try.underlying35 hi0 hz0 hz1 hz2 rfl (by decide) _ n (wds ws) rfl (OWN.out.alloc _) ⟨w1.heap.size, 0, none⟩ 1 1 [.int .u64 x] rfl rfl ?c1 ?c2 (by omega) (by unfold maxLen; omega) (by omega) (by simp; omega) (w1.heap.size + 1) (by simp) ?_)
  case c1 =>
    intro j u hj
    match j, hj with
    | 0, hj => simp at hj; subst hj; exact new_cell w1 _ 30
  case c2 => intro u hu; simp at hu; subst hu; rfl
  intro go cap w2 own2 gr2 at2 lt2
  have fr2 : Frm w1 w2 (fun k => wv.ownBlock = some k) := (Frm.of_below (below_alloc w1 (.cells #[.int .u64 x] 30)) (Nat.le_refl _) _).trans (Frm.of_grown gr2 (fun k h => h))
  have own2' : w2.ownsRow B 30 1 (.slice (some ⟨go, 0, none⟩) (n + 1) cap) (n + 1) (wds (ws ++ [x])) := by rw [wds_app]; exact own2
  have hgo : go ≠ g := by
    rcases at2 with e | e
    · intro h; exact T1.out.nw (h ▸ e)
    · have := T1.out.obj.lt; omega
  have obj2 : SObj w2 g room _ wv := (fr2.block g T1.out.obj.lt (fun e => T1.out.nw e)).trans T1.out.obj
  have x1 := obj2.c2; have f1 := obj2.f 2
  have SK : Hid (Sk (w2.setCell ⟨g, 2, none⟩ (.slice (some ⟨go, 0, none⟩) (n + 1) cap)) B g room (.slice (some ⟨gf, 0, none⟩) (fr ++ [f]).length cf) (.slice (some ⟨go, 0, none⟩) (n + 1) cap) (fr ++ [f]) (ws ++ [x])) := Lib.hid (by
    refine ⟨obj2.set2 _, ?_, ?_, T1.out.nf, by simp [Value.ownBlock]; exact hgo, ?_, T1.out.le, ?_, ?_, T1.out.small⟩
    · exact own_frm (own_frm T1.out.rf fr2 (fun k h e => T1.out.ne k h e)) (frm_set (R := (· = g)) 2 _ rfl) (fun k h e => T1.out.nf (e ▸ h))
    · have := own_frm own2' (frm_set (w := w2) (g := g) (R := (· = g)) 2 (.slice (some ⟨go, 0, none⟩) (n + 1) cap) rfl) (fun k h e => by simp [Value.ownBlock] at h; omega)
      rwa [List.length_append, List.length_singleton, ← HN.out]
    · intro k hk
      simp only [Value.ownBlock]
      intro hk2
      injection hk2 with hk2
      subst hk2
      rcases at2 with e | e
      · exact T1.out.ne _ hk e
      · have := (T1.out.rf.lt _ hk).2; omega
    · exact good_more T1.out.good (by simp)
    · have := HR.out; simp; omega)
  have FR : Hid (Frm w (w2.setCell ⟨g, 2, none⟩ (.slice (some ⟨go, 0, none⟩) (n + 1) cap)) (MineW g wv)) := Lib.hid ((Frm.of_below F1.out (Nat.le_refl _) _).trans ((fr2.mono (fun k _ h => .inr h)).trans (frm_set 2 _ (.inl rfl))))
  have NB : Hid (∀ k, (Value.slice (some ⟨go, 0, none⟩) (n + 1) cap).ownBlock = some k → wv.ownBlock = some k ∨ w.heap.size ≤ k) := Lib.hid (fun k hk => by
    simp [Value.ownBlock] at hk
    subst hk
    have := F1.out.size
    rcases at2 with e | e
    · exact .inl e
    · right; omega)
  clear own2 own2' gr2 at2 lt2 fr2 obj2 hgo
  go_wp2
  go_ret
  exact ⟨_, rfl, SK, FR, NB⟩
end Go.Proofs.Ytkecnhogooaccaa
