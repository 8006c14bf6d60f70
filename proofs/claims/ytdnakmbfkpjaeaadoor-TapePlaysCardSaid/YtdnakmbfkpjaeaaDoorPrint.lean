import Derived.Test.YtdnakmbfkpjaeaaDoorRead
import Derived.RegionTactic
import Derived.ChangeAlike
namespace Go.Proofs.YtdnakmbfkpjaeaaDoor
open Go.ChangeShapes Go.WideShapes Go.ChangeAt Go.RowKit
set_option linter.unusedVariables false
set_option maxRecDepth 100000 in
set_option maxHeartbeats 2000000 in
theorem print_any {w : World} {B g : Nat} {iv ov : Value} {inp out : List Int} {rd : Nat} (x : Int) (t : Tp w B g iv ov inp out rd) (hl : out.length ≤ 100000) :
    Calls Tryd.prog 8 #[.pointer (some ⟨g, 0, none⟩), .int .i64 x] w fun e w' => ∃ ov', e = .returned (.tuple #[]) ∧ Hid (Tp w' B g iv ov' inp (out ++ [x]) rd) ∧ Hid (Frm w w' (Mine g ov)) ∧ Hid (∀ k, ov'.ownBlock = some k → ov.ownBlock = some k ∨ w.heap.size ≤ k) := by
  obtain ⟨i0, hi0, hz0, hz1, hz2⟩ := info_parts info2
  have c1 := t.obj.c1
  have T := Lib.hid t
  have hB : B ≤ w.heap.size := Nat.le_of_lt (Nat.lt_of_le_of_lt t.le t.obj.lt)
  obtain ⟨n, hn⟩ : ∃ n, n = out.length := ⟨_, rfl⟩
  have OWN : Hid (w.ownsRow B 2 1 ov n (its out)) := Lib.hid (by rw [hn]; exact t.rout)
  have HN := Lib.hid hn
  have hnl : n ≤ 100000 := by omega
  clear t hn hl
  go_enter Tryd.func8, Tryd.ntmps8
  go_wp2_with (at_builtin; refine wpList_append_lies _ rfl (.tmp 8) (.tmp 10) 22 rfl B 2 i0 (.int .i64 0) 1 8 Tryd.underlying22 hi0 hz0 hz1 hz2 rfl (by decide) _ n (its out) rfl (OWN.out.alloc _) ⟨w.heap.size, 0, none⟩ 1 1 [.int .i64 x] rfl rfl ?c1 ?c2 (by omega) (by unfold maxLen; omega) (by omega) (by simp; omega) (w.heap.size + 1) (by simp) ?_)
  case c1 =>
    intro j u hj
    match j, hj with
    | 0, hj => simp at hj; subst hj; exact new_cell w _ 2
  case c2 => intro u hu; simp at hu; subst hu; rfl
  intro go cap w2 own2 gr2 at2 lt2
  have fr : Frm w w2 (fun k => ov.ownBlock = some k) := (Frm.of_below (below_alloc w (.cells #[.int .i64 x] 2)) (Nat.le_refl _) _).trans (Frm.of_grown gr2 (fun k h => h))
  have own2' : w2.ownsRow B 2 1 (.slice (some ⟨go, 0, none⟩) (n + 1) cap) (n + 1) (its (out ++ [x])) := by rw [its_app]; exact own2
  have hgo : go ≠ g := by
    rcases at2 with e | e
    · intro h; exact T.out.no (h ▸ e)
    · have := T.out.obj.lt; omega
  have obj2 : TObj w2 g iv ov rd := (fr.block g T.out.obj.lt (fun e => T.out.no e)).trans T.out.obj
  have x1 := obj2.c1; have f1 := obj2.f 1
  have TP : Hid (Tp (w2.setCell ⟨g, 1, none⟩ (.slice (some ⟨go, 0, none⟩) (n + 1) cap)) B g iv (.slice (some ⟨go, 0, none⟩) (n + 1) cap) inp (out ++ [x]) rd) := Lib.hid (by
    refine ⟨obj2.set1 _, ?_, ?_, T.out.ni, by simp [Value.ownBlock]; exact hgo, ?_, T.out.le, T.out.rd⟩
    · exact own_frm (own_frm T.out.rin fr (fun k h e => T.out.ne k e h)) (frm_set (R := (· = g)) 1 _ rfl) (fun k h e => T.out.ni (e ▸ h))
    · have := own_frm own2' (frm_set (w := w2) (g := g) (R := (· = g)) 1 (.slice (some ⟨go, 0, none⟩) (n + 1) cap) rfl) (fun k h e => by simp [Value.ownBlock] at h; omega)
      rwa [List.length_append, List.length_singleton, ← HN.out]
    · intro k hk
      simp [Value.ownBlock] at hk
      subst hk
      rcases at2 with e | e
      · exact T.out.ne _ e
      · intro h; have := (T.out.rin.lt _ h).2; omega)
  have FR : Hid (Frm w (w2.setCell ⟨g, 1, none⟩ (.slice (some ⟨go, 0, none⟩) (n + 1) cap)) (Mine g ov)) := Lib.hid ((fr.mono (fun k _ h => .inr h)).trans (frm_set 1 _ (.inl rfl)))
  have NB : Hid (∀ k, (Value.slice (some ⟨go, 0, none⟩) (n + 1) cap).ownBlock = some k → ov.ownBlock = some k ∨ w.heap.size ≤ k) := Lib.hid (fun k hk => by
    simp [Value.ownBlock] at hk
    subst hk
    rcases at2 with e | e
    · exact .inl e
    · right; omega)
  clear own2 own2' gr2 at2 lt2 fr obj2
  go_wp2
  go_returns
  exact ⟨_, rfl, TP, FR, NB⟩
theorem own_cut {w : World} {B n p : Nat} {v : Value} {xs : List Int} (h : w.ownsRow B 2 1 v n (its xs)) (hp : p ≤ n) : ∃ A c, v = .slice A n c ∧ w.ownsRow B 2 1 (.slice A p c) p (its (xs.take p)) ∧ (Value.slice A p c).ownBlock = v.ownBlock ∧ (A = none → c = 0) ∧ n ≤ c ∧ (∀ a, A = some a → a.off = 0 ∧ ∃ g, a = ⟨g, 0, none⟩) := by
  have hl := iown_len h
  rcases h.2 with ⟨rfl, rfl⟩ | ⟨g, cap, cur, rfl, hb, hg, hc, hm, hs, ht⟩
  · obtain rfl : p = 0 := by omega
    exact ⟨none, 0, rfl, by simpa [its] using World.ownsRow_nil w B 2 1, rfl, fun _ => rfl, Nat.le_refl _, fun a e => by cases e⟩
  · refine ⟨_, cap, rfl, ⟨by rw [its_len, List.length_take]; omega, .inr ⟨g, cap, cur, rfl, hb, hg, by omega, hm, hs, ?_⟩⟩, rfl, fun e => (by cases e), hc, fun a e => ?_⟩
    · have := congrArg (List.take p) ht
      rw [List.take_take] at this
      simp only [Nat.mul_one] at this ⊢
      rw [show min p n = p by omega] at this
      rw [this]; simp [its, List.map_take]
    · injection e with e; subst e; exact ⟨rfl, g, rfl⟩
theorem frm_back (w : World) (g : Nat) (x y : Value) : Frm w (((w.setCell ⟨g, 2, none⟩ x).setCell ⟨g, 1, none⟩ y).drew) (· = g) := by
  have h := (frm_set (w := w) (R := (· = g)) 2 x rfl).trans (frm_set (R := (· = g)) 1 y rfl)
  exact ⟨h.os, h.tape, h.output, h.size, h.block⟩
theorem Tp.back {w : World} {B g : Nat} {iv ov ov' : Value} {inp out : List Int} {rd r p : Nat} (t : Tp w B g iv ov inp out rd) (cut : w.ownsRow B 2 1 ov' p (its (out.take p))) (ob : ov'.ownBlock = ov.ownBlock) (hr : r ≤ rd) :
    Tp (((w.setCell ⟨g, 2, none⟩ (.int .i64 r)).setCell ⟨g, 1, none⟩ ov').drew) B g iv ov' inp (out.take p) r := by
  have f := frm_back w g (.int .i64 r) ov'
  have ho : TObj ((w.setCell ⟨g, 2, none⟩ (.int .i64 r)).setCell ⟨g, 1, none⟩ ov') g iv ov' r := (t.obj.set2 r).set1 ov'
  have hpl := iown_len cut
  refine ⟨ho, own_frm t.rin f (fun k h e => t.ni (e ▸ h)), ?_, t.ni, by rw [ob]; exact t.no, fun k h => t.ne k (ob ▸ h), t.le, Nat.le_trans hr t.rd⟩
  rw [← hpl]
  exact own_frm cut f (fun k h e => t.no (by rw [← ob, ← e]; exact h))
set_option maxRecDepth 100000 in
set_option maxHeartbeats 2000000 in
theorem back_any {w : World} {B g : Nat} {iv ov : Value} {inp out : List Int} {rd r p : Nat} (t : Tp w B g iv ov inp out rd) (hr : r ≤ rd) (hp : p ≤ out.length) (hl : out.length ≤ 100000) (hi : inp.length ≤ 1000) :
    Calls Tryd.prog 9 #[.pointer (some ⟨g, 0, none⟩), .int .i64 r, .int .i64 p] w fun e w' => ∃ ov', e = .returned (.int .i64 0) ∧ Hid (Tp w' B g iv ov' inp (out.take p) r) ∧ Hid (Frm w w' (· = g)) ∧ Hid (ov'.ownBlock = ov.ownBlock) := by
  obtain ⟨A, c, rfl, cut, ob, hA, hnc, hAa⟩ := own_cut t.rout hp
  have c1 := t.obj.c1; have c2 := t.obj.c2; have f1 := t.obj.f 1; have f2 := t.obj.f 2
  have T := Lib.hid t
  have hrd := t.rd
  obtain ⟨n, hn⟩ : ∃ n, n = out.length := ⟨_, rfl⟩
  rw [← hn] at c1 hp hnc
  have d1 := decide_eq_false (show ¬ (r : Int) < 0 by omega)
  have d2 := decide_eq_false (show ¬ (rd : Int) < (r : Int) by omega)
  have d2' := decide_eq_false (show ¬ rd < r by omega)
  have d3 := decide_eq_false (show ¬ (p : Int) < 0 by omega)
  have d4 := decide_eq_false (show ¬ (n : Int) < (p : Int) by omega)
  have d4' := decide_eq_false (show ¬ n < p by omega)
  have CUT := Lib.hid cut; have OB := Lib.hid ob
  have hpc : p ≤ c := by omega
  clear t cut ob
  rcases A with _ | a
  · obtain rfl : c = 0 := hA rfl
    obtain rfl : p = 0 := by omega
    clear hA hAa
    go_enter Tryd.func9, Tryd.ntmps9
    go_wp2
    go_region
    all_goals (
      go_wp2
      go_ret
      exact ⟨_, rfl, Lib.hid (T.out.back CUT.out OB.out hr), Lib.hid (frm_back w g _ _), OB⟩)
  · obtain ⟨go, rfl⟩ := (hAa a rfl).2
    clear hA hAa
    go_enter Tryd.func9, Tryd.ntmps9
    go_wp2
    go_region
    all_goals (
      go_wp2
      go_ret
      exact ⟨_, rfl, Lib.hid (T.out.back CUT.out OB.out hr), Lib.hid (frm_back w g _ _), OB⟩)
set_option maxRecDepth 100000 in
set_option maxHeartbeats 2000000 in
theorem marks_any {w : World} {B g : Nat} {iv ov : Value} {inp out : List Int} {rd : Nat} (t : Tp w B g iv ov inp out rd) :
    Calls Tryd.prog 10 #[.pointer (some ⟨g, 0, none⟩)] w fun e w' => e = .returned (.tuple #[.int .i64 rd, .int .i64 out.length]) ∧ Below w.heap.size w w' := by
  have c1 := t.obj.c1; have c2 := t.obj.c2
  obtain ⟨A, c, rfl⟩ := iform t.rout
  clear t
  go_enter Tryd.func10, Tryd.ntmps10
  go_wp2
  go_quiet (fail)
  go_wp2
  go_returns
  exact ⟨rfl, below_drewN _ _⟩
end Go.Proofs.YtdnakmbfkpjaeaaDoor
