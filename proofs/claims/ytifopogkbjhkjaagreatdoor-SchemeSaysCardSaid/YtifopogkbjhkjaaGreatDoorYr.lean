import Derived.Test.YtifopogkbjhkjaaGreatDoorYq
namespace Go.Proofs.YtifopogkbjhkjaaGreatDoor
open DR
open Go.ChangeShapes Go.WideShapes Go.ChangeAt Go.RowKit Go.WideMaps
set_option linter.unusedVariables false
set_option linter.unusedSimpArgs false
theorem sinv_nil : SInv [] := by
  have h0 : ∀ x, stA [] x = zeroT := fun x => by rw [stA_get]; split <;> simp
  refine ⟨⟨fun _ => 0, by simp, fun x hx => ?_, fun x y hx => ?_⟩, fun x _ => h0 x⟩
  · rw [h0] at hx; exact absurd rfl hx
  · rw [h0] at hx; exact absurd rfl hx
theorem resF_nil (t : TT) : resF [] t = t := by
  obtain ⟨rk, h⟩ := sinv_nil.ok
  refine resF_stop h (fun hb => hb.2 ?_)
  rw [stA_get]; split <;> simp [zeroT, TT.k]
theorem news_any {Pr : Nat → Prop} (hp : ∀ b, ¬ Pr b) (w : World) : Calls Tryz.prog 6 #[] w fun e w' => e = .returned (.pointer (some ⟨w.heap.size, 0, none⟩)) ∧ SubS w' Pr w.heap.size w.heap.size 0 [] ∧ Below w.heap.size w w' := by
  have h := heap_alloc_new w (.cells #[.int .i64 0, .slice none 0 0] SubY)
  have h2 := below_alloc w (.cells #[.int .i64 0, .slice none 0 0] SubY)
  go_enter Tryz.func6, Tryz.ntmps6
  go_wp2
  go_ret
  exact ⟨rfl, ⟨fun _ => False, .slice none 0 0, [], ⟨h, World.ownsRow_nil _ _ _ _, rfl, fun h => h.elim (fun h => h) (hp _), fun b hb => (by cases hb), Nat.le_refl _, fun _ h => (h.elim (fun h => h) (hp _)).elim, fun _ h => h.elim⟩, fun _ h => h.elim⟩, h2⟩
/-- the next variable's number is written. -/
theorem SubW.setn {w : World} {K Pr : Nat → Prop} {B sb : Nat} {n : Int} {St : List TT} {rv : Value} {xs : List Value} (m : Int) (h : SubW w K Pr B sb n St rv xs) : SubW (w.setCell ⟨sb, 0, none⟩ (.int .i64 m)) K Pr B sb m St rv xs := by
  have f : Frm w (w.setCell ⟨sb, 0, none⟩ (.int .i64 m)) (· = sb) := frm_set (R := (· = sb)) 0 _ rfl
  have hs := h.sbc
  exact ⟨by simp [World.setCell, Array.getElem?_modify, hs], own_frm h.row f (fun b hb e => h.rne b hb e), h.kids.move (fun b hb hk => ⟨f.block b hb (fun e => h.nsb (e ▸ h.kp b hk)), hk⟩) f.size, h.nsb, h.nrv, h.lo, fun b hb => Nat.lt_of_lt_of_le (h.kb b hb) f.size, h.kp⟩
set_option maxRecDepth 100000 in
set_option maxHeartbeats 2000000 in
theorem freshS {w : World} {Pr : Nat → Prop} {B sb : Nat} {n m : Int} {St : List TT} (h0 : 0 ≤ n) (h1 : n ≤ 1998) (hm : m = n + 1) (hS : SubS w Pr B sb n St) (hB : B ≤ w.heap.size) : Calls Tryz.prog 7 #[.pointer (some ⟨sb, 0, none⟩)] w fun e w' => e = .returned (tv (varT n) none 0) ∧ SubS w' Pr B sb m St ∧ Frm w w' (Tn Pr B) := by
  obtain ⟨K, rv, xs, hs, hd⟩ := hS
  have hlt := hs.slt
  have FIN : (∀ X Y : Obj, ∃ wf, wf = ((w.setCell ⟨sb, 0, none⟩ (.int .i64 (n + 1))).alloc X).alloc Y ∧ SubS wf Pr B sb m St ∧ Frm w wf (Tn Pr B) ∧ wf.heap[w.heap.size]? = some X) := fun X Y => by
    refine ⟨_, rfl, ⟨K, rv, xs, ?_, hd⟩, ?_, ?_⟩
    · have hq := hs.setn m
      rw [hm] at hq ⊢
      exact (hq.later (below_alloc _ _)).later (below_alloc _ _)
    · exact (frm_set (R := Tn Pr B) 0 _ ⟨hs.lo, fun e => hs.nsb (.inr e)⟩).trans (Frm.of_below (bt (below_alloc _ _) (below_alloc _ _)) (Nat.le_refl _) _)
    · have := (two_box (w := w.setCell ⟨sb, 0, none⟩ (.int .i64 (n + 1))) X Y).1
      rw [show (w.setCell ⟨sb, 0, none⟩ (.int .i64 (n + 1))).heap.size = w.heap.size by simp [World.setCell]] at this
      exact this
  have ws : IntKind.i64.wrap (n + 1) = n + 1 := IntWalk.i64_in _ (by omega)
  have hA := hs.later (below_alloc w (.cells #[.int .i64 0, .string ⟨#[]⟩, .int .i64 0, .slice none 0 0] 24))
  have a0 := (sub_cell hA.sbc).1
  have a2 := sub_frz hA.sbc 0
  have hB := hA.later (below_alloc _ (.cells #[.int .i64 7, .string ⟨#[]⟩, .int .i64 n, .slice none 0 0] 24))
  have b0 := (sub_cell hB.sbc).1
  have b2 := sub_frz hB.sbc 0
  have s0 := (sub_cell hs.sbc).1
  have s2 := sub_frz hs.sbc 0
  go_enter Tryz.func7, Tryz.ntmps7
  go_wp2
  (try rw [show min (n + 1) 1999 = n + 1 by omega])
  (try simp only [Exit.inBlock, Exit.then])
  · obtain ⟨wf, hwf, f1, f2, f3⟩ := FIN (.cells #[.int .i64 7, .string ⟨#[]⟩, .int .i64 n, .slice none 0 0] 24) (.cells #[.int .i64 7, .string ⟨#[]⟩, .int .i64 n, .slice none 0 0] 24)
    rw [← hwf]
    obtain ⟨⟨t0, t1, t2, t3⟩, -⟩ := zero_cells f3
    refine bodyPost_ret (by simp [results, Tryz.results7, go_sem, t0, t1, t2, t3]; try rfl) rfl ?_
    exact ⟨rfl, f1, f2⟩
open Classical in
/-- what Apply answers. -/
noncomputable def apG (St : List TT) (V : TT) : TT := if goodT V = true then apvF St V else V
def ApPost (w : World) (T : TT) (e : Ending) (w' : World) : Prop := ∃ A c, e = .returned (tv T A c) ∧ TRow w' any0 A T.args ∧ Below w.heap.size w w'
open Classical in
set_option maxRecDepth 100000 in
set_option maxHeartbeats 2000000 in
theorem applyS {d : Nat} {V : TT} {v : Value} {w : World} {Pr : Nat → Prop} {B sb : Nat} {n : Int} {St : List TT} (hd : d ≤ 7) (hbg : bigT d V = false) (hst : SInv St) (hS : SubS w Pr B sb n St) (h : TIn w any0 V v) : Calls Tryz.prog 33 #[.pointer (some ⟨sb, 0, none⟩), v] w (ApPost w (apG St V)) := by
  have hin := h
  obtain ⟨rk, hr⟩ := hst.ok
  obtain ⟨A, c, rfl, hA⟩ := h
  have CG := Lib.hid (fun W (hW : Below w.heap.size w W) => good_any hd hbg (hin.later hW))
  have HRED := Lib.hid (show SubR w sb n St by obtain ⟨K, rv, xs, hs, _⟩ := hS; exact hs.read)
  unfold tv at CG ⊢
  obtain ⟨wB, hwB⟩ : ∃ z, z = (w.alloc (.cells #[.int .i64 V.k, .string V.nm, .int .i64 V.vr, .slice A V.args.length c] 24)).alloc (.cells #[.int .i64 0, .string ⟨#[]⟩, .int .i64 0, .slice none 0 0] 24) := ⟨_, rfl⟩
  have BX := two_box (w := w) (.cells #[.int .i64 V.k, .string V.nm, .int .i64 V.vr, .slice A V.args.length c] 24) (.cells #[.int .i64 0, .string ⟨#[]⟩, .int .i64 0, .slice none 0 0] 24)
  have BB := Lib.hid (show Below w.heap.size w wB by rw [hwB]; exact bt (below_alloc w _) (below_alloc _ _))
  have HZ := Lib.hid (show wB.heap.size = w.heap.size + 2 by rw [hwB]; simp)
  rw [← hwB] at BX
  have HX := Lib.hid BX.1
  have HY := Lib.hid BX.2
  have HWB := Lib.hid hwB
  obtain ⟨x0, x1, x2, x3⟩ := cells4 BX.1
  have HA := Lib.hid hA
  by_cases hg : goodT V = true
  · have HF := Lib.hid (fun W (hW : Below w.heap.size w W) => full_ok (n := n) (sb := sb) hr V (good_shp hg) (tv V A c) W ⟨A, c, rfl, hA.later hW⟩ (HRED.out.later hW))
    have EQ := Lib.hid (show apG St V = apvF St V by unfold apG; rw [if_pos hg])
    rw [hg] at CG
    rw [EQ.out]
    obtain ⟨T, hT⟩ : ∃ T, T = apvF St V := ⟨_, rfl⟩
    rw [← hT] at HF ⊢
    unfold tv at HF
    clear BX hwB hg hT hr hA hin hS hst
    go_enter Tryz.func33, Tryz.ntmps33
    go_wp2_with fail
    rw [← HWB.out]
    go_wp2_with fail
    refine (CG.out _ BB.out).mono ?_; rintro e w1 ⟨rfl, hb1⟩
    have B1 := Lib.hid (bt BB.out hb1)
    have X1 := Lib.hid ((hb1.block w.heap.size (by have := HZ.out; omega)).trans HX.out)
    have Y1 := Lib.hid ((hb1.block (w.heap.size + 1) (by have := HZ.out; omega)).trans HY.out)
    have S1 := Lib.hid (show w.heap.size + 2 ≤ w1.heap.size by have := hb1.size; have := HZ.out; omega)
    obtain ⟨y0, y1, y2, y3⟩ := cells4 X1.out
    clear hb1 x0 x1 x2 x3 CG
    go_wp2_with fail
    refine (HF.out _ B1.out).mono ?_; rintro e w2 ⟨A2, c2, rfl, hr2, hb2⟩
    have B2 := Lib.hid (bt B1.out hb2)
    have R2 := Lib.hid hr2
    have Y2 := Lib.hid ((hb2.block (w.heap.size + 1) (by have := S1.out; omega)).trans Y1.out)
    clear hr2 hb2 HF y0 y1 y2 y3
    unfold tv
    obtain ⟨y0, y1, y2, y3⟩ := cells4 Y2.out
    obtain ⟨f0, f1, f2, f3⟩ := froz4 Y2.out
    obtain ⟨t0, t1, t2, t3⟩ := cells4 (cells_all (.int .i64 T.k) (.string T.nm) (.int .i64 T.vr) (.slice A2 T.args.length c2) Y2.out)
    have FR := Lib.hid (frm4 w2 (w.heap.size + 1) (.int .i64 T.k) (.string T.nm) (.int .i64 T.vr) (.slice A2 T.args.length c2))
    go_wp2
    (try simp only [Exit.inBlock, Exit.then])
    refine bodyPost_ret (by simp [results, Tryz.results33, go_sem, t0, t1, t2, t3]; try rfl) rfl ?_
    exact ⟨A2, c2, rfl, R2.out.move (P' := any0) (fun b hb (hp : w1.heap.size ≤ b) => ⟨FR.out.block b hb (by have := S1.out; show ¬ b = w.heap.size + 1; omega), trivial⟩) FR.out.size, B2.out.trans (FR.out.below (fun q hq => by have : q = w.heap.size + 1 := hq; omega) B2.out.size)⟩
  · have hg' : goodT V = false := by simpa using hg
    have EQ := Lib.hid (show apG St V = V by unfold apG; rw [if_neg hg])
    rw [hg'] at CG
    rw [EQ.out]
    clear BX hwB hg hg' hr hA hin hS hst
    go_enter Tryz.func33, Tryz.ntmps33
    go_wp2_with fail
    rw [← HWB.out]
    go_wp2_with fail
    refine (CG.out _ BB.out).mono ?_; rintro e w1 ⟨rfl, hb1⟩
    have B1 := Lib.hid (bt BB.out hb1)
    have X1 := Lib.hid ((hb1.block w.heap.size (by have := HZ.out; omega)).trans HX.out)
    have Y1 := Lib.hid ((hb1.block (w.heap.size + 1) (by have := HZ.out; omega)).trans HY.out)
    have S1 := Lib.hid (show w.heap.size + 2 ≤ w1.heap.size by have := hb1.size; have := HZ.out; omega)
    obtain ⟨z0, z1, z2, z3⟩ := cells4 X1.out
    obtain ⟨y0, y1, y2, y3⟩ := cells4 Y1.out
    obtain ⟨f0, f1, f2, f3⟩ := froz4 Y1.out
    obtain ⟨t0, t1, t2, t3⟩ := cells4 (cells_all (.int .i64 V.k) (.string V.nm) (.int .i64 V.vr) (.slice A V.args.length c) Y1.out)
    have FR := Lib.hid (frm4 w1 (w.heap.size + 1) (.int .i64 V.k) (.string V.nm) (.int .i64 V.vr) (.slice A V.args.length c))
    have RB := Lib.hid ((HA.out.weak (P' := (· < w.heap.size)) fun b hb _ => hb).later B1.out)
    clear hb1 x0 x1 x2 x3 CG
    go_wp2
    (try simp only [Exit.inBlock, Exit.then])
    refine bodyPost_ret (by simp [results, Tryz.results33, go_sem, t0, t1, t2, t3]; try rfl) rfl ?_
    exact ⟨A, c, rfl, RB.out.move (P' := any0) (fun b hb (hp : b < w.heap.size) => ⟨FR.out.block b hb (by show ¬ b = w.heap.size + 1; omega), trivial⟩) FR.out.size, B1.out.trans (FR.out.below (fun q hq => by have : q = w.heap.size + 1 := hq; omega) B1.out.size)⟩
end Go.Proofs.YtifopogkbjhkjaaGreatDoor
