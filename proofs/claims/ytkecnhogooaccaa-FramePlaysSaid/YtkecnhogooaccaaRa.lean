import Derived.Test.YtkecnhogooaccaaRz
namespace Go.Proofs.Ytkecnhogooaccaa
open Go.ChangeShapes Go.WideShapes Go.ChangeAt Go.RowKit
set_option linter.unusedVariables false
theorem used_app (a b : List RF) : used (a ++ b) = used a + used b := by
  unfold used
  rw [wdOf_app]
  simp
  omega
theorem used_cons (f : RF) (b : List RF) : used (f :: b) = 2 + f.slots.length + f.added.length + used b := by
  have h := used_app [f] b
  have h2 := used_snoc [] f
  rw [List.nil_append] at h2
  rw [List.singleton_append] at h
  rw [h, h2]
  simp [used, wdOf]
theorem wds_length (xs : List Int) : (wds xs).length = xs.length := wds_len xs
theorem frz_set {w : World} {b i : Nat} {u : Value} {g : Nat} (h : b ≠ g) : (w.setCell ⟨b, i, none⟩ u).heap[g]? = w.heap[g]? := by simp [World.setCell, Array.getElem?_modify, h]
/-- another row of words for what was added. -/
theorem RS.putAv {w : World} {B g room N c bf : Nat} {a b : List RX} {x : RX} {av : Value} {ad : List Int} (t : RS w B g room (.slice (some ⟨bf, 0, none⟩) N c) (a ++ x :: b)) (hav : Rw w B 29 1 av ad.length (wds ad))
    (hap : ∀ k, rb av = some k → rb x.av = some k ∨ ∀ z ∈ rowsOf (a ++ x :: b), rb z ≠ some k) (hfit : used (a.map (·.f)) + (2 + x.f.slots.length + ad.length) + used (b.map (·.f)) ≤ room) :
    RS (w.setCell ⟨bf, a.length * 4 + 3, none⟩ av) B g room (.slice (some ⟨bf, 0, none⟩) N c) (a ++ ⟨{ x.f with added := ad }, x.sv, av⟩ :: b) ∧ Frm w (w.setCell ⟨bf, a.length * 4 + 3, none⟩ av) (· = bf) ∧ (∀ k, Own g (.slice (some ⟨bf, 0, none⟩) N c) (a ++ ⟨{ x.f with added := ad }, x.sv, av⟩ :: b) k → Own g (.slice (some ⟨bf, 0, none⟩) N c) (a ++ x :: b) k ∨ rb av = some k) := by
  have hN : N = (a ++ x :: b).length := by
    obtain ⟨A', c', e, _⟩ := t.shape
    injection e
  have hN0 : 0 < N := by rw [hN]; simp; omega
  have hl : (a ++ ⟨{ x.f with added := ad }, x.sv, av⟩ :: b : List RX).length = N := by rw [hN]; simp
  have hrf := t.rf
  rw [← hN] at hrf
  have hfb : rb (.slice (some ⟨bf, 0, none⟩) N c) = some bf := rb_pos hN0
  have hs := hrf.set hN0 (a.length * 4 + 3) av (by rw [hN]; simp; omega)
  rw [frc_set3 a b x av ad] at hs
  have hgb : bf ≠ g := fun e => t.gf (by rw [hfb, e])
  have fr : Frm w (w.setCell ⟨bf, a.length * 4 + 3, none⟩ av) (· = bf) := frm_set _ _ rfl
  have er : rowsOf (a ++ x :: b) = (rowsOf a ++ [x.sv]) ++ x.av :: rowsOf b := by rw [rowsOf_app, rowsOf_cons]; simp
  have er' : rowsOf (a ++ ⟨{ x.f with added := ad }, x.sv, av⟩ :: b) = (rowsOf a ++ [x.sv]) ++ av :: rowsOf b := by rw [rowsOf_app, rowsOf_cons]; simp
  have hap' := t.ap
  rw [er] at hap'
  have keep : ∀ v n (vs : List Value), v ∈ rowsOf (a ++ x :: b) → Rw w B 29 1 v n vs → Rw (w.setCell ⟨bf, a.length * 4 + 3, none⟩ av) B 29 1 v n vs := fun v n vs hv h =>
    h.frm fr (fun k hk e => t.fz v hv k hk (by rw [hfb, e]))
  have avb : ∀ k, rb av = some k → k ≠ bf := fun k hk e => by
    obtain ⟨_, _, cur, h1⟩ := hav.lt k hk
    obtain ⟨_, _, cur2, h2⟩ := hrf.lt bf hfb
    rw [e, h2] at h1
    injection h1 with h1; injection h1 with _ h1; cases h1
  refine ⟨⟨(frz_set hgb).trans t.obj, t.le, by rw [hl]; exact hs, ?_, ?_, ?_, ?_, t.small⟩, fr, ?_⟩
  · intro y hy
    rcases List.mem_append.1 hy with hy | hy
    · exact keep _ _ _ (rows_mem (by simp [hy])).1 (t.rs y (by simp [hy]))
    · rcases List.mem_cons.1 hy with rfl | hy
      · exact keep _ _ _ (rows_mem (x := x) (by simp)).1 (t.rs x (by simp))
      · exact keep _ _ _ (rows_mem (by simp [hy])).1 (t.rs y (by simp [hy]))
  · intro y hy
    rcases List.mem_append.1 hy with hy | hy
    · exact keep _ _ _ (rows_mem (by simp [hy])).2 (t.ra y (by simp [hy]))
    · rcases List.mem_cons.1 hy with rfl | hy
      · exact hav.frm fr avb
      · exact keep _ _ _ (rows_mem (by simp [hy])).2 (t.ra y (by simp [hy]))
  · rw [er']
    refine apart_one hap' fun k hk z hz => ?_
    rcases hap k hk with h | h
    · exact hap'.mid z hz k h
    · refine h z ?_
      rw [er]
      rcases List.mem_append.1 hz with hz | hz
      · exact List.mem_append.2 (.inl hz)
      · exact List.mem_append.2 (.inr (List.mem_cons_of_mem _ hz))
  · rw [List.map_append, List.map_cons, used_app, used_cons]
    show used (a.map (·.f)) + (2 + x.f.slots.length + ad.length + used (b.map (·.f))) ≤ room
    omega
  · rintro k (h | h | ⟨z, hz, h⟩)
    · exact .inl (.inl h)
    · exact .inl (.inr (.inl h))
    · rw [er'] at hz
      rcases List.mem_append.1 hz with hz | hz
      · exact .inl (.inr (.inr ⟨z, by rw [er]; exact List.mem_append.2 (.inl hz), h⟩))
      · rcases List.mem_cons.1 hz with rfl | hz
        · exact .inr h
        · exact .inl (.inr (.inr ⟨z, by rw [er]; exact List.mem_append.2 (.inr (List.mem_cons_of_mem _ hz)), h⟩))
/-- another row of words for the slots. -/
theorem RS.putSv {w : World} {B g room N c bf : Nat} {a b : List RX} {x : RX} {sv : Value} {sl : List Int} (t : RS w B g room (.slice (some ⟨bf, 0, none⟩) N c) (a ++ x :: b)) (hav : Rw w B 29 1 sv sl.length (wds sl))
    (hap : ∀ k, rb sv = some k → rb x.sv = some k ∨ ∀ z ∈ rowsOf (a ++ x :: b), rb z ≠ some k) (hfit : used (a.map (·.f)) + (2 + sl.length + x.f.added.length) + used (b.map (·.f)) ≤ room) :
    RS (w.setCell ⟨bf, a.length * 4 + 2, none⟩ sv) B g room (.slice (some ⟨bf, 0, none⟩) N c) (a ++ ⟨{ x.f with slots := sl }, sv, x.av⟩ :: b) ∧ Frm w (w.setCell ⟨bf, a.length * 4 + 2, none⟩ sv) (· = bf) ∧ (∀ k, Own g (.slice (some ⟨bf, 0, none⟩) N c) (a ++ ⟨{ x.f with slots := sl }, sv, x.av⟩ :: b) k → Own g (.slice (some ⟨bf, 0, none⟩) N c) (a ++ x :: b) k ∨ rb sv = some k) := by
  have hN : N = (a ++ x :: b).length := by
    obtain ⟨A', c', e, _⟩ := t.shape
    injection e
  have hN0 : 0 < N := by rw [hN]; simp; omega
  have hl : (a ++ ⟨{ x.f with slots := sl }, sv, x.av⟩ :: b : List RX).length = N := by rw [hN]; simp
  have hrf := t.rf
  rw [← hN] at hrf
  have hfb : rb (.slice (some ⟨bf, 0, none⟩) N c) = some bf := rb_pos hN0
  have hs := hrf.set hN0 (a.length * 4 + 2) sv (by rw [hN]; simp; omega)
  rw [frc_set2 a b x sv sl] at hs
  have hgb : bf ≠ g := fun e => t.gf (by rw [hfb, e])
  have fr : Frm w (w.setCell ⟨bf, a.length * 4 + 2, none⟩ sv) (· = bf) := frm_set _ _ rfl
  have er : rowsOf (a ++ x :: b) = rowsOf a ++ x.sv :: (x.av :: rowsOf b) := by rw [rowsOf_app, rowsOf_cons]; simp
  have er' : rowsOf (a ++ ⟨{ x.f with slots := sl }, sv, x.av⟩ :: b) = rowsOf a ++ sv :: (x.av :: rowsOf b) := by rw [rowsOf_app, rowsOf_cons]; simp
  have hap' := t.ap
  rw [er] at hap'
  have keep : ∀ v n (vs : List Value), v ∈ rowsOf (a ++ x :: b) → Rw w B 29 1 v n vs → Rw (w.setCell ⟨bf, a.length * 4 + 2, none⟩ sv) B 29 1 v n vs := fun v n vs hv h =>
    h.frm fr (fun k hk e => t.fz v hv k hk (by rw [hfb, e]))
  have avb : ∀ k, rb sv = some k → k ≠ bf := fun k hk e => by
    obtain ⟨_, _, cur, h1⟩ := hav.lt k hk
    obtain ⟨_, _, cur2, h2⟩ := hrf.lt bf hfb
    rw [e, h2] at h1
    injection h1 with h1; injection h1 with _ h1; cases h1
  refine ⟨⟨(frz_set hgb).trans t.obj, t.le, by rw [hl]; exact hs, ?_, ?_, ?_, ?_, t.small⟩, fr, ?_⟩
  · intro y hy
    rcases List.mem_append.1 hy with hy | hy
    · exact keep _ _ _ (rows_mem (by simp [hy])).1 (t.rs y (by simp [hy]))
    · rcases List.mem_cons.1 hy with rfl | hy
      · exact hav.frm fr avb
      · exact keep _ _ _ (rows_mem (by simp [hy])).1 (t.rs y (by simp [hy]))
  · intro y hy
    rcases List.mem_append.1 hy with hy | hy
    · exact keep _ _ _ (rows_mem (by simp [hy])).2 (t.ra y (by simp [hy]))
    · rcases List.mem_cons.1 hy with rfl | hy
      · exact keep _ _ _ (rows_mem (x := x) (by simp)).2 (t.ra x (by simp))
      · exact keep _ _ _ (rows_mem (by simp [hy])).2 (t.ra y (by simp [hy]))
  · rw [er']
    refine apart_one hap' fun k hk z hz => ?_
    rcases hap k hk with h | h
    · exact hap'.mid z hz k h
    · refine h z ?_
      rw [er]
      rcases List.mem_append.1 hz with hz | hz
      · exact List.mem_append.2 (.inl hz)
      · exact List.mem_append.2 (.inr (List.mem_cons_of_mem _ hz))
  · rw [List.map_append, List.map_cons, used_app, used_cons]
    show used (a.map (·.f)) + (2 + sl.length + x.f.added.length + used (b.map (·.f))) ≤ room
    omega
  · rintro k (h | h | ⟨z, hz, h⟩)
    · exact .inl (.inl h)
    · exact .inl (.inr (.inl h))
    · rw [er'] at hz
      rcases List.mem_append.1 hz with hz | hz
      · exact .inl (.inr (.inr ⟨z, by rw [er]; exact List.mem_append.2 (.inl hz), h⟩))
      · rcases List.mem_cons.1 hz with rfl | hz
        · exact .inr h
        · exact .inl (.inr (.inr ⟨z, by rw [er]; exact List.mem_append.2 (.inr (List.mem_cons_of_mem _ hz)), h⟩))
/-- a word of the slots is set. -/
theorem RS.setSlot {w : World} {B g room b2 c2 : Nat} {fv : Value} {a b : List RX} {x : RX} (t : RS w B g room fv (a ++ x :: b)) (e : x.sv = .slice (some ⟨b2, 0, none⟩) x.f.slots.length c2) (k : Nat) (hk : k < x.f.slots.length) (u : Int) :
    RS (w.setCell ⟨b2, k, none⟩ (.int .u64 u)) B g room fv (a ++ ⟨{ x.f with slots := x.f.slots.set k u }, x.sv, x.av⟩ :: b) ∧ Frm w (w.setCell ⟨b2, k, none⟩ (.int .u64 u)) (· = b2) ∧ Own g fv (a ++ x :: b) b2 ∧ (∀ k', Own g fv (a ++ ⟨{ x.f with slots := x.f.slots.set k u }, x.sv, x.av⟩ :: b) k' → Own g fv (a ++ x :: b) k') := by
  have hrb : rb x.sv = some b2 := by rw [e]; exact rb_pos (by omega)
  have hx := rows_mem (fl := a ++ x :: b) (x := x) (by simp)
  have er : rowsOf (a ++ x :: b) = rowsOf a ++ x.sv :: (x.av :: rowsOf b) := by rw [rowsOf_app, rowsOf_cons]; simp
  have er' : rowsOf (a ++ ⟨{ x.f with slots := x.f.slots.set k u }, x.sv, x.av⟩ :: b) = rowsOf (a ++ x :: b) := by rw [rowsOf_app, rowsOf_cons, rowsOf_app, rowsOf_cons]
  have hfc : frc (a ++ ⟨{ x.f with slots := x.f.slots.set k u }, x.sv, x.av⟩ :: b) = frc (a ++ x :: b) := by rw [frc_app, frc_cons, frc_app, frc_cons]
  have hap := t.ap
  rw [er] at hap
  have hmid := hap.mid
  have fr : Frm w (w.setCell ⟨b2, k, none⟩ (.int .u64 u)) (· = b2) := frm_set _ _ rfl
  have keepo : ∀ v n (vs : List Value), v ∈ rowsOf a ++ (x.av :: rowsOf b) → Rw w B 29 1 v n vs → Rw (w.setCell ⟨b2, k, none⟩ (.int .u64 u)) B 29 1 v n vs := fun v n vs hv h =>
    h.frm fr (fun j hj e => hmid v hv b2 hrb (e ▸ hj))
  have hsv := t.rs x (by simp)
  rw [e] at hsv
  have hset := hsv.set (by omega) k (.int .u64 u) (by omega)
  rw [wds_set, ← e] at hset
  have mra : ∀ y ∈ a, y.sv ∈ rowsOf a ∧ y.av ∈ rowsOf a := fun y hy => rows_mem hy
  have mrb : ∀ y ∈ b, y.sv ∈ rowsOf b ∧ y.av ∈ rowsOf b := fun y hy => rows_mem hy
  refine ⟨⟨(fr.block g t.glt (fun e => t.gz _ hx.1 (by rw [hrb, e]))).trans t.obj, t.le, ?_, ?_, ?_, ?_, ?_, t.small⟩, fr, .inr (.inr ⟨_, hx.1, hrb⟩), ?_⟩
  · rw [hfc]
    have := t.rf.frm fr (fun j hj e => t.fz _ hx.1 b2 hrb (e ▸ hj))
    simpa using this
  · intro y hy
    rcases List.mem_append.1 hy with hy | hy
    · exact keepo _ _ _ (List.mem_append.2 (.inl (mra y hy).1)) (t.rs y (by simp [hy]))
    · rcases List.mem_cons.1 hy with rfl | hy
      · show Rw _ B 29 1 x.sv (x.f.slots.set k u).length (wds (x.f.slots.set k u))
        rw [List.length_set]; exact hset
      · exact keepo _ _ _ (List.mem_append.2 (.inr (List.mem_cons_of_mem _ (mrb y hy).1))) (t.rs y (by simp [hy]))
  · intro y hy
    rcases List.mem_append.1 hy with hy | hy
    · exact keepo _ _ _ (List.mem_append.2 (.inl (mra y hy).2)) (t.ra y (by simp [hy]))
    · rcases List.mem_cons.1 hy with rfl | hy
      · exact keepo _ _ _ (List.mem_append.2 (.inr (by simp))) (t.ra x (by simp))
      · exact keepo _ _ _ (List.mem_append.2 (.inr (List.mem_cons_of_mem _ (mrb y hy).2))) (t.ra y (by simp [hy]))
  · rw [er']; exact t.ap
  · have h := t.fits
    rw [List.map_append, List.map_cons, used_app, used_cons] at h ⊢
    show used (a.map (·.f)) + (2 + (x.f.slots.set k u).length + x.f.added.length + used (b.map (·.f))) ≤ room
    rw [List.length_set]; exact h
  · intro k' h
    unfold Own at h ⊢
    rw [er'] at h; exact h
end Go.Proofs.Ytkecnhogooaccaa
