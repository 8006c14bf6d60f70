import Derived.Test.YtkecnhogooaccaaFail
import Derived.Test.YtkecnhogooaccaaPop
namespace Go.Proofs.Ytkecnhogooaccaa
open Go.ChangeShapes Go.WideShapes Go.ChangeAt Go.RowKit
set_option linter.unusedVariables false
/-- a frame as the document tells it. -/
structure RF where
  back : Int
  call : Int
  slots : List Int
  added : List Int
def RF.ws (f : RF) : List Int := f.slots ++ f.added
def wdOf (l : List RF) : List Int := l.flatMap RF.ws
theorem wdOf_app (a b : List RF) : wdOf (a ++ b) = wdOf a ++ wdOf b := by simp [wdOf]
theorem wdOf_one (f : RF) : wdOf [f] = f.ws := by simp [wdOf]
def frAt : List RF → Nat → List Fm
  | [], _ => []
  | f :: r, n => ⟨f.back, f.call, n, f.slots.length⟩ :: frAt r (n + f.ws.length)
def frOf (l : List RF) : List Fm := frAt l 0
theorem frAt_app (a b : List RF) (n : Nat) : frAt (a ++ b) n = frAt a n ++ frAt b (n + (wdOf a).length) := by
  induction a generalizing n with
  | nil => simp [frAt, wdOf]
  | cons f r ih =>
    simp only [List.cons_append, frAt, ih]
    have : n + f.ws.length + (wdOf r).length = n + (wdOf (f :: r)).length := by
      have : wdOf (f :: r) = f.ws ++ wdOf r := by simp [wdOf]
      rw [this, List.length_append]; omega
    rw [this]
theorem frOf_app (l : List RF) (f : RF) : frOf (l ++ [f]) = frOf l ++ [⟨f.back, f.call, (wdOf l).length, f.slots.length⟩] := by
  unfold frOf; rw [frAt_app]; simp [frAt]
theorem frAt_len (l : List RF) (n : Nat) : (frAt l n).length = l.length := by
  induction l generalizing n with
  | nil => rfl
  | cons f r ih => simp [frAt, ih]
theorem frOf_len (l : List RF) : (frOf l).length = l.length := frAt_len l 0
/-- how many words. -/
def used (l : List RF) : Nat := (wdOf l).length + 2 * l.length
/-- the stack holds the frames l; nothing below turned since w0. -/
def StN (w0 wr : World) (g room : Nat) (l : List RF) : Prop := ∃ fv wv, Sk wr w0.heap.size g room fv wv (frOf l) (wdOf l) ∧ Below w0.heap.size w0 wr
theorem StN.below {w0 wr w' : World} {g room : Nat} {l : List RF} (s : StN w0 wr g room l) (h : Below wr.heap.size wr w') : StN w0 w' g room l := by
  obtain ⟨fv, wv, t, b⟩ := s
  exact ⟨fv, wv, t.below h, b.trans (h.mono b.size)⟩
theorem StN.step {w0 wr w' : World} {g room : Nat} {fv wv fv' wv' : Value} {fr fr' : List Fm} {ws ws' : List Int} {R : Nat → Prop} {l : List RF} (t : Sk wr w0.heap.size g room fv wv fr ws) (b : Below w0.heap.size w0 wr) (f : Frm wr w' R) (hR : ∀ k, R k → k = g ∨ fv.ownBlock = some k ∨ wv.ownBlock = some k)
    (t' : Sk w' w0.heap.size g room fv' wv' fr' ws') (h1 : fr' = frOf l) (h2 : ws' = wdOf l) : StN w0 w' g room l := by
  subst h1; subst h2
  refine ⟨fv', wv', t', b.trans (f.below ?_ b.size)⟩
  intro k hk
  rcases hR k hk with rfl | h | h
  · exact t.le
  · exact (t.rf.lt _ h).1
  · exact (t.rw_.lt _ h).1
theorem StN.fits {w0 wr : World} {g room : Nat} {l : List RF} (s : StN w0 wr g room l) : used l ≤ room ∧ room ≤ 4096 := by
  obtain ⟨fv, wv, t, b⟩ := s
  have := t.fits
  rw [frOf_len] at this
  exact ⟨this, t.small⟩
theorem StN.small {w0 wr : World} {g room : Nat} {l : List RF} (s : StN w0 wr g room l) : Below w0.heap.size w0 wr := by obtain ⟨fv, wv, t, b⟩ := s; exact b
/-- New. -/
theorem new_st {w : World} (room : Nat) (h1 : 16 ≤ room) (h2 : room ≤ 4096) :
    Calls Try.prog 8 #[.int .i64 room] w fun e w' => ∃ g, e = .returned (.tuple #[.pointer (some ⟨g, 0, none⟩), .int .i64 0]) ∧ Hid (StN w w' g room []) :=
  (new_any room h1 h2).mono fun e w' ⟨g, he, t, b⟩ => ⟨g, he, Lib.hid ⟨_, _, t.out, b.out⟩⟩
/-- Push. -/
def pushS (room : Nat) (l : List RF) (bk cl sl : Int) : Int × List RF :=
  if sl < 0 then (1, l) else if (room : Int) < used l + 2 + sl then (9, l) else (0, l ++ [⟨bk, cl, List.replicate sl.toNat 1, []⟩])
theorem push_st {w0 wr : World} {g room : Nat} {l : List RF} (bk cl sl : Int) (s : StN w0 wr g room l) :
    Calls Try.prog 9 #[.pointer (some ⟨g, 0, none⟩), .int .i64 bk, .int .i64 cl, .int .i64 sl] wr fun e w' => e = .returned (.int .i64 (pushS room l bk cl sl).1) ∧ Hid (StN w0 w' g room (pushS room l bk cl sl).2) := by
  have s' := s
  obtain ⟨fv, wv, t, b⟩ := s
  unfold pushS used
  by_cases h0 : sl < 0
  · rw [if_pos h0]
    exact (push_neg h0).mono fun e w' ⟨he, hb⟩ => ⟨he, Lib.hid (s'.below hb)⟩
  rw [if_neg h0]
  have hl : (frOf l).length = l.length := frOf_len l
  by_cases h1 : (room : Int) < ((wdOf l).length + 2 * l.length : Nat) + 2 + sl
  · rw [if_pos h1]
    exact (push_full t (by omega) (by rw [hl]; omega)).mono fun e w' ⟨he, hb⟩ => ⟨he, Lib.hid (s'.below hb)⟩
  rw [if_neg h1]
  obtain ⟨k, rfl⟩ : ∃ k : Nat, sl = k := ⟨sl.toNat, by omega⟩
  refine (push_ok bk cl k t (by rw [hl]; omega)).mono ?_
  rintro e w' ⟨fv', wv', he, t', f, _⟩
  refine ⟨he, Lib.hid (StN.step t b f.out (fun k h => h) t'.out ?_ ?_)⟩
  · rw [frOf_app]; simp
  · rw [wdOf_app, wdOf_one]; simp [RF.ws]
/-- Pop. -/
theorem pop_st_none {w0 wr : World} {g room : Nat} (s : StN w0 wr g room []) :
    Calls Try.prog 21 #[.pointer (some ⟨g, 0, none⟩)] wr fun e w' => e = .returned (.tuple #[.int .i64 0, .int .i64 0, .int .i64 4]) ∧ Hid (StN w0 w' g room []) := by
  have s' := s
  obtain ⟨fv, wv, t, b⟩ := s
  exact (pop_none t).mono fun e w' ⟨he, hb⟩ => ⟨he, Lib.hid (s'.below hb)⟩
theorem pop_st {w0 wr : World} {g room : Nat} {l : List RF} {f : RF} (s : StN w0 wr g room (l ++ [f])) :
    Calls Try.prog 21 #[.pointer (some ⟨g, 0, none⟩)] wr fun e w' => e = .returned (.tuple #[.int .i64 f.back, .int .i64 f.call, .int .i64 0]) ∧ Hid (StN w0 w' g room l) := by
  obtain ⟨fv, wv, t, b⟩ := s
  rw [frOf_app] at t
  refine (pop_ok t).mono ?_
  rintro e w' ⟨fv', wv', he, t', fm, _⟩
  refine ⟨he, Lib.hid (StN.step t b fm.out (fun k h => .inl h) t'.out rfl ?_)⟩
  rw [wdOf_app]; simp
/-- Set, Get. -/
theorem setS_words (l : List RF) (f : RF) (i : Nat) (x : Int) (hi : i < f.slots.length) : (wdOf (l ++ [f])).set ((wdOf l).length + i) x = wdOf (l ++ [{ f with slots := f.slots.set i x }]) := by
  rw [wdOf_app, wdOf_app, wdOf_one, wdOf_one, List.set_append_right _ _ (by omega)]
  rw [Nat.add_sub_cancel_left]
  simp only [RF.ws]
  rw [List.set_append_left _ _ hi]
theorem set_st {w0 wr : World} {g room : Nat} {l : List RF} {f : RF} (x : Int) (i : Nat) (hi : i < f.slots.length) (s : StN w0 wr g room (l ++ [f])) :
    Calls Try.prog 13 #[.pointer (some ⟨g, 0, none⟩), .int .i64 i, .int .u64 x] wr fun e w' => e = .returned (.int .i64 0) ∧ Hid (StN w0 w' g room (l ++ [{ f with slots := f.slots.set i x }])) := by
  obtain ⟨fv, wv, t, b⟩ := s
  rw [frOf_app] at t
  refine (set_ok x t hi).mono ?_
  rintro e w' ⟨he, t', fm⟩
  refine ⟨he, Lib.hid (StN.step t b fm.out (fun k h => h.imp id .inr) t'.out ?_ ?_)⟩
  · rw [frOf_app]; simp
  · exact setS_words l f i x hi
theorem place_st_bad {w0 wr : World} {g room : Nat} {l : List RF} {f : RF} (i : Int) (h : i < 0 ∨ (f.slots.length : Int) ≤ i) (s : StN w0 wr g room (l ++ [f])) :
    Calls Try.prog 39 #[.pointer (some ⟨g, 0, none⟩), .int .i64 i] wr fun e w' => e = .returned (.tuple #[.int .i64 0, .int .i64 1]) ∧ Below wr.heap.size wr w' := by
  obtain ⟨fv, wv, t, b⟩ := s
  rw [frOf_app] at t
  exact place_bad i t h
theorem place_st_none {w0 wr : World} {g room : Nat} (i : Int) (s : StN w0 wr g room []) :
    Calls Try.prog 39 #[.pointer (some ⟨g, 0, none⟩), .int .i64 i] wr fun e w' => e = .returned (.tuple #[.int .i64 0, .int .i64 4]) ∧ Below wr.heap.size wr w' := by
  obtain ⟨fv, wv, t, b⟩ := s
  exact place_none i t
/-- Set, whatever is asked. -/
def setS (l : List RF) (i x : Int) : Int × List RF :=
  match l.reverse with
  | [] => (4, l)
  | f :: r => if i < 0 ∨ (f.slots.length : Int) ≤ i then (1, l) else (0, r.reverse ++ [{ f with slots := f.slots.set i.toNat x }])
theorem setS_nil (i x : Int) : setS [] i x = (4, []) := rfl
theorem setS_app (l : List RF) (f : RF) (i x : Int) : setS (l ++ [f]) i x = if i < 0 ∨ (f.slots.length : Int) ≤ i then (1, l ++ [f]) else (0, l ++ [{ f with slots := f.slots.set i.toNat x }]) := by
  unfold setS; simp
theorem last_cases (l : List RF) : l = [] ∨ ∃ r f, l = r ++ [f] := by
  rcases List.eq_nil_or_concat l with h | ⟨r, f, h⟩
  · exact .inl h
  · exact .inr ⟨r, f, by rw [h, List.concat_eq_append]⟩
theorem set_any {w0 wr : World} {g room : Nat} {l : List RF} (i x : Int) (s : StN w0 wr g room l) :
    Calls Try.prog 13 #[.pointer (some ⟨g, 0, none⟩), .int .i64 i, .int .u64 x] wr fun e w' => e = .returned (.int .i64 (setS l i x).1) ∧ Hid (StN w0 w' g room (setS l i x).2) := by
  rcases last_cases l with rfl | ⟨r, f, rfl⟩
  · exact (set_fail (by decide) (place_st_none i s)).mono fun e w' ⟨he, hb⟩ => ⟨he, Lib.hid (s.below hb)⟩
  · rw [setS_app]
    by_cases h : i < 0 ∨ (f.slots.length : Int) ≤ i
    · rw [if_pos h]
      exact (set_fail (by decide) (place_st_bad i h s)).mono fun e w' ⟨he, hb⟩ => ⟨he, Lib.hid (s.below hb)⟩
    · rw [if_neg h]
      obtain ⟨k, rfl⟩ : ∃ k : Nat, i = k := ⟨i.toNat, by omega⟩
      exact set_st x k (by omega) s
def getS (l : List RF) (i : Int) : Int × Int :=
  match l.reverse with
  | [] => (0, 4)
  | f :: _ => if i < 0 ∨ (f.slots.length : Int) ≤ i then (0, 1) else (f.slots.getD i.toNat 0, 0)
theorem getS_app (l : List RF) (f : RF) (i : Int) : getS (l ++ [f]) i = if i < 0 ∨ (f.slots.length : Int) ≤ i then (0, 1) else (f.slots.getD i.toNat 0, 0) := by
  unfold getS; simp
theorem get_any {w0 wr : World} {g room : Nat} {l : List RF} (i : Int) (s : StN w0 wr g room l) :
    Calls Try.prog 12 #[.pointer (some ⟨g, 0, none⟩), .int .i64 i] wr fun e w' => e = .returned (.tuple #[.int .u64 (getS l i).1, .int .i64 (getS l i).2]) ∧ Below wr.heap.size wr w' := by
  rcases last_cases l with rfl | ⟨r, f, rfl⟩
  · exact get_fail (c := 4) (by decide) (place_st_none i s)
  · rw [getS_app]
    by_cases h : i < 0 ∨ (f.slots.length : Int) ≤ i
    · rw [if_pos h]
      exact get_fail (c := 1) (by decide) (place_st_bad i h s)
    · rw [if_neg h]
      obtain ⟨k, rfl⟩ : ∃ k : Nat, i = k := ⟨i.toNat, by omega⟩
      obtain ⟨fv, wv, t, b⟩ := s
      rw [frOf_app] at t
      refine (get_ok (i := k) t (by show k < f.slots.length; omega)).mono ?_
      rintro e w' ⟨he, hb⟩
      refine ⟨?_, hb⟩
      rw [he]
      have hk : k < f.slots.length := by omega
      have : (wdOf (r ++ [f])).getD ((wdOf r).length + k) 0 = f.slots.getD k 0 := by
        rw [wdOf_app, wdOf_one]
        simp [List.getD, RF.ws, List.getElem?_append_right, List.getElem?_append_left hk]
      rw [this]; rfl
/-- Add. -/
def addS (room : Nat) (l : List RF) (x : Int) : Int × List RF :=
  match l.reverse with
  | [] => (4, l)
  | f :: r => if room ≤ used l then (9, l) else (0, r.reverse ++ [{ f with added := f.added ++ [x] }])
theorem addS_app (room : Nat) (l : List RF) (f : RF) (x : Int) : addS room (l ++ [f]) x = if room ≤ used (l ++ [f]) then (9, l ++ [f]) else (0, l ++ [{ f with added := f.added ++ [x] }]) := by
  unfold addS; simp
theorem add_any {w0 wr : World} {g room : Nat} {l : List RF} (x : Int) (s : StN w0 wr g room l) :
    Calls Try.prog 10 #[.pointer (some ⟨g, 0, none⟩), .int .u64 x] wr fun e w' => e = .returned (.int .i64 (addS room l x).1) ∧ Hid (StN w0 w' g room (addS room l x).2) := by
  rcases last_cases l with rfl | ⟨r, f, rfl⟩
  · have s' := s
    obtain ⟨fv, wv, t, b⟩ := s
    exact (add_none x t).mono fun e w' ⟨he, hb⟩ => ⟨he, Lib.hid (s'.below hb)⟩
  · rw [addS_app]
    have s' := s
    obtain ⟨fv, wv, t, b⟩ := s
    rw [frOf_app] at t
    have hu : used (r ++ [f]) = (wdOf (r ++ [f])).length + 2 * ((frOf r).length + 1) := by simp [used, frOf_len]
    by_cases h : room ≤ used (r ++ [f])
    · rw [if_pos h]
      exact (add_full x t (by omega)).mono fun e w' ⟨he, hb⟩ => ⟨he, Lib.hid (s'.below hb)⟩
    · rw [if_neg h]
      refine (add_ok x t (by omega)).mono ?_
      rintro e w' ⟨wv', he, t', fm, _⟩
      refine ⟨he, Lib.hid (StN.step t b fm.out (fun k h => h.imp id .inr) t'.out ?_ ?_)⟩
      · rw [frOf_app]
      · rw [wdOf_app, wdOf_app, wdOf_one, wdOf_one]; simp [RF.ws]
/-- Take. -/
def takeS (l : List RF) : (Int × Int) × List RF :=
  match l.reverse with
  | [] => ((0, 4), l)
  | f :: r => match f.added.reverse with
    | [] => ((0, 4), l)
    | x :: a => ((x, 0), r.reverse ++ [{ f with added := a.reverse }])
theorem take_any {w0 wr : World} {g room : Nat} {l : List RF} (s : StN w0 wr g room l) :
    Calls Try.prog 25 #[.pointer (some ⟨g, 0, none⟩)] wr fun e w' => e = .returned (.tuple #[.int .u64 (takeS l).1.1, .int .i64 (takeS l).1.2]) ∧ Hid (StN w0 w' g room (takeS l).2) := by
  have s' := s
  obtain ⟨fv, wv, t, b⟩ := s
  rcases last_cases l with rfl | ⟨r, f, rfl⟩
  · exact (take_fail (added_none t)).mono fun e w' ⟨he, hb⟩ => ⟨he, Lib.hid (s'.below hb)⟩
  · rw [frOf_app] at t
    rcases List.eq_nil_or_concat f.added with h | ⟨a, x, h⟩
    · have e : takeS (r ++ [f]) = ((0, 4), r ++ [f]) := by unfold takeS; simp [h]
      rw [e]
      refine (take_fail ((added_any t).mono fun e w' ⟨he, hb⟩ => ⟨?_, hb⟩)).mono fun e w' ⟨he, hb⟩ => ⟨he, Lib.hid (s'.below hb)⟩
      rw [he, wdOf_app, wdOf_one]
      simp [RF.ws, h]
    · rw [List.concat_eq_append] at h
      have e : takeS (r ++ [f]) = ((x, 0), r ++ [{ f with added := a }]) := by unfold takeS; simp [h]
      rw [e]
      have hw : wdOf (r ++ [f]) = wdOf (r ++ [{ f with added := a }]) ++ [x] := by
        rw [wdOf_app, wdOf_app, wdOf_one, wdOf_one]; simp [RF.ws, h]
      have hr : (wdOf r).length + f.slots.length ≤ (wdOf (r ++ [{ f with added := a }])).length := by
        rw [wdOf_app, wdOf_one]; simp [RF.ws]
      rw [hw] at t
      refine (take_ok x t hr).mono ?_
      rintro e w' ⟨wv', he, t', fm, _⟩
      refine ⟨he, Lib.hid (StN.step t b fm.out (fun k h => .inl h) t'.out ?_ rfl)⟩
      rw [frOf_app]
/-- Depth, Added, Roots. -/
theorem depth_st {w0 wr : World} {g room : Nat} {l : List RF} (s : StN w0 wr g room l) :
    Calls Try.prog 17 #[.pointer (some ⟨g, 0, none⟩)] wr fun e w' => e = .returned (.int .i64 l.length) ∧ Below wr.heap.size wr w' := by
  obtain ⟨fv, wv, t, b⟩ := s
  have := depth_any t
  rwa [frOf_len] at this
def addedS (l : List RF) : Nat :=
  match l.reverse with
  | [] => 0
  | f :: _ => f.added.length
theorem addedS_app (l : List RF) (f : RF) : addedS (l ++ [f]) = f.added.length := by simp [addedS]
theorem added_st {w0 wr : World} {g room : Nat} {l : List RF} (s : StN w0 wr g room l) :
    Calls Try.prog 32 #[.pointer (some ⟨g, 0, none⟩)] wr fun e w' => e = .returned (.int .i64 (addedS l : Nat)) ∧ Below wr.heap.size wr w' := by
  obtain ⟨fv, wv, t, b⟩ := s
  rcases last_cases l with rfl | ⟨r, f, rfl⟩
  · exact added_none t
  · rw [frOf_app] at t
    rw [addedS_app]
    refine (added_any t).mono fun e w' ⟨he, hb⟩ => ⟨?_, hb⟩
    rw [he, wdOf_app, wdOf_one]
    simp [RF.ws]
theorem roots_st {w0 wr : World} {g room : Nat} {l : List RF} (s : StN w0 wr g room l) :
    Calls Try.prog 14 #[.pointer (some ⟨g, 0, none⟩)] wr fun e w' => ∃ A c, e = .returned (.slice A (wdOf l).length c) ∧ Hid (w'.ownsRow wr.heap.size 30 1 (.slice A (wdOf l).length c) (wdOf l).length (wds (wdOf l))) ∧ Hid (Below wr.heap.size wr w') := by
  obtain ⟨fv, wv, t, b⟩ := s
  exact roots_any t
end Go.Proofs.Ytkecnhogooaccaa
