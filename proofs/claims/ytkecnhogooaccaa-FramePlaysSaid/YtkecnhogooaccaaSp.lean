import Derived.Test.YtkecnhogooaccaaRm
import Derived.Test.YtkecnhogooaccaaCuts
import Derived.Test.YtkecnhogooaccaaInts
namespace Go.Proofs.Ytkecnhogooaccaa
open Go.ChangeShapes Go.WideShapes Go.ChangeAt Go.RowKit
set_option linter.unusedVariables false
/-- a block of one of these types, from B on. -/
def OfT (ts : List TypeId) (B : Nat) (w : World) (k : Nat) : Prop := B ≤ k ∧ ∃ cur t, w.heap[k]? = some (.cells cur t (0, 0)) ∧ t ∈ ts
theorem own_type {w : World} {B e s n : Nat} {v : Value} {xs : List Value} (h : w.ownsRow B e s v n xs) {k : Nat} (hk : v.ownBlock = some k) : ∃ cur, w.heap[k]? = some (.cells cur e (0, 0)) := by
  rcases h.2 with ⟨rfl, _⟩ | ⟨g, cap, cur, rfl, _, h3, _⟩
  · cases hk
  · simp only [Value.ownBlock] at hk
    injection hk with hk
    subst hk
    exact ⟨cur, h3⟩
/-- only the program's stack turned. -/
def FrmP (B : Nat) (w w' : World) : Prop := Frm w w' (OfT [69, 71, 30] B w)
/-- only the reference's stack turned. -/
def FrmR (B : Nat) (w w' : World) : Prop := Frm w w' (OfT [47, 80, 29] B w)
theorem FrmP.of_below {B : Nat} {w w' : World} (h : Below w.heap.size w w') : FrmP B w w' := Frm.of_below h (Nat.le_refl _) _
theorem FrmR.of_below {B : Nat} {w w' : World} (h : Below w.heap.size w w') : FrmR B w w' := Frm.of_below h (Nat.le_refl _) _
def SP (w0 wr w' : World) (g room : Nat) (l : List RF) : Prop := StN w0 w' g room l ∧ FrmP w0.heap.size wr w'
theorem SP.below {w0 wr w' : World} {g room : Nat} {l : List RF} (s : StN w0 wr g room l) (h : Below wr.heap.size wr w') : SP w0 wr w' g room l := ⟨s.below h, FrmP.of_below h⟩
theorem SP.step {w0 wr w' : World} {g room : Nat} {fv wv fv' wv' : Value} {fr fr' : List Fm} {ws ws' : List Int} {R : Nat → Prop} {l : List RF} (t : Sk wr w0.heap.size g room fv wv fr ws) (b : Below w0.heap.size w0 wr) (f : Frm wr w' R) (hR : ∀ k, R k → k = g ∨ fv.ownBlock = some k ∨ wv.ownBlock = some k)
    (t' : Sk w' w0.heap.size g room fv' wv' fr' ws') (h1 : fr' = frOf l) (h2 : ws' = wdOf l) : SP w0 wr w' g room l := by
  refine ⟨StN.step t b f hR t' h1 h2, f.mono fun k hk hr => ?_⟩
  rcases hR k hr with rfl | h | h
  · exact ⟨t.le, _, 69, t.obj, by simp⟩
  · obtain ⟨cur, hc⟩ := own_type t.rf h
    exact ⟨(t.rf.lt k h).1, cur, 71, hc, by simp⟩
  · obtain ⟨cur, hc⟩ := own_type t.rw_ h
    exact ⟨(t.rw_.lt k h).1, cur, 30, hc, by simp⟩
theorem ppush_st {w0 wr : World} {g room : Nat} {l : List RF} (bk cl sl : Int) (s : StN w0 wr g room l) :
    Calls Try.prog 9 #[.pointer (some ⟨g, 0, none⟩), .int .i64 bk, .int .i64 cl, .int .i64 sl] wr fun e w' => e = .returned (.int .i64 (pushS room l bk cl sl).1) ∧ Hid (SP w0 wr w' g room (pushS room l bk cl sl).2) := by
  have s' := s
  obtain ⟨fv, wv, t, b⟩ := s
  unfold pushS used
  by_cases h0 : sl < 0
  · rw [if_pos h0]
    exact (push_neg h0).mono fun e w' ⟨he, hb⟩ => ⟨he, Lib.hid (SP.below s' hb)⟩
  rw [if_neg h0]
  have hl : (frOf l).length = l.length := frOf_len l
  by_cases h1 : (room : Int) < ((wdOf l).length + 2 * l.length : Nat) + 2 + sl
  · rw [if_pos h1]
    exact (push_full t (by omega) (by rw [hl]; omega)).mono fun e w' ⟨he, hb⟩ => ⟨he, Lib.hid (SP.below s' hb)⟩
  rw [if_neg h1]
  obtain ⟨k, rfl⟩ : ∃ k : Nat, sl = k := ⟨sl.toNat, by omega⟩
  refine (push_ok bk cl k t (by rw [hl]; omega)).mono ?_
  rintro e w' ⟨fv', wv', he, t', f, _⟩
  refine ⟨he, Lib.hid (SP.step t b f.out (fun k h => h) t'.out ?_ ?_)⟩
  · rw [frOf_app]; simp
  · rw [wdOf_app, wdOf_one]; simp [RF.ws]
theorem ppop_st_none {w0 wr : World} {g room : Nat} (s : StN w0 wr g room []) :
    Calls Try.prog 21 #[.pointer (some ⟨g, 0, none⟩)] wr fun e w' => e = .returned (.tuple #[.int .i64 0, .int .i64 0, .int .i64 4]) ∧ Hid (SP w0 wr w' g room []) := by
  have s' := s
  obtain ⟨fv, wv, t, b⟩ := s
  exact (pop_none t).mono fun e w' ⟨he, hb⟩ => ⟨he, Lib.hid (SP.below s' hb)⟩
theorem ppop_st {w0 wr : World} {g room : Nat} {l : List RF} {f : RF} (s : StN w0 wr g room (l ++ [f])) :
    Calls Try.prog 21 #[.pointer (some ⟨g, 0, none⟩)] wr fun e w' => e = .returned (.tuple #[.int .i64 f.back, .int .i64 f.call, .int .i64 0]) ∧ Hid (SP w0 wr w' g room l) := by
  obtain ⟨fv, wv, t, b⟩ := s
  rw [frOf_app] at t
  refine (pop_ok t).mono ?_
  rintro e w' ⟨fv', wv', he, t', fm, _⟩
  refine ⟨he, Lib.hid (SP.step t b fm.out (fun k h => .inl h) t'.out rfl ?_)⟩
  rw [wdOf_app]; simp
theorem pset_st {w0 wr : World} {g room : Nat} {l : List RF} {f : RF} (x : Int) (i : Nat) (hi : i < f.slots.length) (s : StN w0 wr g room (l ++ [f])) :
    Calls Try.prog 13 #[.pointer (some ⟨g, 0, none⟩), .int .i64 i, .int .u64 x] wr fun e w' => e = .returned (.int .i64 0) ∧ Hid (SP w0 wr w' g room (l ++ [{ f with slots := f.slots.set i x }])) := by
  obtain ⟨fv, wv, t, b⟩ := s
  rw [frOf_app] at t
  refine (set_ok x t hi).mono ?_
  rintro e w' ⟨he, t', fm⟩
  refine ⟨he, Lib.hid (SP.step t b fm.out (fun k h => h.imp id .inr) t'.out ?_ ?_)⟩
  · rw [frOf_app]; simp
  · exact setS_words l f i x hi
theorem pset_any {w0 wr : World} {g room : Nat} {l : List RF} (i x : Int) (s : StN w0 wr g room l) :
    Calls Try.prog 13 #[.pointer (some ⟨g, 0, none⟩), .int .i64 i, .int .u64 x] wr fun e w' => e = .returned (.int .i64 (setS l i x).1) ∧ Hid (SP w0 wr w' g room (setS l i x).2) := by
  rcases last_cases l with rfl | ⟨r, f, rfl⟩
  · exact (set_fail (by decide) (place_st_none i s)).mono fun e w' ⟨he, hb⟩ => ⟨he, Lib.hid (SP.below s hb)⟩
  · rw [setS_app]
    by_cases h : i < 0 ∨ (f.slots.length : Int) ≤ i
    · rw [if_pos h]
      exact (set_fail (by decide) (place_st_bad i h s)).mono fun e w' ⟨he, hb⟩ => ⟨he, Lib.hid (SP.below s hb)⟩
    · rw [if_neg h]
      obtain ⟨k, rfl⟩ : ∃ k : Nat, i = k := ⟨i.toNat, by omega⟩
      exact pset_st x k (by omega) s
theorem padd_any {w0 wr : World} {g room : Nat} {l : List RF} (x : Int) (s : StN w0 wr g room l) :
    Calls Try.prog 10 #[.pointer (some ⟨g, 0, none⟩), .int .u64 x] wr fun e w' => e = .returned (.int .i64 (addS room l x).1) ∧ Hid (SP w0 wr w' g room (addS room l x).2) := by
  rcases last_cases l with rfl | ⟨r, f, rfl⟩
  · have s' := s
    obtain ⟨fv, wv, t, b⟩ := s
    exact (add_none x t).mono fun e w' ⟨he, hb⟩ => ⟨he, Lib.hid (SP.below s' hb)⟩
  · rw [addS_app]
    have s' := s
    obtain ⟨fv, wv, t, b⟩ := s
    rw [frOf_app] at t
    have hu : used (r ++ [f]) = (wdOf (r ++ [f])).length + 2 * ((frOf r).length + 1) := by simp [used, frOf_len]
    by_cases h : room ≤ used (r ++ [f])
    · rw [if_pos h]
      exact (add_full x t (by omega)).mono fun e w' ⟨he, hb⟩ => ⟨he, Lib.hid (SP.below s' hb)⟩
    · rw [if_neg h]
      refine (add_ok x t (by omega)).mono ?_
      rintro e w' ⟨wv', he, t', fm, _⟩
      refine ⟨he, Lib.hid (SP.step t b fm.out (fun k h => h.imp id .inr) t'.out ?_ ?_)⟩
      · rw [frOf_app]
      · rw [wdOf_app, wdOf_app, wdOf_one, wdOf_one]; simp [RF.ws]
theorem ptake_any {w0 wr : World} {g room : Nat} {l : List RF} (s : StN w0 wr g room l) :
    Calls Try.prog 25 #[.pointer (some ⟨g, 0, none⟩)] wr fun e w' => e = .returned (.tuple #[.int .u64 (takeS l).1.1, .int .i64 (takeS l).1.2]) ∧ Hid (SP w0 wr w' g room (takeS l).2) := by
  have s' := s
  obtain ⟨fv, wv, t, b⟩ := s
  rcases last_cases l with rfl | ⟨r, f, rfl⟩
  · exact (take_fail (added_none t)).mono fun e w' ⟨he, hb⟩ => ⟨he, Lib.hid (SP.below s' hb)⟩
  · rw [frOf_app] at t
    rcases List.eq_nil_or_concat f.added with h | ⟨a, x, h⟩
    · have e : takeS (r ++ [f]) = ((0, 4), r ++ [f]) := by unfold takeS; simp [h]
      rw [e]
      refine (take_fail ((added_any t).mono fun e w' ⟨he, hb⟩ => ⟨?_, hb⟩)).mono fun e w' ⟨he, hb⟩ => ⟨he, Lib.hid (SP.below s' hb)⟩
      rw [he, wdOf_app, wdOf_one]
      simp [RF.ws, h]
    · rw [List.concat_eq_append] at h
      have e : takeS (r ++ [f]) = ((x, 0), r ++ [{ f with added := a }]) := by unfold takeS; simp [h]
      rw [e]
      have hw : wdOf (r ++ [f]) = wdOf (r ++ [{ f with added := a }]) ++ [x] := by
        rw [wdOf_app, wdOf_app, wdOf_one, wdOf_one]; simp [RF.ws, h]
      have hr : (wdOf r).length + f.slots.length ≤ (wdOf (r ++ [{ f with added := a }])).length := by
        rw [wdOf_app, wdOf_one]; simp [RF.ws]
      rw [hw] at t
      refine (take_ok x t hr).mono ?_
      rintro e w' ⟨wv', he, t', fm, _⟩
      refine ⟨he, Lib.hid (SP.step t b fm.out (fun k h => .inl h) t'.out ?_ rfl)⟩
      rw [frOf_app]
theorem pcut_st {w0 wr : World} {g room : Nat} {l : List RF} (d a : Int) (s : StN w0 wr g room l) :
    Calls Try.prog 15 #[.pointer (some ⟨g, 0, none⟩), .int .i64 d, .int .i64 a] wr fun e w' => e = .returned (.int .i64 (cutS l d a).1) ∧ Hid (SP w0 wr w' g room (cutS l d a).2) := by
  have s' := s
  obtain ⟨fv, wv, t, b⟩ := s
  have hl : (frOf l).length = l.length := frOf_len l
  by_cases h1 : d < 0 ∨ (l.length : Int) < d ∨ a < 0
  · have e : cutS l d a = (1, l) := if_pos h1
    rw [e]
    refine (cut_bad d a t ?_).mono fun e w' ⟨he, hb⟩ => ⟨he, Lib.hid (SP.below s' hb)⟩
    rw [hl]; omega
  by_cases h2 : d = 0
  · subst h2
    by_cases h3 : 0 < a
    · have e : cutS l 0 a = (1, l) := by unfold cutS; rw [if_neg h1, if_pos rfl, if_pos h3]
      rw [e]
      refine (cut_bad 0 a t (by omega)).mono fun e w' ⟨he, hb⟩ => ⟨he, Lib.hid (SP.below s' hb)⟩
    · have e : cutS l 0 a = (0, []) := by unfold cutS; rw [if_neg h1, if_pos rfl, if_neg h3]
      obtain rfl : a = 0 := by omega
      rw [e]
      refine (cut_zero t).mono ?_
      rintro e w' ⟨he, t', f⟩
      exact ⟨he, Lib.hid (SP.step t b f.out (fun k h => .inl h) t'.out rfl rfl)⟩
  obtain ⟨n, rfl⟩ : ∃ n : Nat, d = ((n + 1 : Nat) : Int) := ⟨d.toNat - 1, by omega⟩
  obtain ⟨k, rfl⟩ : ∃ k : Nat, a = k := ⟨a.toNat, by omega⟩
  have hn : n < l.length := by omega
  obtain ⟨l1, f, l2, rfl, hl1⟩ : ∃ l1 f l2, l = l1 ++ f :: l2 ∧ l1.length = n := by
    refine ⟨l.take n, l[n], l.drop (n + 1), ?_, by rw [List.length_take]; omega⟩
    rw [← List.drop_eq_getElem_cons hn, List.take_append_drop]
  have ecut : cutS (l1 ++ f :: l2) ((n + 1 : Nat) : Int) (k : Int) = if (f.added.length : Int) < (k : Int) then (1, l1 ++ f :: l2) else (0, l1 ++ [{ f with added := f.added.take k }]) := by
    unfold cutS
    rw [if_neg h1, if_neg h2]
    have e1 : (((n + 1 : Nat) : Int)).toNat - 1 = n := by omega
    rw [e1, List.drop_append_of_le_length (by omega), List.drop_eq_nil_of_le (by omega), List.nil_append, List.take_append_of_le_length (by omega), List.take_of_length_le (by omega), Int.toNat_natCast]
  have efr : frOf (l1 ++ f :: l2) = frOf l1 ++ ⟨f.back, f.call, (wdOf l1).length, f.slots.length⟩ :: frAt l2 ((wdOf l1).length + f.ws.length) := by
    unfold frOf; rw [frAt_app]; simp [frAt]
  have ewd : wdOf (l1 ++ f :: l2) = wdOf l1 ++ (f.ws ++ wdOf l2) := by
    rw [wdOf_app]; simp [wdOf]
  have efw : f.ws.length = f.slots.length + f.added.length := by simp [RF.ws]
  rw [efr] at t
  have hE : (frAt l2 ((wdOf l1).length + f.ws.length) = [] ∧ (wdOf l1).length + f.ws.length = (wdOf (l1 ++ f :: l2)).length) ∨ (∃ f2 r, frAt l2 ((wdOf l1).length + f.ws.length) = f2 :: r ∧ (wdOf l1).length + f.ws.length = f2.base) := by
    cases l2 with
    | nil => left; refine ⟨rfl, ?_⟩; rw [ewd]; simp [wdOf]
    | cons f2 r => right; exact ⟨_, _, rfl, rfl⟩
  have hE2 : (wdOf l1).length + f.ws.length ≤ (wdOf (l1 ++ f :: l2)).length := by rw [ewd]; simp
  have hfl : (frOf l1).length = n := by rw [frOf_len, hl1]
  rw [ecut]
  by_cases h4 : (f.added.length : Int) < (k : Int)
  · rw [if_pos h4]
    have := cut_many ((wdOf l1).length + f.ws.length) k t hE (by show (wdOf l1).length + f.slots.length ≤ _; omega) hE2 (by show _ < (wdOf l1).length + f.slots.length + k; omega)
    rw [hfl] at this
    exact this.mono fun e w' ⟨he, hb⟩ => ⟨he, Lib.hid (SP.below s' hb)⟩
  · rw [if_neg h4]
    have := cut_ok ((wdOf l1).length + f.ws.length) k t hE (by show (wdOf l1).length + f.slots.length ≤ _; omega) hE2 (by show (wdOf l1).length + f.slots.length + k ≤ _; omega)
    rw [hfl] at this
    refine this.mono ?_
    rintro e w' ⟨fv', wv', he, t', fm⟩
    refine ⟨he, Lib.hid (SP.step t b fm.out (fun k h => .inl h) t'.out ?_ ?_)⟩
    · rw [frOf_app]
    · rw [ewd]
      show (wdOf l1 ++ (f.ws ++ wdOf l2)).take ((wdOf l1).length + f.slots.length + k) = wdOf (l1 ++ [{ f with added := f.added.take k }])
      rw [wdOf_app, wdOf_one]
      rw [show (wdOf l1).length + f.slots.length + k = (wdOf l1).length + (f.slots.length + k) by omega, List.take_length_add_append]
      congr 1
      rw [List.take_append_of_le_length (by omega)]
      show (f.slots ++ f.added).take _ = f.slots ++ f.added.take k
      rw [List.take_length_add_append]
theorem prenew_st {w0 wr : World} {g room n c : Nat} {l : List RF} {A : Option Addr} {ys : List Int} (s : StN w0 wr g room l) (hy : InL .u64 wr A n ys) :
    Calls Try.prog 16 #[.pointer (some ⟨g, 0, none⟩), .slice A n c] wr fun e w' => e = .returned (.int .i64 (renewS l ys).1) ∧ Hid (SP w0 wr w' g room (renewS l ys).2) := by
  have s' := s
  obtain ⟨fv, wv, t, b⟩ := s
  unfold renewS
  rw [hy.1]
  by_cases h : n = (wdOf l).length
  · rw [if_pos h]
    refine (renew_ok t h hy).mono ?_
    rintro e w' ⟨he, t', f⟩
    exact ⟨he, Lib.hid (SP.step t b f.out (fun k h => h.imp id .inr) t'.out (refill_fr l ys 0 (hy.1.trans h)).symm (refill_words l ys (hy.1.trans h)).symm)⟩
  · rw [if_neg h]
    exact (renew_bad t h).mono fun e w' ⟨he, hb⟩ => ⟨he, Lib.hid (SP.below s' hb)⟩
def popS (l : List RF) : (Int × Int × Int) × List RF :=
  match l.reverse with
  | [] => ((0, 0, 4), l)
  | f :: r => ((f.back, f.call, 0), r.reverse)
theorem ppop_any {w0 wr : World} {g room : Nat} {l : List RF} (s : StN w0 wr g room l) :
    Calls Try.prog 21 #[.pointer (some ⟨g, 0, none⟩)] wr fun e w' => e = .returned (.tuple #[.int .i64 (popS l).1.1, .int .i64 (popS l).1.2.1, .int .i64 (popS l).1.2.2]) ∧ Hid (SP w0 wr w' g room (popS l).2) := by
  rcases last_cases l with rfl | ⟨r, f, rfl⟩
  · exact ppop_st_none s
  · have e : popS (r ++ [f]) = ((f.back, f.call, 0), r) := by unfold popS; simp
    rw [e]; exact ppop_st s
/-- the reference holds l. -/
def RZ (w : World) (B g room : Nat) (l : List RF) : Prop := ∃ fv fl, RS w B g room fv fl ∧ fl.map (·.f) = l
def RP (B : Nat) (wr w' : World) (g room : Nat) (l : List RF) : Prop := RZ w' B g room l ∧ FrmR B wr w'
theorem RP.below {wr w' : World} {B g room : Nat} {l : List RF} (s : RZ wr B g room l) (h : Below wr.heap.size wr w') : RP B wr w' g room l := by
  obtain ⟨fv, fl, t, e⟩ := s
  exact ⟨⟨fv, fl, t.below h, e⟩, FrmR.of_below h⟩
theorem RS.types {w : World} {B g room : Nat} {fv : Value} {fl : List RX} (t : RS w B g room fv fl) {k : Nat} (h : Own g fv fl k) : OfT [47, 80, 29] B w k := by
  refine ⟨(t.lt k h).1, ?_⟩
  rcases h with rfl | h | ⟨z, hz, h⟩
  · exact ⟨_, 47, t.obj, by simp⟩
  · obtain ⟨_, _, cur, hc⟩ := t.rf.lt k h
    exact ⟨cur, 80, hc, by simp⟩
  · obtain ⟨_, _, cur, hc⟩ := t.row z hz k h
    exact ⟨cur, 29, hc, by simp⟩
theorem RP.step {wr w' : World} {B g room : Nat} {fv fv' : Value} {fl fl' : List RX} {l : List RF} {R : Nat → Prop} (t : RS wr B g room fv fl) (f : Frm wr w' R) (hR : ∀ k, R k → Own g fv fl k) (t' : RS w' B g room fv' fl') (h : fl'.map (·.f) = l) : RP B wr w' g room l :=
  ⟨⟨fv', fl', t', h⟩, f.mono fun k _ hr => t.types (hR k hr)⟩
/-- what one side does leaves the other. -/
theorem RZ.other {w w' : World} {B B' g room : Nat} {l : List RF} (s : RZ w B g room l) (f : FrmP B' w w') : RZ w' B g room l := by
  obtain ⟨fv, fl, t, e⟩ := s
  refine ⟨fv, fl, t.frm f (fun k hk hr => ?_), e⟩
  obtain ⟨_, cur, ty, hc, ht⟩ := t.types hk
  obtain ⟨_, cur2, ty2, hc2, ht2⟩ := hr
  rw [hc] at hc2
  injection hc2 with hc2
  injection hc2 with _ hc2
  subst hc2
  simp at ht ht2
  rcases ht with rfl | rfl | rfl <;> simp at ht2
theorem StN.other {w0 w w' : World} {B' g room : Nat} {l : List RF} (s : StN w0 w g room l) (hB : w0.heap.size ≤ B') (f : FrmR B' w w') : StN w0 w' g room l := by
  obtain ⟨fv, wv, t, b⟩ := s
  have no : ∀ k ty cur, w.heap[k]? = some (.cells cur ty (0, 0)) → ty ∈ [69, 71, 30] → ¬ OfT [47, 80, 29] B' w k := fun k ty cur hc ht hr => by
    obtain ⟨_, cur2, ty2, hc2, ht2⟩ := hr
    rw [hc] at hc2
    injection hc2 with hc2
    injection hc2 with _ hc2
    subst hc2
    simp at ht ht2
    rcases ht with rfl | rfl | rfl <;> simp at ht2
  refine ⟨fv, wv, t.frm f (no g 69 _ t.obj (by simp)) (fun k hk => ?_) (fun k hk => ?_), b.trans (f.below (fun k hk => Nat.le_trans hB hk.1) b.size)⟩
  · obtain ⟨cur, hc⟩ := own_type t.rf hk
    exact no k 71 cur hc (by simp)
  · obtain ⟨cur, hc⟩ := own_type t.rw_ hk
    exact no k 30 cur hc (by simp)
theorem rlast (fl : List RX) : fl = [] ∨ ∃ a x, fl = a ++ [x] := by
  rcases List.eq_nil_or_concat fl with h | ⟨r, f, h⟩
  · exact .inl h
  · exact .inr ⟨r, f, by rw [h, List.concat_eq_append]⟩
section
variable {wr : World} {B g room : Nat} {l : List RF}
theorem zpush_any (bk cl sl : Int) (s : RZ wr B g room l) :
    Calls Try.prog 20 #[.pointer (some ⟨g, 0, none⟩), .int .i64 bk, .int .i64 cl, .int .i64 sl] wr fun e w' => e = .returned (.int .i64 (pushS room l bk cl sl).1) ∧ Hid (RP B wr w' g room (pushS room l bk cl sl).2) := by
  have s' := s
  obtain ⟨fv, fl, t, rfl⟩ := s
  unfold pushS
  by_cases h0 : sl < 0
  · rw [if_pos h0]
    exact (rpush_neg bk cl sl h0).mono fun e w' ⟨he, hb⟩ => ⟨he, Lib.hid (RP.below s' hb)⟩
  rw [if_neg h0]
  obtain ⟨k, rfl⟩ : ∃ k : Nat, sl = k := ⟨sl.toNat, by omega⟩
  by_cases h1 : (room : Int) < used (fl.map (·.f)) + 2 + (k : Int)
  · rw [if_pos h1]
    by_cases h2 : room < k
    · exact (rpush_big bk cl k h2 t).mono fun e w' ⟨he, hb⟩ => ⟨he, Lib.hid (RP.below s' hb)⟩
    · exact (rpush_full bk cl k (by omega) (by omega) t).mono fun e w' ⟨he, hb⟩ => ⟨he, Lib.hid (RP.below s' hb)⟩
  · rw [if_neg h1]
    refine (rpush_ok bk cl k (by omega) t).mono ?_
    rintro e w' ⟨fv', sv, he, t', f, _⟩
    exact ⟨he, Lib.hid (RP.step t f.out (fun _ h => h) t'.out (by simp))⟩
theorem zpop_any (s : RZ wr B g room l) :
    Calls Try.prog 22 #[.pointer (some ⟨g, 0, none⟩)] wr fun e w' => e = .returned (.tuple #[.int .i64 (popS l).1.1, .int .i64 (popS l).1.2.1, .int .i64 (popS l).1.2.2]) ∧ Hid (RP B wr w' g room (popS l).2) := by
  have s' := s
  obtain ⟨fv, fl, t, rfl⟩ := s
  rcases rlast fl with rfl | ⟨a, x, rfl⟩
  · exact (rpop_none t).mono fun e w' ⟨he, hb⟩ => ⟨he, Lib.hid (RP.below s' hb)⟩
  · have e : popS ((a ++ [x]).map (·.f)) = ((x.f.back, x.f.call, 0), a.map (·.f)) := by unfold popS; simp
    rw [e]
    refine (rpop_some t).mono ?_
    rintro e w' ⟨fv', he, t', f, _⟩
    exact ⟨he, Lib.hid (RP.step t f.out (fun _ h => .inl h) t'.out rfl)⟩
theorem zget_any (i : Int) (s : RZ wr B g room l) :
    Calls Try.prog 30 #[.pointer (some ⟨g, 0, none⟩), .int .i64 i] wr fun e w' => e = .returned (.tuple #[.int .u64 (getS l i).1, .int .i64 (getS l i).2]) ∧ Below wr.heap.size wr w' := by
  obtain ⟨fv, fl, t, rfl⟩ := s
  rcases rlast fl with rfl | ⟨a, x, rfl⟩
  · exact rget_none i t
  · exact rget_some i t
theorem zset_any (i x : Int) (s : RZ wr B g room l) :
    Calls Try.prog 23 #[.pointer (some ⟨g, 0, none⟩), .int .i64 i, .int .u64 x] wr fun e w' => e = .returned (.int .i64 (setS l i x).1) ∧ Hid (RP B wr w' g room (setS l i x).2) := by
  have s' := s
  have hg := zget_any i s
  obtain ⟨fv, fl, t, rfl⟩ := s
  rcases rlast fl with rfl | ⟨a, y, rfl⟩
  · exact (rset_fail (c := 4) (v := 0) (by decide) hg).mono fun e w' ⟨he, hb⟩ => ⟨he, Lib.hid (RP.below s' hb)⟩
  · have e0 : (a ++ [y]).map (·.f) = a.map (·.f) ++ [y.f] := by simp
    have e1 := setS_app (a.map (·.f)) y.f i x
    rw [← e0] at e1
    by_cases h : i < 0 ∨ (y.f.slots.length : Int) ≤ i
    · rw [if_pos h] at e1
      have e2 : getS ((a ++ [y]).map (·.f)) i = (0, 1) := by rw [e0, getS_app, if_pos h]
      rw [e2] at hg
      rw [e1]
      exact (rset_fail (c := 1) (v := 0) (by decide) hg).mono fun e w' ⟨he, hb⟩ => ⟨he, Lib.hid (RP.below s' hb)⟩
    · rw [if_neg h] at e1
      rw [e1]
      obtain ⟨k, rfl⟩ : ∃ k : Nat, i = k := ⟨i.toNat, by omega⟩
      refine (rset_ok x k (by omega) t).mono ?_
      rintro e w' ⟨he, t', f, _⟩
      exact ⟨he, Lib.hid (RP.step t f.out (fun _ h => h) t'.out (by simp))⟩
theorem zadd_any (x : Int) (s : RZ wr B g room l) :
    Calls Try.prog 24 #[.pointer (some ⟨g, 0, none⟩), .int .u64 x] wr fun e w' => e = .returned (.int .i64 (addS room l x).1) ∧ Hid (RP B wr w' g room (addS room l x).2) := by
  have s' := s
  obtain ⟨fv, fl, t, rfl⟩ := s
  rcases rlast fl with rfl | ⟨a, y, rfl⟩
  · exact (radd_none x t).mono fun e w' ⟨he, hb⟩ => ⟨he, Lib.hid (RP.below s' hb)⟩
  · have e0 : (a ++ [y]).map (·.f) = a.map (·.f) ++ [y.f] := by simp
    have e1 := addS_app room (a.map (·.f)) y.f x
    rw [← e0] at e1
    by_cases h : room ≤ used ((a ++ [y]).map (·.f))
    · rw [if_pos h] at e1
      rw [e1]
      exact (radd_full x h t).mono fun e w' ⟨he, hb⟩ => ⟨he, Lib.hid (RP.below s' hb)⟩
    · rw [if_neg h] at e1
      rw [e1]
      refine (radd_ok x (by omega) t).mono ?_
      rintro e w' ⟨av, he, t', f, _⟩
      exact ⟨he, Lib.hid (RP.step t f.out (fun _ h => h) t'.out (by simp))⟩
theorem ztake_any (s : RZ wr B g room l) :
    Calls Try.prog 26 #[.pointer (some ⟨g, 0, none⟩)] wr fun e w' => e = .returned (.tuple #[.int .u64 (takeS l).1.1, .int .i64 (takeS l).1.2]) ∧ Hid (RP B wr w' g room (takeS l).2) := by
  have s' := s
  obtain ⟨fv, fl, t, rfl⟩ := s
  rcases rlast fl with rfl | ⟨a, y, rfl⟩
  · exact (rtake_none t).mono fun e w' ⟨he, hb⟩ => ⟨he, Lib.hid (RP.below s' hb)⟩
  · rcases List.eq_nil_or_concat y.f.added with h | ⟨ad, v, h⟩
    · have e1 : takeS ((a ++ [y]).map (·.f)) = ((0, 4), (a ++ [y]).map (·.f)) := by unfold takeS; simp [h]
      rw [e1]
      exact (rtake_empty h t).mono fun e w' ⟨he, hb⟩ => ⟨he, Lib.hid (RP.below s' hb)⟩
    · rw [List.concat_eq_append] at h
      have e1 : takeS ((a ++ [y]).map (·.f)) = ((v, 0), a.map (·.f) ++ [{ y.f with added := ad }]) := by unfold takeS; simp [h]
      rw [e1]
      refine (rtake_ok h t).mono ?_
      rintro e w' ⟨av, he, t', f, _⟩
      exact ⟨he, Lib.hid (RP.step t f.out (fun _ h => h) t'.out (by simp))⟩
theorem zcut_any (d k : Int) (s : RZ wr B g room l) :
    Calls Try.prog 27 #[.pointer (some ⟨g, 0, none⟩), .int .i64 d, .int .i64 k] wr fun e w' => e = .returned (.int .i64 (cutS l d k).1) ∧ Hid (RP B wr w' g room (cutS l d k).2) := by
  have s' := s
  obtain ⟨fv, fl, t, rfl⟩ := s
  have hl : (fl.map (·.f)).length = fl.length := List.length_map _
  by_cases h1 : d < 0 ∨ ((fl.map (·.f)).length : Int) < d ∨ k < 0
  · have e : cutS (fl.map (·.f)) d k = (1, fl.map (·.f)) := if_pos h1
    rw [e]
    refine (rcut_bad d k t ?_).mono fun e w' ⟨he, hb⟩ => ⟨he, Lib.hid (RP.below s' hb)⟩
    rw [hl] at h1; omega
  by_cases h2 : d = 0
  · subst h2
    by_cases h3 : 0 < k
    · have e : cutS (fl.map (·.f)) 0 k = (1, fl.map (·.f)) := by unfold cutS; rw [if_neg h1, if_pos rfl, if_pos h3]
      rw [e]
      exact (rcut_bad 0 k t (by omega)).mono fun e w' ⟨he, hb⟩ => ⟨he, Lib.hid (RP.below s' hb)⟩
    · have e : cutS (fl.map (·.f)) 0 k = (0, []) := by unfold cutS; rw [if_neg h1, if_pos rfl, if_neg h3]
      obtain rfl : k = 0 := by omega
      rw [e]
      refine (rcut_zero t).mono ?_
      rintro e w' ⟨fv', he, t', f, _⟩
      exact ⟨he, Lib.hid (RP.step t f.out (fun _ h => .inl h) t'.out rfl)⟩
  obtain ⟨n, rfl⟩ : ∃ n : Nat, d = ((n + 1 : Nat) : Int) := ⟨d.toNat - 1, by omega⟩
  obtain ⟨q, rfl⟩ : ∃ q : Nat, k = q := ⟨k.toNat, by omega⟩
  have hn : n < fl.length := by rw [hl] at h1; omega
  obtain ⟨a, x, b, rfl, rfl⟩ := split_at fl n hn
  have ecut : cutS ((a ++ x :: b).map (·.f)) ((a.length + 1 : Nat) : Int) (q : Int) = if (x.f.added.length : Int) < (q : Int) then (1, (a ++ x :: b).map (·.f)) else (0, a.map (·.f) ++ [{ x.f with added := x.f.added.take q }]) := by
    unfold cutS
    rw [if_neg h1, if_neg h2]
    have e1 : (((a.length + 1 : Nat) : Int)).toNat - 1 = (a.map (·.f)).length := by rw [List.length_map]; omega
    have e2 : (a ++ x :: b).map (·.f) = a.map (·.f) ++ x.f :: b.map (·.f) := by simp
    rw [e1, e2, List.drop_left' rfl]
    simp only
    rw [List.take_left' rfl, Int.toNat_natCast]
  rw [ecut]
  by_cases h4 : (x.f.added.length : Int) < (q : Int)
  · rw [if_pos h4]
    exact (rcut_many q h4 t).mono fun e w' ⟨he, hb⟩ => ⟨he, Lib.hid (RP.below s' hb)⟩
  · rw [if_neg h4]
    refine (rcut_ok q (by omega) t).mono ?_
    rintro e w' ⟨fv', av, he, t', f, _⟩
    exact ⟨he, Lib.hid (RP.step t f.out (fun _ h => h) t'.out (by simp))⟩
theorem zrenew_any {m c : Nat} {A : Option Addr} {ys : List Int} (hm : m ≤ 1000000) (hs : SL wr A m c ys) (hlow : 0 < m → ∀ b off, A = some ⟨b, off, none⟩ → b < B) (s : RZ wr B g room l) :
    Calls Try.prog 29 #[.pointer (some ⟨g, 0, none⟩), .slice A m c] wr fun e w' => e = .returned (.int .i64 (renewS l ys).1) ∧ Hid (RP B wr w' g room (renewS l ys).2) := by
  have s' := s
  obtain ⟨fv, fl, t, rfl⟩ := s
  unfold renewS
  rw [hs.inl.1]
  by_cases h : m = (wdOf (fl.map (·.f))).length
  · rw [if_pos h]
    refine (rrenew_ok hm h hs hlow t).mono ?_
    rintro e w' ⟨fl', he, t', e2, f, _⟩
    exact ⟨he, Lib.hid (RP.step t f.out (fun _ h => h) t'.out e2.out)⟩
  · rw [if_neg h]
    exact (rrenew_bad hm h t).mono fun e w' ⟨he, hb⟩ => ⟨he, Lib.hid (RP.below s' hb)⟩
theorem zdepth_any (s : RZ wr B g room l) : Calls Try.prog 31 #[.pointer (some ⟨g, 0, none⟩)] wr fun e w' => e = .returned (.int .i64 l.length) ∧ Below wr.heap.size wr w' := by
  obtain ⟨fv, fl, t, rfl⟩ := s
  rw [List.length_map]; exact rdepth_any t
theorem zadded_any (s : RZ wr B g room l) : Calls Try.prog 33 #[.pointer (some ⟨g, 0, none⟩)] wr fun e w' => e = .returned (.int .i64 (addedS l : Nat)) ∧ Below wr.heap.size wr w' := by
  obtain ⟨fv, fl, t, rfl⟩ := s
  rcases rlast fl with rfl | ⟨a, x, rfl⟩
  · exact radded_none t
  · have e : addedS ((a ++ [x]).map (·.f)) = x.f.added.length := by simp [addedS]
    rw [e]; exact radded_some t
theorem zcalls_any (s : RZ wr B g room l) : Calls Try.prog 34 #[.pointer (some ⟨g, 0, none⟩)] wr fun e w' => ∃ A c, e = .returned (.slice A l.length c) ∧ Hid (w'.ownsRow wr.heap.size 3 1 (.slice A l.length c) l.length ((callsS l).map (.int .i64))) ∧ Hid (Below wr.heap.size wr w') := by
  obtain ⟨fv, fl, t, rfl⟩ := s
  rw [List.length_map]; exact rcalls_any t
theorem zroots_any (s : RZ wr B g room l) : Calls Try.prog 37 #[.pointer (some ⟨g, 0, none⟩)] wr fun e w' => ∃ A c, e = .returned (.slice A (wdOf l).length c) ∧ Hid (w'.ownsRow wr.heap.size 29 1 (.slice A (wdOf l).length c) (wdOf l).length (wds (wdOf l))) ∧ Hid (Below wr.heap.size wr w') := by
  obtain ⟨fv, fl, t, rfl⟩ := s
  exact rroots_any t
theorem RZ.below {w' : World} (s : RZ wr B g room l) (h : Below wr.heap.size wr w') : RZ w' B g room l := (RP.below s h).1
end
end Go.Proofs.Ytkecnhogooaccaa
