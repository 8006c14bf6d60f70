import Derived.Test.YtkecnhogooaccaaRk
import Derived.Test.YtkecnhogooaccaaActs
namespace Go.Proofs.Ytkecnhogooaccaa
open Go.ChangeShapes Go.WideShapes Go.ChangeAt Go.RowKit
set_option linter.unusedVariables false
/-- a row of words that came in, its bounds. -/
structure SL (w : World) (A : Option Addr) (m c : Nat) (ys : List Int) : Prop where
  inl : InL .u64 w A m ys
  le : m ≤ c
  nil : A = none → c = 0
/-- where a part of it lies. -/
def subA (A : Option Addr) (c k : Nat) : Option Addr := if c = k then A else A.map (·.add k)
theorem SL.sub_none {w : World} {A : Option Addr} {m c k p : Nat} {ys : List Int} (h : SL w A m c ys) (hk : k + p ≤ m) : subA A c k = none → p = 0 ∧ c - k = 0 := by
  intro e
  unfold subA at e
  split at e
  · rename_i hc; have := h.le; omega
  · cases A with
    | none => have := h.nil rfl; have := h.le; omega
    | some a => simp at e
theorem SL.sub_news {w W : World} {A : Option Addr} {m c k p : Nat} {ys : List Int} (h : SL w A m c ys) (hk : k + p ≤ m) (hW : Below w.heap.size w W) : ∀ ad, subA A c k = some ad → ∀ j u, (wds ((ys.drop k).take p))[j]? = some u → W.cell? (ad.add j) = some u := by
  intro ad e j u hu
  have hj := (List.getElem?_eq_some_iff.1 hu).1
  rw [wds_len, List.length_take, List.length_drop, h.inl.1] at hj
  have hj2 : j < p := by omega
  have hl := h.le
  unfold subA at e
  rw [if_neg (by omega)] at e
  obtain ⟨b, off, e1, hc⟩ := h.inl.at (by omega)
  rw [e1] at e
  simp only [Option.map_some, Option.some.injEq] at e
  rw [← e, Go.WideShapes.add_plain, Go.WideShapes.add_plain, Nat.add_assoc, hc W (k + j) hW (by omega)]
  simp only [wds, List.getElem?_map, List.getElem?_take, List.getElem?_drop] at hu
  rw [if_pos hj2] at hu
  rw [← hu]
  have hy : k + j < ys.length := by rw [h.inl.1]; omega
  simp [List.getD, hy]
theorem SL.below {w W : World} {A : Option Addr} {m c : Nat} {ys : List Int} (h : SL w A m c ys) (hW : Below w.heap.size w W) : SL W A m c ys := ⟨h.inl.below hW, h.le, h.nil⟩
theorem refill_snoc : ∀ (l : List RF) (f : RF) (ys : List Int), refill (l ++ [f]) ys = refill l ys ++ [{ f with slots := (ys.drop (wdOf l).length).take f.slots.length, added := (ys.drop ((wdOf l).length + f.slots.length)).take f.added.length }]
  | [], f, ys => by simp [refill, wdOf]
  | g :: r, f, ys => by
    have e : wdOf (g :: r) = g.ws ++ wdOf r := by simp [wdOf]
    rw [List.cons_append, refill, refill_snoc r f, refill, e, List.length_append, List.cons_append, List.drop_drop, List.drop_drop, ← Nat.add_assoc]
set_option maxRecDepth 100000 in
set_option maxHeartbeats 2000000 in
theorem rrenew_bad {w : World} {B g room m c : Nat} {fv : Value} {fl : List RX} {A : Option Addr} (hm : m ≤ 1000000) (hn : m ≠ (wdOf (fl.map (·.f))).length) (t : RS w B g room fv fl) :
    Calls Try.prog 29 #[.pointer (some ⟨g, 0, none⟩), .slice A m c] w fun e w' => e = .returned (.int .i64 1) ∧ Below w.heap.size w w' := by
  have RT := Lib.hid (rroots_any t)
  have hl := t.len.2
  obtain ⟨L, hL⟩ : ∃ L, L = (wdOf (fl.map (·.f))).length := ⟨_, rfl⟩
  rw [← hL] at RT hn hl
  have d : ((m : Int) == (L : Int)) = false := beq_eq_false_iff_ne.2 (by omega)
  have d' : (m == L) = false := beq_eq_false_iff_ne.2 hn
  clear t hn hL
  go_enter Try.func29, Try.ntmps29
  go_wp2_with fail
  refine RT.out.mono ?_; rintro e w1 ⟨A1, c1, rfl, o1, b1⟩
  clear RT o1
  go_wp2
  go_ret
  exact ⟨rfl, b1.out⟩
/-- the state within Renew: the first frames are new. -/
def RN (w0 : World) (B g room : Nat) (fv : Value) (fl : List RX) (ys : List Int) (i K : Nat) (wr : World) : Prop :=
  ∃ a b : List RX, RS wr B g room fv (a ++ b) ∧ a.length = i ∧ b = fl.drop i ∧ a.map (·.f) = refill ((fl.take i).map (·.f)) ys ∧ K = (rts fl i).length ∧ Frm w0 wr (Own g fv fl) ∧ ∀ k, Own g fv (a ++ b) k → Own g fv fl k ∨ w0.heap.size ≤ k
theorem rn_first {w0 w1 : World} {B g room : Nat} {fv : Value} {fl : List RX} {ys : List Int} (t : RS w0 B g room fv fl) (hb : Below w0.heap.size w0 w1) : RN w0 B g room fv fl ys 0 0 w1 :=
  ⟨[], fl, t.below hb, rfl, by simp, by simp [refill], by simp [rts, wdOf], Frm.of_below hb (Nat.le_refl _) _, fun k h => .inl h⟩
theorem rn_end {w0 wr : World} {B g room K : Nat} {fv : Value} {fl : List RX} {ys : List Int} (h : RN w0 B g room fv fl ys fl.length K wr) : ∃ fl' : List RX, Hid (RS wr B g room fv fl') ∧ Hid (fl'.map (·.f) = refill (fl.map (·.f)) ys) ∧ Hid (Frm w0 wr (Own g fv fl)) ∧ Hid (∀ k, Own g fv fl' k → Own g fv fl k ∨ w0.heap.size ≤ k) := by
  obtain ⟨a, b, h1, h2, h3, h4, h5, h6, h7⟩ := h
  obtain rfl : b = [] := by rw [h3]; simp
  rw [List.append_nil] at h1 h7
  rw [List.take_length] at h4
  exact ⟨a, Lib.hid h1, Lib.hid h4, Lib.hid h6, Lib.hid h7⟩
end Go.Proofs.Ytkecnhogooaccaa
