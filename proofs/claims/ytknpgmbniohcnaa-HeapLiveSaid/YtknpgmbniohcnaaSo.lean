import Derived.Test.YtknpgmbniohcnaaLx
import Derived.Laws.BytesArg
namespace Go.Proofs.Ytknpgmbniohcnaa
open Go.ChangeShapes Go.WideShapes Go.ChangeAt Go.RowKit
set_option linter.unusedVariables false
theorem own_inB {w : World} {B n : Nat} {v : Value} {l : List Int} (h : w.ownsRow B 5 1 v n (wb l)) : ∃ A c, v = .slice A n c ∧ InB w A c l ∧ l.length = n := by
  have hl := h.1
  rw [wb_len] at hl
  rcases h.2 with ⟨rfl, rfl⟩ | ⟨g, cap, cur, rfl, e2, e3, e4, _⟩
  · exact ⟨none, 0, rfl, ⟨fun _ => ⟨by omega, rfl⟩, fun ad h => (by cases h)⟩, by omega⟩
  · refine ⟨_, _, rfl, ⟨fun h => (by cases h), fun ad had => ?_⟩, by omega⟩
    injection had with had; subst had
    refine ⟨g, 0, rfl, (h.lt g rfl).2, by omega, fun j hj => ?_⟩
    rw [Nat.zero_add]
    exact (h.cellAt j (by omega)).trans (wb_at l j hj)
theorem str_inB {w : World} {A : Option Addr} {c : Nat} {l : List Int} (h : InB w A c l) : (convert 40 9 (.slice A l.length c)).run Try.prog w = .ok (.string (strOfNums l)) w := by
  cases A with
  | none =>
    have e : l = [] := List.eq_nil_of_length_eq_zero (h.1 rfl).1
    subst e
    exact run_convert_bytes_nil w 40 5 Try.underlying40 Try.underlying5 0 c 9 Try.underlying9
  | some ad =>
    obtain ⟨b, off, rfl, _, _, hc⟩ := h.2 ad rfl
    exact run_convert_bytes_arg w 40 5 Try.underlying40 Try.underlying5 b off l.length c l rfl (fun i hi => by rw [hc i hi]; simp [List.getD, List.getElem?_eq_getElem hi]) 9 Try.underlying9
theorem str_own {w : World} {B n : Nat} {v : Value} {l : List Int} (h : w.ownsRow B 5 1 v n (wb l)) : (convert 40 9 v).run Try.prog w = .ok (.string (strOfNums l)) w := by
  obtain ⟨A, c, rfl, hi, rfl⟩ := own_inB h
  exact str_inB hi
/-- what a call on one heap leaves of another. -/
theorem HpAt.apart {w w' : World} {B H o : Nat} {m : Hm} {R : Nat → Prop} (h : HpAt w B H o m) (f : Frm w w' R) (hr : ∀ k, R k → ∀ j, HR w H o j → j ≠ k) : HpAt w' B H o m := h.frm f (fun j hj hR => hr j hR j hj rfl)
structure OwnI (w wr : World) (H B : Nat) (m : Hm) : Prop where
  full : Full m
  room : m.room = 500
  le : (m.ws.length : Int) ≤ m.room
  hp : HpAt wr B H 0 m
  bel : Below w.heap.size w wr
  ge : w.heap.size ≤ H ∧ w.heap.size ≤ B
theorem OwnI.make {w wr w' : World} {H B : Nat} {m : Hm} {k t : Int} {xs : List Int} (h : OwnI w wr H B m) (hx : ∀ x ∈ xs, U64 x) (hp : HpAt w' B H 0 (makeM m k t xs)) (f : Frm wr w' (HR wr H 0)) : OwnI w w' H B (makeM m k t xs) :=
  ⟨full_make h.full hx, (make_room _ _ _ _).1.trans h.room, make_len h.le, hp, h.bel.trans (frm_ge h.hp f h.ge.1 h.ge.2 h.bel.size), h.ge⟩
end Go.Proofs.Ytknpgmbniohcnaa
