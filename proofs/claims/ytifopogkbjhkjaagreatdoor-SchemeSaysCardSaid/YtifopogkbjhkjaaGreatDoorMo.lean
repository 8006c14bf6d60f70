import Derived.Test.YtifopogkbjhkjaaGreatDoorMc
import Derived.Test.YtifopogkbjhkjaaGreatDoorRp
import Derived.Test.YtifopogkbjhkjaaGreatDoorSd
namespace Go.Proofs.YtifopogkbjhkjaaGreatDoor
open DR
open Go.ChangeShapes Go.WideShapes Go.ChangeAt Go.RowKit Go.WideMaps
set_option linter.unusedVariables false
set_option linter.unusedSimpArgs false
/-- a row that grows in a struct's field. -/
structure CpU (e : TypeId) (wB wr : World) (u : Nat) (v : Value) (k : Nat) (l : List TT) (xs : List Value) : Prop where
  frm : Frm wB wr (· = u)
  own : wr.ownsRow wB.heap.size e 4 v k xs
  kids : KidsT wr (fun b => wB.heap.size ≤ b ∧ v.ownBlock ≠ some b) l xs
  len : l.length = k
  ult : u < wB.heap.size
theorem cpu_step {e : TypeId} {wB wr w2 w4 : World} {u : Nat} {v v' : Value} {k c2 : Nat} {l : List TT} {xs : List Value} {T : TT} {A2 : Option Addr} (h : CpU e wB wr u v k l xs) (hb2 : Below wr.heap.size wr w2) (hr2 : TRow w2 (wr.heap.size ≤ ·) A2 T.args) (ob : Obj)
    (own4 : w4.ownsRow wB.heap.size e 4 v' (k + 1) (xs ++ kidT T A2 c2)) (gr4 : (w2.alloc ob).grownBy w4 v.ownBlock) (at4 : v'.ownBlock = v.ownBlock ∨ v'.ownBlock = some (w2.alloc ob).heap.size) :
    CpU e wB (w4.setCell ⟨u, 3, none⟩ v') u v' (k + 1) (l ++ [T]) (xs ++ kidT T A2 c2) := by
  have hv : ∀ b, v.ownBlock = some b → wB.heap.size ≤ b ∧ b < wr.heap.size := fun b hb => h.own.lt b hb
  have h1s := h.frm.size
  have h2s := hb2.size
  have h3s : (w2.alloc ob).heap.size = w2.heap.size + 1 := by simp
  have h4s := gr4.size
  have hu := h.ult
  have fs : Frm w4 (w4.setCell ⟨u, 3, none⟩ v') (· = u) := frm_set (R := (· = u)) 3 v' rfl
  have keep : ∀ b, b < w2.heap.size → v.ownBlock ≠ some b → b ≠ u → (w4.setCell ⟨u, 3, none⟩ v').heap[b]? = w2.heap[b]? := by
    intro b hb hne hbu
    rw [fs.block b (by omega) hbu, gr4.block b (by omega) (fun e => hne e.symm)]
    show (w2.heap.push ob)[b]? = _
    rw [Array.getElem?_push, if_neg (by omega)]
  have hv' : ∀ b, b < w2.heap.size → v.ownBlock ≠ some b → v'.ownBlock ≠ some b := fun b hb hne e => by
    rcases at4 with q | q
    · exact hne (q.symm.trans e)
    · rw [q] at e; injection e with e; omega
  have hsz := fs.size
  refine ⟨?_, own_frm own4 fs (fun q hq e => by have := (own4.lt q hq).1; have e2 : q = u := e; omega), KidsT.snoc ?_ ?_, by rw [List.length_append, h.len]; rfl, h.ult⟩
  · exact ((h.frm.trans (Frm.of_below (bt hb2 (below_alloc w2 ob)) (Nat.le_refl _) _)).trans' (Frm.of_grown (R := fun q => v.ownBlock = some q) gr4 (fun q h => h)) (fun q hq hb => by have := (hv q hb).1; omega)).trans fs
  · exact hr2.move (fun b hb hp => ⟨keep b hb (fun e => by have := hv b e; omega) (by omega), by omega, hv' b hb (fun e => by have := hv b e; omega)⟩) (by omega)
  · exact h.kids.move (fun b hb hp => ⟨(keep b (by omega) hp.2 (by omega)).trans (hb2.block b hb), hp.1, hv' b (by omega) hp.2⟩) (by omega)
theorem cpu_fin {e : TypeId} {wB wr : World} {u : Nat} {v : Value} {k : Nat} {l : List TT} {xs : List Value} (h : CpU e wB wr u v k l xs) : ∃ A c, v = .slice A k c ∧ TRow wr (wB.heap.size ≤ ·) A l := by
  rcases h.own.2 with ⟨q1, q2⟩ | ⟨g, cap, cur, q1, q2, q3, q4, q5, q6, q7⟩
  · refine ⟨none, 0, by rw [q1, q2], .inl (by rw [h.len, q2])⟩
  · refine ⟨_, _, q1, .inr ⟨g, 0, rfl, (Array.getElem?_eq_some_iff.1 q3).1, q2, ?_⟩⟩
    refine KidsT.row (h.kids.move (P' := (wB.heap.size ≤ ·)) (fun b _ hp => ⟨rfl, hp.1⟩) (Nat.le_refl _)) (fun j hj => ?_)
    rw [Nat.zero_add]
    have hown := h.own
    rw [q1] at hown
    exact (hown.cellAt j (by rw [← hown.1]; exact hj)).trans (List.getElem?_eq_getElem hj)
end Go.Proofs.YtifopogkbjhkjaaGreatDoor
