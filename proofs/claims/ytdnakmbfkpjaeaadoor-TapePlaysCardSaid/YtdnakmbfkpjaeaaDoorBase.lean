import Derived.Test.YtdnakmbfkpjaeaaDoorProg
import Derived.Test.YtdnakmbfkpjaeaaDoorRows
import Derived.Test.YtdnakmbfkpjaeaaDoorShelf
import Derived.WalkKit
import Derived.Handy
import Derived.Lib.Hide
import Derived.BigQuiet
import Derived.Deep.QuietTactic
import Derived.Below
import Derived.Laws.OwnMore
import Derived.OwnWalk
import Derived.Maps.AppendAt
import Derived.WalkSpells
import Derived.OneCell
import Derived.Lib.SmallJoins
import Derived.Deep.RegionHeld3
import Derived.Deep.AppendLies
import Derived.Deep.RegionLaw
namespace Go.Proofs.YtdnakmbfkpjaeaaDoor
open Go.ChangeShapes Go.WideShapes Go.ChangeAt Go.RowKit
set_option linter.unusedVariables false
theorem below_drewN (w : World) (n : Nat) : Below w.heap.size w (w.drewN n) := ⟨rfl, rfl, rfl, Nat.le_refl _, fun _ _ => rfl⟩
theorem below_alloc (w : World) (o : Obj) : Below w.heap.size w (w.alloc o) := (Below.refl _ _).alloc (Nat.le_refl _) _
theorem bt {w a b : World} (h : Below w.heap.size w a) (k : Below a.heap.size a b) : Below w.heap.size w b := h.trans (k.mono h.size)
theorem new_cell (w : World) (v : Value) (t : TypeId) : (w.alloc (.cells #[v] t)).cell? ((⟨w.heap.size, 0, none⟩ : Addr).add 0) = some v := by
  have := (MapKept.heap_alloc w (Obj.cells #[v] t)).1
  show (w.alloc (.cells #[v] t)).cell? ⟨w.heap.size, 0, none⟩ = some v
  unfold World.cell?
  rw [this]; rfl
theorem info2 : (Tryd.prog.info? 2).map (fun i => (i.zero, i.size, i.bytes)) = some (some (.int .i64 0), 1, 8) := by kernel_rfl
theorem info5 : (Tryd.prog.info? 5).map (fun i => (i.zero, i.size, i.bytes)) = some (some (.int .u8 0), 1, 1) := by kernel_rfl
theorem own_mono {w : World} {b b' : Nat} {e : TypeId} {size n : Nat} {v : Value} {xs : List Value} (h : w.ownsRow b' e size v n xs) (hb : b ≤ b') : w.ownsRow b e size v n xs := by
  refine ⟨h.1, ?_⟩
  rcases h.2 with h2 | ⟨g, cap, cur, e1, e2, e3⟩
  · exact .inl h2
  · exact .inr ⟨g, cap, cur, e1, Nat.le_trans hb e2, e3⟩
/-- what may turn: the blocks of R. -/
structure Frm (w w' : World) (R : Nat → Prop) : Prop where
  os : w'.os = w.os
  tape : w'.tape = w.tape
  output : w'.output = w.output
  size : w.heap.size ≤ w'.heap.size
  block : ∀ i, i < w.heap.size → ¬ R i → w'.heap[i]? = w.heap[i]?
theorem Frm.refl (w : World) (R : Nat → Prop) : Frm w w R := ⟨rfl, rfl, rfl, Nat.le_refl _, fun _ _ _ => rfl⟩
theorem Frm.trans {a b c : World} {R : Nat → Prop} (h : Frm a b R) (k : Frm b c R) : Frm a c R :=
  ⟨k.os.trans h.os, k.tape.trans h.tape, k.output.trans h.output, Nat.le_trans h.size k.size, fun i hi hr => (k.block i (Nat.lt_of_lt_of_le hi h.size) hr).trans (h.block i hi hr)⟩
theorem Frm.of_below {w w' : World} {B : Nat} (h : Below B w w') (hB : w.heap.size ≤ B) (R : Nat → Prop) : Frm w w' R := ⟨h.os, h.tape, h.output, h.size, fun i hi _ => h.block i (by omega)⟩
theorem Frm.of_grown {w w' : World} {r : Option Nat} {R : Nat → Prop} (h : w.grownBy w' r) (hr : ∀ k, r = some k → R k) : Frm w w' R := ⟨h.os, h.tape, h.output, h.size, fun i hi hR => h.block i hi (fun e => hR (hr i e.symm))⟩
theorem Frm.below {w w' : World} {R : Nat → Prop} {B : Nat} (h : Frm w w' R) (hR : ∀ k, R k → B ≤ k) (hB : B ≤ w.heap.size) : Below B w w' := ⟨h.os, h.tape, h.output, h.size, fun i hi => h.block i (by omega) (fun hr => by have := hR i hr; omega)⟩
theorem Frm.mono {w w' : World} {R S : Nat → Prop} (h : Frm w w' R) (hs : ∀ k, k < w.heap.size → R k → S k) : Frm w w' S := ⟨h.os, h.tape, h.output, h.size, fun i hi hr => h.block i hi (fun r => hr (hs i hi r))⟩
theorem own_frm {w w' : World} {R : Nat → Prop} {B : Nat} {e : TypeId} {s n : Nat} {v : Value} {xs : List Value} (h : w.ownsRow B e s v n xs) (f : Frm w w' R) (hr : ∀ k, v.ownBlock = some k → ¬ R k) : w'.ownsRow B e s v n xs := by
  have hl := h.lt
  refine ⟨h.1, ?_⟩
  rcases h.2 with h2 | ⟨g, cap, cur, rfl, e2, e3, e4⟩
  · exact .inl h2
  · exact .inr ⟨g, cap, cur, rfl, e2, by rw [f.block g (hl g rfl).2 (hr g rfl)]; exact e3, e4⟩
/-- a list of whole numbers as cells. -/
def its (xs : List Int) : List Value := xs.map (.int .i64)
theorem its_len (xs : List Int) : (its xs).length = xs.length := by simp [its]
theorem its_app (xs ys : List Int) : its (xs ++ ys) = its xs ++ its ys := by simp [its]
theorem its_one (xs : List Int) : ∀ u ∈ its xs, u.oneCell' = true := fun u hu => by simp [its] at hu; obtain ⟨x, _, rfl⟩ := hu; rfl
theorem its_at (xs : List Int) (j : Nat) (h : j < xs.length) : (its xs)[j]? = some (.int .i64 (xs.getD j 0)) := by simp [its, h]
theorem iown_len {w : World} {B n : Nat} {v : Value} {xs : List Int} (h : w.ownsRow B 2 1 v n (its xs)) : n = xs.length := by have := h.1; rw [its_len] at this; omega
/-- a slice of whole numbers as an argument. -/
def SlI (w : World) (A : Option Addr) (n c : Nat) (xs : List Int) : Prop := xs.length = n ∧ n ≤ c ∧ (A = none → c = 0) ∧ (0 < n → ∃ h o, A = some ⟨h, o, none⟩ ∧ h < w.heap.size ∧ ∀ j, j < n → w.cell? ⟨h, o + j, none⟩ = some (.int .i64 (xs.getD j 0)))
theorem SlI.below {w w' : World} {A : Option Addr} {n c : Nat} {xs : List Int} (s : SlI w A n c xs) (hb : Below w.heap.size w w') : SlI w' A n c xs :=
  ⟨s.1, s.2.1, s.2.2.1, fun h => by
    obtain ⟨g, o, e, hlt, hc⟩ := s.2.2.2 h
    exact ⟨g, o, e, Nat.lt_of_lt_of_le hlt hb.size, fun j hj => by rw [hb.cell (p := ⟨g, o + j, none⟩) hlt, hc j hj]⟩⟩
/-- the tape. -/
def TObj (w : World) (g : Nat) (iv ov : Value) (rd : Nat) : Prop := w.heap[g]? = some (.cells #[iv, ov, .int .i64 rd] 44 (0, 0))
section
variable {w : World} {g : Nat} {iv ov : Value} {rd : Nat}
theorem TObj.c0 (h : TObj w g iv ov rd) : w.cell? ⟨g, 0, none⟩ = some iv := by unfold TObj at h; simp [World.cell?, h]
theorem TObj.c1 (h : TObj w g iv ov rd) : w.cell? ⟨g, 1, none⟩ = some ov := by unfold TObj at h; simp [World.cell?, h]
theorem TObj.c2 (h : TObj w g iv ov rd) : w.cell? ⟨g, 2, none⟩ = some (.int .i64 rd) := by unfold TObj at h; simp [World.cell?, h]
theorem TObj.f (h : TObj w g iv ov rd) (i : Nat) : w.frozen? ⟨g, i, none⟩ = false := by unfold TObj at h; simp [World.frozen?, h]
theorem TObj.lt (h : TObj w g iv ov rd) : g < w.heap.size := (Array.getElem?_eq_some_iff.1 h).1
theorem TObj.set1 (h : TObj w g iv ov rd) (v : Value) : TObj (w.setCell ⟨g, 1, none⟩ v) g iv v rd := by unfold TObj at h ⊢; simp [World.setCell, Array.getElem?_modify, h]
theorem TObj.set2 (h : TObj w g iv ov rd) (k : Nat) : TObj (w.setCell ⟨g, 2, none⟩ (.int .i64 k)) g iv ov k := by unfold TObj at h ⊢; simp [World.setCell, Array.getElem?_modify, h]
end
structure Tp (w : World) (B g : Nat) (iv ov : Value) (inp out : List Int) (rd : Nat) : Prop where
  obj : TObj w g iv ov rd
  rin : w.ownsRow B 2 1 iv inp.length (its inp)
  rout : w.ownsRow B 2 1 ov out.length (its out)
  ni : iv.ownBlock ≠ some g
  no : ov.ownBlock ≠ some g
  ne : ∀ k, ov.ownBlock = some k → iv.ownBlock ≠ some k
  le : B ≤ g
  rd : rd ≤ inp.length
/-- the tape's blocks that may turn. -/
def Mine (g : Nat) (ov : Value) (k : Nat) : Prop := k = g ∨ ov.ownBlock = some k
theorem Tp.frm {w w' : World} {B g : Nat} {iv ov : Value} {inp out : List Int} {rd : Nat} {R : Nat → Prop} (t : Tp w B g iv ov inp out rd) (f : Frm w w' R) (h1 : ¬ R g) (h2 : ∀ k, iv.ownBlock = some k → ¬ R k) (h3 : ∀ k, ov.ownBlock = some k → ¬ R k) : Tp w' B g iv ov inp out rd :=
  ⟨(f.block g t.obj.lt h1).trans t.obj, own_frm t.rin f h2, own_frm t.rout f h3, t.ni, t.no, t.ne, t.le, t.rd⟩
theorem Tp.below {w w' : World} {B g : Nat} {iv ov : Value} {inp out : List Int} {rd : Nat} (t : Tp w B g iv ov inp out rd) (hb : Below w.heap.size w w') : Tp w' B g iv ov inp out rd :=
  t.frm (R := fun _ => False) (Frm.of_below hb (Nat.le_refl _) _) (fun h => h) (fun _ _ h => h) (fun _ _ h => h)
theorem iform {w : World} {B n : Nat} {v : Value} {xs : List Int} (h : w.ownsRow B 2 1 v n (its xs)) : ∃ A c, v = .slice A n c := by
  rcases h.2 with ⟨rfl, rfl⟩ | ⟨g, cap, cur, rfl, _⟩
  · exact ⟨none, 0, rfl⟩
  · exact ⟨_, cap, rfl⟩
theorem frm_set {w : World} {g : Nat} {R : Nat → Prop} (i : Nat) (v : Value) (h : R g) : Frm w (w.setCell ⟨g, i, none⟩ v) R :=
  ⟨rfl, rfl, rfl, by simp [World.setCell], fun j hj hr => by
    have : j ≠ g := fun e => hr (e ▸ h)
    simp [World.setCell, Array.getElem?_modify, Ne.symm this]⟩
end Go.Proofs.YtdnakmbfkpjaeaaDoor
