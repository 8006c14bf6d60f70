import Derived.Test.YtkecnhogooaccaaProg
import Derived.Test.YtkecnhogooaccaaRows
import Derived.WalkKit
import Derived.Handy
import Derived.Lib.Hide
import Derived.BigQuiet
import Derived.Deep.QuietTactic
import Derived.Below
import Derived.Laws.OwnMore
import Derived.OwnWalk
import Derived.Maps.AppendAt
import Derived.WalkSpells
import Derived.OneCell
import Derived.Lib.SmallJoins
import Derived.Deep.RegionHeld3
import Derived.Deep.AppendLies
import Derived.Deep.RegionLaw
import Derived.RegionTactic
import Derived.ChangeAlike
namespace Go.Proofs.Ytkecnhogooaccaa
open Go.ChangeShapes Go.WideShapes Go.ChangeAt Go.RowKit
set_option linter.unusedVariables false
theorem below_drewN (w : World) (n : Nat) : Below w.heap.size w (w.drewN n) := ⟨rfl, rfl, rfl, Nat.le_refl _, fun _ _ => rfl⟩
theorem below_alloc (w : World) (o : Obj) : Below w.heap.size w (w.alloc o) := (Below.refl _ _).alloc (Nat.le_refl _) _
theorem bt {w a b : World} (h : Below w.heap.size w a) (k : Below a.heap.size a b) : Below w.heap.size w b := h.trans (k.mono h.size)
theorem new_cell (w : World) (v : Value) (t : TypeId) : (w.alloc (.cells #[v] t)).cell? ((⟨w.heap.size, 0, none⟩ : Addr).add 0) = some v := by
  have := (MapKept.heap_alloc w (Obj.cells #[v] t)).1
  show (w.alloc (.cells #[v] t)).cell? ⟨w.heap.size, 0, none⟩ = some v
  unfold World.cell?
  rw [this]; rfl
theorem own_mono {w : World} {b b' : Nat} {e : TypeId} {size n : Nat} {v : Value} {xs : List Value} (h : w.ownsRow b' e size v n xs) (hb : b ≤ b') : w.ownsRow b e size v n xs := by
  refine ⟨h.1, ?_⟩
  rcases h.2 with h2 | ⟨g, cap, cur, e1, e2, e3⟩
  · exact .inl h2
  · exact .inr ⟨g, cap, cur, e1, Nat.le_trans hb e2, e3⟩
/-- what may turn: the blocks of R. -/
structure Frm (w w' : World) (R : Nat → Prop) : Prop where
  os : w'.os = w.os
  tape : w'.tape = w.tape
  output : w'.output = w.output
  size : w.heap.size ≤ w'.heap.size
  block : ∀ i, i < w.heap.size → ¬ R i → w'.heap[i]? = w.heap[i]?
theorem Frm.refl (w : World) (R : Nat → Prop) : Frm w w R := ⟨rfl, rfl, rfl, Nat.le_refl _, fun _ _ _ => rfl⟩
theorem Frm.trans {a b c : World} {R : Nat → Prop} (h : Frm a b R) (k : Frm b c R) : Frm a c R :=
  ⟨k.os.trans h.os, k.tape.trans h.tape, k.output.trans h.output, Nat.le_trans h.size k.size, fun i hi hr => (k.block i (Nat.lt_of_lt_of_le hi h.size) hr).trans (h.block i hi hr)⟩
theorem Frm.of_below {w w' : World} {B : Nat} (h : Below B w w') (hB : w.heap.size ≤ B) (R : Nat → Prop) : Frm w w' R := ⟨h.os, h.tape, h.output, h.size, fun i hi _ => h.block i (by omega)⟩
theorem Frm.of_grown {w w' : World} {r : Option Nat} {R : Nat → Prop} (h : w.grownBy w' r) (hr : ∀ k, r = some k → R k) : Frm w w' R := ⟨h.os, h.tape, h.output, h.size, fun i hi hR => h.block i hi (fun e => hR (hr i e.symm))⟩
theorem Frm.below {w w' : World} {R : Nat → Prop} {B : Nat} (h : Frm w w' R) (hR : ∀ k, R k → B ≤ k) (hB : B ≤ w.heap.size) : Below B w w' := ⟨h.os, h.tape, h.output, h.size, fun i hi => h.block i (by omega) (fun hr => by have := hR i hr; omega)⟩
theorem Frm.mono {w w' : World} {R S : Nat → Prop} (h : Frm w w' R) (hs : ∀ k, k < w.heap.size → R k → S k) : Frm w w' S := ⟨h.os, h.tape, h.output, h.size, fun i hi hr => h.block i hi (fun r => hr (hs i hi r))⟩
theorem own_frm {w w' : World} {R : Nat → Prop} {B : Nat} {e : TypeId} {s n : Nat} {v : Value} {xs : List Value} (h : w.ownsRow B e s v n xs) (f : Frm w w' R) (hr : ∀ k, v.ownBlock = some k → ¬ R k) : w'.ownsRow B e s v n xs := by
  have hl := h.lt
  refine ⟨h.1, ?_⟩
  rcases h.2 with h2 | ⟨g, cap, cur, rfl, e2, e3, e4⟩
  · exact .inl h2
  · exact .inr ⟨g, cap, cur, rfl, e2, by rw [f.block g (hl g rfl).2 (hr g rfl)]; exact e3, e4⟩
theorem frm_set {w : World} {g : Nat} {R : Nat → Prop} (i : Nat) (v : Value) (h : R g) : Frm w (w.setCell ⟨g, i, none⟩ v) R :=
  ⟨rfl, rfl, rfl, by simp [World.setCell], fun j hj hr => by
    have : j ≠ g := fun e => hr (e ▸ h)
    simp [World.setCell, Array.getElem?_modify, Ne.symm this]⟩
theorem info30 : (Try.prog.info? 30).map (fun i => (i.zero, i.size, i.bytes)) = some (some (.int .u64 0), 1, 8) := by kernel_rfl
theorem info71 : (Try.prog.info? 71).map (fun i => (i.size, i.bytes)) = some (4, 32) := by kernel_rfl
/-- words as cells. -/
def wds (xs : List Int) : List Value := xs.map (.int .u64)
theorem wds_len (xs : List Int) : (wds xs).length = xs.length := by simp [wds]
theorem wds_app (xs ys : List Int) : wds (xs ++ ys) = wds xs ++ wds ys := by simp [wds]
theorem wds_one (xs : List Int) : ∀ u ∈ wds xs, u.oneCell' = true := fun u hu => by simp [wds] at hu; obtain ⟨x, _, rfl⟩ := hu; rfl
theorem wds_at (xs : List Int) (j : Nat) (h : j < xs.length) : (wds xs)[j]? = some (.int .u64 (xs.getD j 0)) := by simp [wds, h]
/-- a frame: back, call, base, slots. -/
structure Fm where
  back : Int
  call : Int
  base : Nat
  slots : Nat
def frs (fr : List Fm) : List Value := fr.flatMap fun f => [.int .i64 f.back, .int .i64 f.call, .int .i64 f.base, .int .i64 f.slots]
theorem frs_len (fr : List Fm) : (frs fr).length = fr.length * 4 := by
  induction fr with
  | nil => rfl
  | cons f r ih => simp [frs] at ih ⊢; omega
theorem frs_app (a b : List Fm) : frs (a ++ b) = frs a ++ frs b := by simp [frs]
theorem frs_one (fr : List Fm) : ∀ u ∈ frs fr, u.oneCell' = true := fun u hu => by
  simp only [frs, List.mem_flatMap] at hu
  obtain ⟨f, _, hu⟩ := hu
  simp at hu
  rcases hu with rfl | rfl | rfl | rfl <;> rfl
theorem frs_at (fr : List Fm) (i : Nat) (f : Fm) (h : fr[i]? = some f) : (frs fr)[i * 4]? = some (.int .i64 f.back) ∧ (frs fr)[i * 4 + 1]? = some (.int .i64 f.call) ∧ (frs fr)[i * 4 + 2]? = some (.int .i64 f.base) ∧ (frs fr)[i * 4 + 3]? = some (.int .i64 f.slots) := by
  have hi := (List.getElem?_eq_some_iff.1 h).1
  have e : fr = fr.take i ++ f :: fr.drop (i + 1) := by
    have := List.take_append_drop i fr
    rw [List.drop_eq_getElem_cons hi] at this
    have hf : fr[i] = f := (List.getElem?_eq_some_iff.1 h).2
    rw [hf] at this; exact this.symm
  have hl : (frs (fr.take i)).length = i * 4 := by rw [frs_len, List.length_take]; congr 1; omega
  have e2 : frs fr = frs (fr.take i) ++ ([.int .i64 f.back, .int .i64 f.call, .int .i64 f.base, .int .i64 f.slots] ++ frs (fr.drop (i + 1))) := by
    conv => lhs; rw [e, frs_app]
    rfl
  rw [e2]
  refine ⟨?_, ?_, ?_, ?_⟩
  all_goals (rw [List.getElem?_append_right (by omega), hl])
  · rw [Nat.sub_self]; rfl
  · rw [show i * 4 + 1 - i * 4 = 1 by omega]; rfl
  · rw [show i * 4 + 2 - i * 4 = 2 by omega]; rfl
  · rw [show i * 4 + 3 - i * 4 = 3 by omega]; rfl
/-- frames (the top first) over n words: each begins where the words of those below it end, or later. -/
def Good : List Fm → Nat → Prop
  | [], n => n = 0
  | f :: r, n => f.base + f.slots ≤ n ∧ Good r f.base
/-- the stack. -/
def SObj (w : World) (g : Nat) (room : Int) (fv wv : Value) : Prop := w.heap[g]? = some (.cells #[.int .i64 room, fv, wv] 69 (0, 0))
section
variable {w : World} {g : Nat} {room : Int} {fv wv : Value}
theorem SObj.c0 (h : SObj w g room fv wv) : w.cell? ⟨g, 0, none⟩ = some (.int .i64 room) := by unfold SObj at h; simp [World.cell?, h]
theorem SObj.c1 (h : SObj w g room fv wv) : w.cell? ⟨g, 1, none⟩ = some fv := by unfold SObj at h; simp [World.cell?, h]
theorem SObj.c2 (h : SObj w g room fv wv) : w.cell? ⟨g, 2, none⟩ = some wv := by unfold SObj at h; simp [World.cell?, h]
theorem SObj.f (h : SObj w g room fv wv) (i : Nat) : w.frozen? ⟨g, i, none⟩ = false := by unfold SObj at h; simp [World.frozen?, h]
theorem SObj.lt (h : SObj w g room fv wv) : g < w.heap.size := (Array.getElem?_eq_some_iff.1 h).1
theorem SObj.set1 (h : SObj w g room fv wv) (v : Value) : SObj (w.setCell ⟨g, 1, none⟩ v) g room v wv := by unfold SObj at h ⊢; simp [World.setCell, Array.getElem?_modify, h]
theorem SObj.set2 (h : SObj w g room fv wv) (v : Value) : SObj (w.setCell ⟨g, 2, none⟩ v) g room fv v := by unfold SObj at h ⊢; simp [World.setCell, Array.getElem?_modify, h]
end
structure Sk (w : World) (B g : Nat) (room : Nat) (fv wv : Value) (fr : List Fm) (ws : List Int) : Prop where
  obj : SObj w g room fv wv
  rf : w.ownsRow B 71 4 fv fr.length (frs fr)
  rw_ : w.ownsRow B 30 1 wv ws.length (wds ws)
  nf : fv.ownBlock ≠ some g
  nw : wv.ownBlock ≠ some g
  ne : ∀ k, fv.ownBlock = some k → wv.ownBlock ≠ some k
  le : B ≤ g
  good : Good fr.reverse ws.length
  fits : ws.length + 2 * fr.length ≤ room
  small : room ≤ 4096
theorem Sk.frm {w w' : World} {B g room : Nat} {fv wv : Value} {fr : List Fm} {ws : List Int} {R : Nat → Prop} (t : Sk w B g room fv wv fr ws) (f : Frm w w' R) (h1 : ¬ R g) (h2 : ∀ k, fv.ownBlock = some k → ¬ R k) (h3 : ∀ k, wv.ownBlock = some k → ¬ R k) : Sk w' B g room fv wv fr ws :=
  ⟨(f.block g t.obj.lt h1).trans t.obj, own_frm t.rf f h2, own_frm t.rw_ f h3, t.nf, t.nw, t.ne, t.le, t.good, t.fits, t.small⟩
theorem Sk.below {w w' : World} {B g room : Nat} {fv wv : Value} {fr : List Fm} {ws : List Int} (t : Sk w B g room fv wv fr ws) (hb : Below w.heap.size w w') : Sk w' B g room fv wv fr ws :=
  t.frm (R := fun _ => False) (Frm.of_below hb (Nat.le_refl _) _) (fun h => h) (fun _ _ h => h) (fun _ _ h => h)
theorem vform {w : World} {B n s : Nat} {e : TypeId} {v : Value} {xs : List Value} (h : w.ownsRow B e s v n xs) : ∃ A c, v = .slice A n c := by
  rcases h.2 with ⟨rfl, rfl⟩ | ⟨g, cap, cur, rfl, _⟩
  · exact ⟨none, 0, rfl⟩
  · exact ⟨_, cap, rfl⟩
set_option maxRecDepth 100000 in
set_option maxHeartbeats 2000000 in
theorem new_any {w : World} (room : Nat) (h1 : 16 ≤ room) (h2 : room ≤ 4096) :
    Calls Try.prog 8 #[.int .i64 room] w fun e w' => ∃ g, e = .returned (.tuple #[.pointer (some ⟨g, 0, none⟩), .int .i64 0]) ∧ Hid (Sk w' w.heap.size g room (.slice none 0 0) (.slice none 0 0) [] []) ∧ Hid (Below w.heap.size w w') := by
  have d1 := decide_eq_false (show ¬ (room : Int) < 16 by omega)
  have d2 := decide_eq_false (show ¬ (4096 : Int) < (room : Int) by omega)
  have d1' := decide_eq_false (show ¬ room < 16 by omega)
  have d2' := decide_eq_false (show ¬ 4096 < room by omega)
  have SK : Hid (Sk (w.alloc (.cells #[.int .i64 room, .slice none 0 0, .slice none 0 0] 69)) w.heap.size w.heap.size room (.slice none 0 0) (.slice none 0 0) [] []) := Lib.hid ⟨by
    unfold SObj
    show (w.heap.push _)[w.heap.size]? = _
    simp, World.ownsRow_nil _ _ _ _, World.ownsRow_nil _ _ _ _, by simp [Value.ownBlock], by simp [Value.ownBlock], fun k h => by simp [Value.ownBlock] at h, Nat.le_refl _, rfl, by simp, h2⟩
  go_enter Try.func8, Try.ntmps8
  go_wp2
  go_returns
  exact ⟨_, rfl, SK, Lib.hid (below_alloc _ _)⟩
set_option maxRecDepth 100000 in
set_option maxHeartbeats 2000000 in
theorem depth_any {w : World} {B g room : Nat} {fv wv : Value} {fr : List Fm} {ws : List Int} (t : Sk w B g room fv wv fr ws) :
    Calls Try.prog 17 #[.pointer (some ⟨g, 0, none⟩)] w fun e w' => e = .returned (.int .i64 fr.length) ∧ Below w.heap.size w w' := by
  have c1 := t.obj.c1
  obtain ⟨A, c, rfl⟩ := vform t.rf
  clear t
  go_enter Try.func17, Try.ntmps17
  go_wp2
  go_ret
  exact ⟨rfl, Below.refl _ _⟩
set_option maxRecDepth 100000 in
set_option maxHeartbeats 2000000 in
theorem free_any {w : World} {B g room : Nat} {fv wv : Value} {fr : List Fm} {ws : List Int} (t : Sk w B g room fv wv fr ws) :
    Calls Try.prog 38 #[.pointer (some ⟨g, 0, none⟩)] w fun e w' => e = .returned (.int .i64 ((room - ws.length - 2 * fr.length : Nat) : Int)) ∧ Below w.heap.size w w' := by
  have c0 := t.obj.c0; have c1 := t.obj.c1; have c2 := t.obj.c2
  have hf := t.fits; have hs := t.small
  obtain ⟨A, c, rfl⟩ := vform t.rf
  obtain ⟨A2, c2', rfl⟩ := vform t.rw_
  obtain ⟨n, hn⟩ : ∃ n, n = ws.length := ⟨_, rfl⟩
  obtain ⟨m, hm⟩ : ∃ m, m = fr.length := ⟨_, rfl⟩
  rw [← hn] at c2 hf ⊢; rw [← hm] at c1 hf ⊢
  obtain ⟨P, hP⟩ : ∃ P : Nat, (room : Int) - (n : Int) = P := ⟨room - n, by omega⟩
  obtain ⟨Q, hQ⟩ : ∃ Q : Nat, (2 : Int) * (m : Int) = Q := ⟨2 * m, by omega⟩
  obtain ⟨F, hF⟩ : ∃ F : Nat, (P : Int) - (Q : Int) = F := ⟨room - n - 2 * m, by omega⟩
  have e : room - n - 2 * m = F := by omega
  rw [e]
  have hP4 : P ≤ 4096 := by omega
  have hQ4 : Q ≤ 4096 := by omega
  have hF4 : F ≤ 4096 := by omega
  clear t hn hm e
  go_enter Try.func38, Try.ntmps38
  go_wp2
  go_quiet (fail)
  go_wp2
  go_ret
  exact ⟨rfl, below_drewN _ _⟩
end Go.Proofs.Ytkecnhogooaccaa
