import Derived.Test.YtaidlcnfkdaijaaCodes
namespace Go.Proofs.Ytaidlcnfkdaijaa
open Go.ChangeShapes Go.WideShapes Go.ChangeAt Go.RowKit
set_option linter.unusedVariables false
theorem str_zero (w : World) (A : Option Addr) (c : Nat) : (convert 22 9 (.slice A 0 c)).run Try.prog w = .ok (.string (strB [])) w := by
  cases A with
  | none => exact run_convert_bytes_nil w 22 5 Try.underlying22 Try.underlying5 0 c 9 Try.underlying9
  | some a =>
    have hl : (loadCells a 0).run Try.prog w = .ok (([] : List Int).map (Value.int .u8)).toArray w := by
      have := run_loadCells_list (P := Try.prog) w a (([] : List Int).map (Value.int .u8)) (fun j v hj => by simp at hj)
      simpa using this
    rw [run_convert_bytes_string w 22 9 5 _ 0 c Try.underlying22 Try.underlying5 Try.underlying9, run_bytesToString w _ 0 c [] hl, foldl_push_bytes]
    rfl
theorem str_sl {w : World} {A : Option Addr} {n c : Nat} {xs : List Nat} (s : Sl w A n c xs) : (convert 22 9 (.slice A n c)).run Try.prog w = .ok (.string (strB xs)) w := by
  obtain ⟨rfl, h1, h2⟩ := s
  rcases Nat.eq_zero_or_pos xs.length with h0 | h0
  · obtain rfl := List.eq_nil_of_length_eq_zero h0
    exact str_zero w A c
  · obtain ⟨g, o, rfl, _, hc⟩ := h2 h0
    exact run_convert_bytes_arg w 22 5 Try.underlying22 Try.underlying5 g o xs.length c (xs.map fun (n : Nat) => (n : Int)) (by simp) (fun i hi => by rw [hc i hi]; simp [List.getD, hi]) 9 Try.underlying9
set_option maxRecDepth 100000 in
set_option maxHeartbeats 4000000 in
theorem bequal_any {w : World} {A B : Option Addr} {n c m d : Nat} {xs ys : List Nat} (s : Sl w A n c xs) (t : Sl w B m d ys) :
    Calls Try.prog 16 #[.slice A n c, .slice B m d] w fun e w' => ∃ q : Bool, e = .returned (.bool q) ∧ (q = true ↔ strB xs = strB ys) ∧ Below w.heap.size w w' := by
  have IFF : Hid (((strB xs).toList == (strB ys).toList) = true ↔ strB xs = strB ys) := Lib.hid (by
    rw [beq_iff_eq, ByteArray.toList_eq, ByteArray.toList_eq]
    constructor
    · intro h
      have := Array.toList_inj.1 h
      exact congrArg ByteArray.mk this
    · intro h; rw [h])
  have e1 := str_sl s; have e2 := str_sl t
  clear s t
  go_enter Try.func16, Try.ntmps16
  go_wp2
  go_ret
  exact ⟨_, rfl, IFF.out, Below.refl _ _⟩
def DPost (w : World) (old new : List Nat) (e : Ending) (w' : World) : Prop := ∃ v xs l, e = .returned v ∧ w'.ownsRow w.heap.size 5 1 v xs.length (bys xs) ∧ PS old xs = some l ∧ l.flatten = new ∧ xs.length ≤ new.length + 8 ∧ (old = new → xs.length ≤ 16) ∧ Below w.heap.size w w'
def atOf (w : World) (g : Nat) : Nat := match w.cell? ⟨g, 2, none⟩ with
  | some (.int _ k) => k.toNat
  | _ => 0
theorem atOf_eq {w : World} {g : Nat} {ov nv bv : Value} {at_ done : Nat} {shift : Int} (r : WObj w g ov nv at_ done shift bv) : atOf w g = at_ := by
  unfold atOf; rw [r.c2]; simp
theorem Wr.start (w : World) (ov nv : Value) : Wr (w.alloc (.cells #[ov, nv, .int .i64 0, .int .i64 0, .int .i64 0, .slice none 0 0] 41)) w.heap.size w.heap.size ov nv 0 0 0 (.slice none 0 0) 0 [] := by
  refine ⟨?_, World.ownsRow_nil _ _ _ _, by simp [Value.ownBlock], Nat.le_refl _⟩
  unfold WObj
  show (w.heap.push _)[w.heap.size]? = _
  simp
theorem Wr.set2 {w : World} {B g : Nat} {ov nv v : Value} {at_ done n : Nat} {shift : Int} {xs : List Nat} (r : Wr w B g ov nv at_ done shift v n xs) (k : Nat) : Wr (w.setCell ⟨g, 2, none⟩ (.int .i64 k)) B g ov nv k done shift v n xs :=
  ⟨r.obj.set2 k, ownsRow_setCell_other r.own r.ne _, r.ne, r.le⟩
theorem Wr.set3 {w : World} {B g : Nat} {ov nv v : Value} {at_ done n : Nat} {shift : Int} {xs : List Nat} (r : Wr w B g ov nv at_ done shift v n xs) (k : Nat) : Wr (w.setCell ⟨g, 3, none⟩ (.int .i64 k)) B g ov nv at_ k shift v n xs :=
  ⟨r.obj.set3 k, ownsRow_setCell_other r.own r.ne _, r.ne, r.le⟩
theorem Wr.set4 {w : World} {B g : Nat} {ov nv v : Value} {at_ done n : Nat} {shift : Int} {xs : List Nat} (r : Wr w B g ov nv at_ done shift v n xs) (k : Int) : Wr (w.setCell ⟨g, 4, none⟩ (.int .i64 k)) B g ov nv at_ done k v n xs :=
  ⟨r.obj.set4 k, ownsRow_setCell_other r.own r.ne _, r.ne, r.le⟩
theorem Wr.below {w w' : World} {B g : Nat} {ov nv v : Value} {at_ done n : Nat} {shift : Int} {xs : List Nat} (r : Wr w B g ov nv at_ done shift v n xs) (hb : Below w.heap.size w w') : Wr w' B g ov nv at_ done shift v n xs :=
  ⟨r.obj.below hb, own_below r.own hb, r.ne, r.le⟩
end Go.Proofs.Ytaidlcnfkdaijaa
