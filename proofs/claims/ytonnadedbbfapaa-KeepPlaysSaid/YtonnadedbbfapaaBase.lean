import Derived.Test.YtonnadedbbfapaaRows
import Derived.WalkKit
import Derived.WalkLawsBesides
import Derived.Handy
import Derived.ProofKit
import Derived.OpenShut
import Derived.Lib.Hide
import Derived.BigQuiet
import Derived.Deep.QuietTactic
import Derived.Laws.OwnMore
namespace Go.Proofs.Ytonnadedbbfapaa
open Go.ChangeShapes Go.WideShapes Go.ChangeAt Go.RowKit
theorem info2 : (Try.prog.info? 2).map (fun i => (i.zero, i.size, i.bytes)) = some (some (.int .i64 0), 1, 8) := by kernel_rfl
def ints (xs : List Int) : List Value := xs.map (Value.int .i64)
/-- a keeper at block g, its list a row of its own, from block B on. -/
structure KAt (w : World) (B g : Nat) (every most : Int) (h cap : Nat) (xs : List Int) : Prop where
  obj : w.heap[g]? = some (.cells #[.int .i64 every, .int .i64 most, .slice (some ⟨h, 0, none⟩) xs.length cap] 42 (0, 0))
  own : w.ownsRow B 2 1 (.slice (some ⟨h, 0, none⟩) xs.length cap) xs.length (ints xs)
  ne : h ≠ g
  ge : B ≤ g
section
variable {w : World} {B g : Nat} {every most : Int} {h cap : Nat} {xs : List Int}
theorem KAt.c0 (k : KAt w B g every most h cap xs) : w.cell? ⟨g, 0, none⟩ = some (.int .i64 every) := by simp [World.cell?, k.obj]
theorem KAt.c1 (k : KAt w B g every most h cap xs) : w.cell? ⟨g, 1, none⟩ = some (.int .i64 most) := by simp [World.cell?, k.obj]
theorem KAt.c2 (k : KAt w B g every most h cap xs) : w.cell? ⟨g, 2, none⟩ = some (.slice (some ⟨h, 0, none⟩) xs.length cap) := by simp [World.cell?, k.obj]
theorem KAt.f (k : KAt w B g every most h cap xs) (i : Nat) : w.frozen? ⟨g, i, none⟩ = false := by simp [World.frozen?, k.obj]
theorem KAt.cx (k : KAt w B g every most h cap xs) (j : Nat) (hj : j < xs.length) : w.cell? ⟨h, j, none⟩ = some (.int .i64 (xs.getD j 0)) := by
  rw [k.own.cellAt j (by omega)]; simp [ints, hj]
theorem KAt.lt (k : KAt w B g every most h cap xs) : g < w.heap.size := by
  have := k.obj
  by_cases hh : g < w.heap.size
  · exact hh
  · rw [Array.getElem?_eq_none (by omega)] at this; cases this
theorem KAt.hlt (k : KAt w B g every most h cap xs) : B ≤ h ∧ h < w.heap.size := k.own.lt h rfl
theorem KAt.below {w' : World} (k : KAt w B g every most h cap xs) (hb : Below w.heap.size w w') : KAt w' B g every most h cap xs :=
  ⟨by rw [hb.block g k.lt]; exact k.obj, k.own.kept (row := none) ⟨hb.os, hb.tape, hb.output, hb.size, fun i hi _ => hb.block i hi⟩ (.inr (by simp [Value.ownBlock])), k.ne, k.ge⟩
theorem KAt.drew (k : KAt w B g every most h cap xs) : KAt w.drew B g every most h cap xs := ⟨k.obj, k.own.drew, k.ne, k.ge⟩
theorem KAt.drewN (k : KAt w B g every most h cap xs) (n : Nat) : KAt (w.drewN n) B g every most h cap xs := ⟨k.obj, k.own, k.ne, k.ge⟩
end
theorem new_good (every most : Int) (w : World) (h1 : 1 ≤ every) (h2 : every ≤ 1000000) (h3 : 2 ≤ most) (h4 : most ≤ 64) :
    Calls Try.prog 7 #[.int .i64 every, .int .i64 most] w fun e w' => e = .returned (.tuple #[.pointer (some ⟨w.heap.size + 1, 0, none⟩), .int .i64 0]) ∧ KAt w' w.heap.size (w.heap.size + 1) every most w.heap.size 1 [0] ∧ Below w.heap.size w w' := by
  go_enter Try.func7, Try.ntmps7
  go_wp2
  go_ret2
  refine ⟨rfl, ⟨?_, ?_, by omega, by omega⟩, ((Below.refl _ _).alloc (Nat.le_refl _) _).alloc (by simp) _⟩
  · have := (MapKept.heap_alloc (w.alloc (Obj.cells #[Value.int IntKind.i64 0] 2)) (Obj.cells #[.int .i64 every, .int .i64 most, .slice (some ⟨w.heap.size, 0, none⟩) 1 1] 42)).1
    simpa using this
  · exact (World.ownsRow_lit w #[Value.int IntKind.i64 0] 1 (Nat.le_refl _) (by unfold maxLen; omega) rfl).alloc _
theorem new_bad (every most : Int) (w : World) (h : every < 1 ∨ 1000000 < every ∨ most < 2 ∨ 64 < most) :
    Calls Try.prog 7 #[.int .i64 every, .int .i64 most] w fun e w' => e = .returned (.tuple #[.pointer none, .int .i64 1]) ∧ w = w' := by
  by_cases h1 : every < 1
  · clear h; go_enter Try.func7, Try.ntmps7
    go_wp2; go_ret2; exact ⟨rfl, rfl⟩
  by_cases h2 : 1000000 < every
  · clear h h1; go_enter Try.func7, Try.ntmps7
    go_wp2; all_goals (go_ret2; exact ⟨rfl, rfl⟩)
  have h1' : 1 ≤ every := by omega
  have h2' : every ≤ 1000000 := by omega
  clear h1 h2
  by_cases h3 : most < 2
  · clear h; go_enter Try.func7, Try.ntmps7
    go_wp2; all_goals (go_ret2; exact ⟨rfl, rfl⟩)
  have h4 : 64 < most := by omega
  have h3' : 2 ≤ most := by omega
  clear h3 h
  go_enter Try.func7, Try.ntmps7
  go_wp2; all_goals (go_ret2; exact ⟨rfl, rfl⟩)
def lastX (xs : List Int) : Int := xs.getD (xs.length - 1) 0
def wantsB (every c : Int) (xs : List Int) : Bool := decide (0 ≤ c) && (c % every == 0) && decide (lastX xs < c)
theorem wants_any (c : Int) {w : World} {B g : Nat} {every most : Int} {h cap : Nat} {xs : List Int} (k : KAt w B g every most h cap xs) (h1 : 1 ≤ every) (hx : 0 < xs.length) (hxl : xs.length ≤ 1000) (hc : -9223372036854775808 ≤ c) (hc2 : c ≤ 9223372036854775807) :
    Calls Try.prog 8 #[.pointer (some ⟨g, 0, none⟩), .int .i64 c] w fun e w' => e = .returned (.bool (wantsB every c xs)) ∧ ∃ n, w' = w.drewN n := by
  have c0 := k.c0
  have c2 := k.c2
  have cx := k.cx (xs.length - 1) (by omega)
  clear k
  unfold wantsB
  by_cases hc0 : 0 ≤ c
  · rw [show decide (0 ≤ c) = true from decide_eq_true hc0]
    cases hm : (c % every == 0)
    · have hd : decide (c ≥ 0) = true := decide_eq_true hc0
      clear hd
      go_enter Try.func8, Try.ntmps8
      go_wp2
      go_quiet (fail)
      go_wp2
      go_ret
      exact ⟨rfl, _, rfl⟩
    · unfold lastX
      obtain ⟨l, hl⟩ : ∃ l, l = xs.getD (xs.length - 1) 0 := ⟨_, rfl⟩
      rw [← hl] at cx ⊢
      have HL := Lib.hid hl; clear hl
      by_cases hlt : l < c
      · rw [show decide (l < c) = true from decide_eq_true hlt]
        go_enter Try.func8, Try.ntmps8
        go_wp2
        go_quiet (fail)
        go_wp2
        go_ret
        exact ⟨rfl, _, rfl⟩
      · rw [show decide (l < c) = false from decide_eq_false hlt]
        have hge : c ≤ l := by omega
        have hd : decide (l < c) = false := decide_eq_false hlt
        clear hlt
        go_enter Try.func8, Try.ntmps8
        go_wp2
        go_quiet (fail)
        go_wp2
        go_ret
        exact ⟨rfl, _, rfl⟩
  · rw [show decide (0 ≤ c) = false from decide_eq_false hc0]
    have hd : decide (0 ≤ c) = false := decide_eq_false hc0
    go_enter Try.func8, Try.ntmps8
    go_wp2
    go_quiet (fail)
    go_wp2
    go_ret
    exact ⟨rfl, _, rfl⟩
def beforeGo (c : Int) (xs : List Int) : Nat → Int
  | 0 => 0
  | k + 1 => if xs.getD k 0 ≤ c then xs.getD k 0 else beforeGo c xs k
theorem before_any (c : Int) {w : World} {B g : Nat} {every most : Int} {h cap : Nat} {xs : List Int} (k : KAt w B g every most h cap xs) (hxl : xs.length ≤ 1000) :
    Calls Try.prog 14 #[.pointer (some ⟨g, 0, none⟩), .int .i64 c] w fun e w' => e = .returned (.int .i64 (beforeGo c xs xs.length)) ∧ w = w' := by
  have c2 := k.c2
  have cx := fun j hj => k.cx j hj
  clear k
  have CX := Lib.hid cx; clear cx
  go_enter Try.func14, Try.ntmps14
  go_wp2
  go_loop [5, 13] (fun b i => ∃ k : Nat, k ≤ xs.length ∧ i = .int .i64 k ∧ ∃ z, Hid (z = beforeGo c xs k) ∧ b = .int .i64 z) (fun _ i => xs.length - (intOf i).toNat)
  case atStart => exact ⟨0, by omega, rfl, 0, Lib.hid rfl, rfl⟩
  case round =>
    obtain ⟨k, hk, rfl, z, hz, rfl⟩ := hrel
    by_cases hlt : k < xs.length
    · have cx := CX.out k hlt
      obtain ⟨x, hx⟩ : ∃ x, x = xs.getD k 0 := ⟨_, rfl⟩
      rw [← hx] at cx
      have HX := Lib.hid hx; clear hx
      by_cases hle : x ≤ c
      · have HN : Hid (x = beforeGo c xs (k + 1)) := Lib.hid (by simp only [beforeGo]; rw [← HX.out, if_pos hle])
        go_wp2
        go_round
        case rel => exact ⟨k + 1, by omega, by go_num, x, HN, rfl⟩
        case measure => simp [intOf]; omega
      · have HN : Hid (z = beforeGo c xs (k + 1)) := Lib.hid (by simp only [beforeGo]; rw [← HX.out, if_neg hle]; exact hz.out)
        have hgt : c < x := by omega
        clear hle
        go_wp2
        go_round
        case rel => exact ⟨k + 1, by omega, by go_num, z, HN, rfl⟩
        case measure => simp [intOf]; omega
    · obtain rfl : k = xs.length := by omega
      clear hlt
      go_wp2
      go_ret
      rw [← hz.out]
      exact ⟨rfl, rfl⟩
def gapGo (xs : List Int) : Nat → Int
  | 0 => 0
  | k + 1 => if gapGo xs k < wrap64 (xs.getD (k + 1) 0 - xs.getD k 0) then wrap64 (xs.getD (k + 1) 0 - xs.getD k 0) else gapGo xs k
theorem gap_any {w : World} {B g : Nat} {every most : Int} {h cap : Nat} {xs : List Int} (k : KAt w B g every most h cap xs) (hx0 : 0 < xs.length) (hxl : xs.length ≤ 1000) :
    Calls Try.prog 16 #[.pointer (some ⟨g, 0, none⟩)] w fun e w' => e = .returned (.int .i64 (gapGo xs (xs.length - 1))) ∧ ∃ n, w' = w.drewN n := by
  have c2 := k.c2
  have cx := fun j hj => k.cx j hj
  clear k
  have CX := Lib.hid cx; clear cx
  go_enter Try.func16, Try.ntmps16
  go_wp2
  go_loopw [3, 4] (fun b i w' => ∃ k nd : Nat, k + 1 ≤ xs.length ∧ i = .int .i64 ((k : Int) + 1) ∧ w' = w.drewN nd ∧ ∃ z, Hid (z = gapGo xs k) ∧ b = .int .i64 z) (fun _ i _ => xs.length - (intOf i).toNat)
  case atStart => exact ⟨0, 0, by omega, rfl, rfl, 0, Lib.hid rfl, rfl⟩
  case round =>
    obtain ⟨k, nd, hk, rfl, rfl, z, hz, rfl⟩ := hrel
    by_cases hlt : k + 1 < xs.length
    · have cx := CX.out k (by omega)
      have cy := CX.out (k + 1) hlt
      obtain ⟨x, hx⟩ : ∃ x, x = xs.getD k 0 := ⟨_, rfl⟩
      obtain ⟨y, hy⟩ : ∃ y, y = xs.getD (k + 1) 0 := ⟨_, rfl⟩
      rw [← hx] at cx
      rw [← hy] at cy
      have HX := Lib.hid hx; clear hx
      have HY := Lib.hid hy; clear hy
      go_wp2
      go_quiet (fail)
      go_wp2
      go_roundw
      case rel => exact ⟨k + 1, nd + nq, by omega, by go_num, rfl, _, Lib.hid (by simp only [gapGo]; rw [← HX.out, ← HY.out, ← hz.out]), rfl⟩
      case measure => simp [intOf]; omega
    · have hke : k = xs.length - 1 := by omega
      have HK := Lib.hid hke; clear hke
      have hge : xs.length ≤ k + 1 := by omega
      clear hlt
      go_wp2
      go_ret
      rw [← HK.out, ← hz.out]
      exact ⟨rfl, _, rfl⟩
end Go.Proofs.Ytonnadedbbfapaa
