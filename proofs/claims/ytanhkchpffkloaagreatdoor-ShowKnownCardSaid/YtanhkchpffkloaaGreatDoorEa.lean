import Derived.Calls
import Derived.LoopN
import Derived.OrdersHeld
import Derived.WalkKit
import Derived.RowKit
import Derived.Laws.Append
import Derived.Laws.OwnMore
import Derived.Laws.Rows
namespace Go.Proofs.YtanhkchpffkloaaGreatDoor
open Go
set_option linter.unusedVariables false
noncomputable section
abbrev ite' {α : Type} (b : Bool) (x y : α) : α := Bool.rec (motive := fun _ => α) y x b
theorem ite'_true {α : Type} (x y : α) : ite' true x y = x := rfl
theorem ite'_false {α : Type} (x y : α) : ite' false x y = y := rfl
/-- a table by numbers: a binary tree. -/
inductive Tr (α : Type) where
  | nil
  | node (v : Option α) (l r : Tr α)
def Tr.get {α : Type} (t : Tr α) : Nat → Option α :=
  Tr.rec (motive := fun _ => Nat → Option α) (fun _ => none)
    (fun v _ _ il ir n => Bool.rec (motive := fun _ => Option α) (Bool.rec (motive := fun _ => Option α) (ir (Nat.sub (Nat.div n 2) 1)) (il (Nat.div n 2)) (Nat.beq (Nat.mod n 2) 1)) v (Nat.beq n 0)) t
def Tr.putF {α : Type} (x : Option α) (fuel : Nat) : Tr α → Nat → Tr α :=
  Nat.rec (motive := fun _ => Tr α → Nat → Tr α) (fun t _ => t)
    (fun _ ih t => Tr.rec (motive := fun _ => Nat → Tr α)
      (fun n => Bool.rec (motive := fun _ => Tr α) (Bool.rec (motive := fun _ => Tr α) (.node none .nil (ih .nil (Nat.sub (Nat.div n 2) 1))) (.node none (ih .nil (Nat.div n 2)) .nil) (Nat.beq (Nat.mod n 2) 1)) (.node x .nil .nil) (Nat.beq n 0))
      (fun v l r _ _ n => Bool.rec (motive := fun _ => Tr α) (Bool.rec (motive := fun _ => Tr α) (.node v l (ih r (Nat.sub (Nat.div n 2) 1))) (.node v (ih l (Nat.div n 2)) r) (Nat.beq (Nat.mod n 2) 1)) (.node x l r) (Nat.beq n 0)) t) fuel
def Tr.put {α : Type} (t : Tr α) (n : Nat) (x : Option α) : Tr α := Tr.putF x (Nat.succ n) t n
theorem Tr.get_nil {α : Type} (n : Nat) : (Tr.nil : Tr α).get n = none := rfl
theorem Tr.get_node {α : Type} (v : Option α) (l r : Tr α) (n : Nat) : (Tr.node v l r).get n = if n = 0 then v else if n % 2 = 1 then l.get (n / 2) else r.get (n / 2 - 1) := by
  show Bool.rec (motive := fun _ => Option α) (Bool.rec (motive := fun _ => Option α) (r.get (Nat.sub (Nat.div n 2) 1)) (l.get (Nat.div n 2)) (Nat.beq (Nat.mod n 2) 1)) v (Nat.beq n 0) = _
  by_cases h : n = 0
  · subst h; rfl
  · rw [if_neg h, show Nat.beq n 0 = false from by cases n with | zero => exact absurd rfl h | succ k => rfl]
    by_cases h1 : n % 2 = 1
    · rw [if_pos h1, show Nat.beq (Nat.mod n 2) 1 = true from by show Nat.beq (n % 2) 1 = true; rw [h1]; rfl]; rfl
    · rw [if_neg h1, show Nat.beq (Nat.mod n 2) 1 = false from by show Nat.beq (n % 2) 1 = false; rw [show n % 2 = 0 from by omega]; rfl]; rfl
theorem Tr.putF_nil {α : Type} (x : Option α) (k n : Nat) : Tr.putF x (k + 1) .nil n = if n = 0 then .node x .nil .nil else if n % 2 = 1 then .node none (Tr.putF x k .nil (n / 2)) .nil else .node none .nil (Tr.putF x k .nil (n / 2 - 1)) := by
  show Bool.rec (motive := fun _ => Tr α) (Bool.rec (motive := fun _ => Tr α) (.node none .nil (Tr.putF x k .nil (Nat.sub (Nat.div n 2) 1))) (.node none (Tr.putF x k .nil (Nat.div n 2)) .nil) (Nat.beq (Nat.mod n 2) 1)) (.node x .nil .nil) (Nat.beq n 0) = _
  by_cases h : n = 0
  · subst h; rfl
  · rw [if_neg h, show Nat.beq n 0 = false from by cases n with | zero => exact absurd rfl h | succ k => rfl]
    by_cases h1 : n % 2 = 1
    · rw [if_pos h1, show Nat.beq (Nat.mod n 2) 1 = true from by show Nat.beq (n % 2) 1 = true; rw [h1]; rfl]; rfl
    · rw [if_neg h1, show Nat.beq (Nat.mod n 2) 1 = false from by show Nat.beq (n % 2) 1 = false; rw [show n % 2 = 0 from by omega]; rfl]; rfl
theorem Tr.putF_node {α : Type} (x : Option α) (k n : Nat) (v : Option α) (l r : Tr α) : Tr.putF x (k + 1) (.node v l r) n = if n = 0 then .node x l r else if n % 2 = 1 then .node v (Tr.putF x k l (n / 2)) r else .node v l (Tr.putF x k r (n / 2 - 1)) := by
  show Bool.rec (motive := fun _ => Tr α) (Bool.rec (motive := fun _ => Tr α) (.node v l (Tr.putF x k r (Nat.sub (Nat.div n 2) 1))) (.node v (Tr.putF x k l (Nat.div n 2)) r) (Nat.beq (Nat.mod n 2) 1)) (.node x l r) (Nat.beq n 0) = _
  by_cases h : n = 0
  · subst h; rfl
  · rw [if_neg h, show Nat.beq n 0 = false from by cases n with | zero => exact absurd rfl h | succ k => rfl]
    by_cases h1 : n % 2 = 1
    · rw [if_pos h1, show Nat.beq (Nat.mod n 2) 1 = true from by show Nat.beq (n % 2) 1 = true; rw [h1]; rfl]; rfl
    · rw [if_neg h1, show Nat.beq (Nat.mod n 2) 1 = false from by show Nat.beq (n % 2) 1 = false; rw [show n % 2 = 0 from by omega]; rfl]; rfl
theorem Tr.get_putF {α : Type} (x : Option α) : ∀ (k : Nat) (t : Tr α) (n m : Nat), n < k → (Tr.putF x k t n).get m = if m = n then x else t.get m
  | 0, _, _, _, h => absurd h (Nat.not_lt_zero _)
  | k + 1, .nil, n, m, h => by
    have hn : ∀ q, (Tr.nil : Tr α).get q = none := fun _ => rfl
    have ih := fun n m h => Tr.get_putF x k .nil n m h
    rw [Tr.putF_nil]
    by_cases h0 : n = 0
    · by_cases hm : m = 0
      · simp [h0, hm, Tr.get_node]
      · simp [h0, hm, Tr.get_node, hn]
    · by_cases h1 : n % 2 = 1
      · rw [if_neg h0, if_pos h1, Tr.get_node, hn]
        by_cases hm : m = 0
        · rw [if_pos hm, if_neg (show ¬ m = n by omega)]; rfl
        · rw [if_neg hm, hn]
          by_cases hm1 : m % 2 = 1
          · rw [if_pos hm1, ih (n / 2) (m / 2) (by omega), hn]
            by_cases e : m = n
            · rw [if_pos e, if_pos (by omega)]
            · rw [if_neg e, if_neg (by omega)]
          · rw [if_neg hm1, if_neg (show ¬ m = n by omega)]
      · rw [if_neg h0, if_neg h1, Tr.get_node, hn]
        by_cases hm : m = 0
        · rw [if_pos hm, if_neg (show ¬ m = n by omega)]; rfl
        · rw [if_neg hm, hn]
          by_cases hm1 : m % 2 = 1
          · rw [if_pos hm1, if_neg (show ¬ m = n by omega)]
          · rw [if_neg hm1, ih (n / 2 - 1) (m / 2 - 1) (by omega), hn]
            by_cases e : m = n
            · rw [if_pos e, if_pos (by omega)]
            · rw [if_neg e, if_neg (by omega)]
  | k + 1, .node v l r, n, m, h => by
    have ih := fun t n m h => Tr.get_putF x k t n m h
    rw [Tr.putF_node, Tr.get_node]
    by_cases h0 : n = 0
    · by_cases hm : m = 0
      · simp [h0, hm, Tr.get_node]
      · simp [h0, hm, Tr.get_node]
    · by_cases h1 : n % 2 = 1
      · rw [if_neg h0, if_pos h1, Tr.get_node]
        by_cases hm : m = 0
        · rw [if_pos hm, if_pos hm, if_neg (show ¬ m = n by omega)]
        · rw [if_neg hm, if_neg hm]
          by_cases hm1 : m % 2 = 1
          · rw [if_pos hm1, if_pos hm1, ih l (n / 2) (m / 2) (by omega)]
            by_cases e : m = n
            · rw [if_pos e, if_pos (by omega)]
            · rw [if_neg e, if_neg (by omega)]
          · rw [if_neg hm1, if_neg hm1, if_neg (show ¬ m = n by omega)]
      · rw [if_neg h0, if_neg h1, Tr.get_node]
        by_cases hm : m = 0
        · rw [if_pos hm, if_pos hm, if_neg (show ¬ m = n by omega)]
        · rw [if_neg hm, if_neg hm]
          by_cases hm1 : m % 2 = 1
          · rw [if_pos hm1, if_pos hm1, if_neg (show ¬ m = n by omega)]
          · rw [if_neg hm1, if_neg hm1, ih r (n / 2 - 1) (m / 2 - 1) (by omega)]
            by_cases e : m = n
            · rw [if_pos e, if_pos (by omega)]
            · rw [if_neg e, if_neg (by omega)]
theorem Tr.get_put {α : Type} (t : Tr α) (n m : Nat) (x : Option α) : (t.put n x).get m = if m = n then x else t.get m := Tr.get_putF x _ t n m (Nat.lt_succ_self n)
/-- a list laid into a table from place i on. -/
def Tr.lay {α : Type} (l : List α) : Nat → Tr α → Tr α := List.rec (motive := fun _ => Nat → Tr α → Tr α) (fun _ t => t) (fun x _ ih i t => ih (Nat.succ i) (t.put i (some x))) l
theorem Tr.get_lay {α : Type} : ∀ (l : List α) (i : Nat) (t : Tr α) (m : Nat), (Tr.lay l i t).get m = if i ≤ m ∧ m < i + l.length then l[m - i]? else t.get m
  | [], i, t, m => by
    show t.get m = _
    rw [if_neg (by simp)]
  | x :: l, i, t, m => by
    show (Tr.lay l (i + 1) (t.put i (some x))).get m = _
    rw [Tr.get_lay l (i + 1), Tr.get_put]
    by_cases h : i ≤ m ∧ m < i + (x :: l).length
    · rw [if_pos h]
      by_cases e : m = i
      · subst e
        rw [if_neg (by omega), if_pos rfl, Nat.sub_self]; rfl
      · rw [if_pos (by simp at h; omega), show m - i = (m - (i + 1)) + 1 from by omega]; rfl
    · rw [if_neg h, if_neg (by simp at h; omega), if_neg (by simp at h; omega)]
/-- a row of an answer that is known. -/
structure VRow where
  b : Nat
  l : List Value
  e : TypeId
  o : Bool
/-- an answer that is known: these blocks, from number lo on. -/
structure VO where
  args : List Value
  v : Value
  bs : List VRow
  lo : Nat
  hi : Nat
end
end Go.Proofs.YtanhkchpffkloaaGreatDoor
