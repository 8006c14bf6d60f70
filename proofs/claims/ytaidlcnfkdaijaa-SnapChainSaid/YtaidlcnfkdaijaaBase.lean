import Derived.Test.YtaidlcnfkdaijaaProg
import Derived.Test.YtaidlcnfkdaijaaRows
import Derived.WalkKit
import Derived.Handy
import Derived.Lib.Hide
import Derived.Laws.BitsAllLaws
import Derived.Laws.DeepNot64
import Derived.BigQuiet
import Derived.Deep.QuietTactic
import Derived.Below
import Derived.Laws.OwnMore
import Derived.Deep.Draws
import Derived.OwnWalk
import Derived.Maps.AppendAt
import Derived.WalkSpells
import Derived.Laws.BytesArg
namespace Go.Proofs.Ytaidlcnfkdaijaa
open Go.ChangeShapes Go.WideShapes Go.ChangeAt Go.RowKit
set_option linter.unusedVariables false
/-- what k bytes of a number say so far. -/
def accG (bs : List Nat) : Nat → Int
  | 0 => 0
  | k + 1 => bits .or .u64 (accG bs k) (IntKind.u64.wrap (IntKind.u64.wrap (bits .and .u8 (bs.getD k 0 : Nat) 127) * 2 ^ (7 * k)))
/-- the number that the bytes begin with and its length, from byte k on. -/
def resG (bs : List Nat) : Nat → Nat → Int × Int
  | 0, _ => (0, 0)
  | f + 1, k => if k < bs.length then
      if 9 < k ∨ (k = 9 ∧ 1 < bs.getD k 0) then (0, 0)
      else if bs.getD k 0 < 128 then (if bs.getD k 0 = 0 ∧ 0 < k then (0, 0) else (accG bs (k + 1), k + 1))
      else resG bs f (k + 1)
    else (0, 0)
set_option maxRecDepth 100000 in
theorem get_any {w : World} {h o cap : Nat} {bs : List Nat} (hb : ∀ j, j < bs.length → w.cell? ⟨h, o + j, none⟩ = some (.int .u8 (bs.getD j 0 : Nat))) (hl : bs.length ≤ 1000000) :
    Calls Try.prog 23 #[.slice (some ⟨h, o, none⟩) bs.length cap] w fun e w' => e = .returned (.tuple #[.int .u64 (resG bs (bs.length + 1) 0).1, .int .i64 (resG bs (bs.length + 1) 0).2]) ∧ w = w' := by
  have CX := Lib.hid hb; clear hb
  obtain ⟨r, hr⟩ : ∃ r, r = resG bs (bs.length + 1) 0 := ⟨_, rfl⟩
  rw [← hr]
  have HR := Lib.hid hr; clear hr
  go_enter Try.func23, Try.ntmps23
  go_wp2
  go_loop [2, 8] (fun b i => ∃ k : Nat, k ≤ bs.length ∧ i = .int .i64 k ∧ ∃ z, Hid (z = accG bs k) ∧ b = .int .u64 z ∧ Hid (r = resG bs (bs.length - k + 1) k)) (fun _ i => bs.length - (intOf i).toNat)
  case atStart => exact ⟨0, by omega, rfl, 0, Lib.hid rfl, rfl, HR⟩
  case round =>
    obtain ⟨k, hk, rfl, z, hz, rfl, hres⟩ := hrel
    by_cases hlt : k < bs.length
    · have cx := CX.out k hlt
      have hres' : Hid (r = if 9 < k ∨ (k = 9 ∧ 1 < bs.getD k 0) then (0, 0)
        else if bs.getD k 0 < 128 then (if bs.getD k 0 = 0 ∧ 0 < k then (0, 0) else (accG bs (k + 1), (k : Int) + 1))
        else resG bs (bs.length - k) (k + 1)) := Lib.hid (by rw [hres.out]; simp only [resG]; rw [if_pos hlt])
      have HA : Hid (accG bs (k + 1) = bits .or .u64 z (IntKind.u64.wrap (IntKind.u64.wrap (bits .and .u8 (bs.getD k 0 : Nat) 127) * 2 ^ (7 * k)))) := Lib.hid (by rw [hz.out]; rfl)
      obtain ⟨c, hc⟩ : ∃ c, c = bs.getD k 0 := ⟨_, rfl⟩
      rw [← hc] at cx hres' HA
      have HC := Lib.hid hc; clear hc
      by_cases h9 : 9 < k
      · have e9 : ((k : Int) == 9) = false := beq_eq_false_iff_ne.2 (by omega)
        have d9 : decide (9 < (k : Int)) = true := decide_eq_true (by omega)
        have E : Hid (r = (0, 0)) := Lib.hid (by rw [hres'.out, if_pos (Or.inl h9)])
        clear h9
        go_wp2
        go_returns
        rw [E.out]
        exact ⟨rfl, rfl⟩
      · have d9 : decide (9 < (k : Int)) = false := decide_eq_false (by omega)
        have hk9 : k ≤ 9 := by omega
        by_cases hbad : k = 9 ∧ 1 < c
        · have e9 : ((k : Int) == 9) = true := beq_iff_eq.2 (by omega)
          have d1 : decide (1 < (c : Int)) = true := decide_eq_true (by omega)
          have E : Hid (r = (0, 0)) := Lib.hid (by rw [hres'.out, if_pos (Or.inr hbad)])
          clear hbad h9
          go_wp2
          go_returns
          rw [E.out]
          exact ⟨rfl, rfl⟩
        have hr2 : Hid (r = if c < 128 then (if c = 0 ∧ 0 < k then (0, 0) else (accG bs (k + 1), (k : Int) + 1))
          else resG bs (bs.length - k) (k + 1)) := Lib.hid (by rw [hres'.out, if_neg (by omega)])
        obtain ⟨t, ht, htb⟩ : ∃ t, ((k : Int) == 9) = t ∧ (t = true → decide (1 < (c : Int)) = false) := ⟨_, rfl, fun e => decide_eq_false (by have := beq_iff_eq.1 e; omega)⟩
        have HB := Lib.hid hbad
        have H9 := Lib.hid h9
        clear hbad h9 hres'
        by_cases hc8 : c < 128
        · have d8 : decide ((c : Int) < 128) = true := decide_eq_true (by omega)
          by_cases hz0 : c = 0 ∧ 0 < k
          · have E : Hid (r = (0, 0)) := Lib.hid (by rw [hr2.out, if_pos hc8, if_pos hz0])
            have e0 : ((c : Int) == 0) = true := beq_iff_eq.2 (by omega)
            have k0 : decide (0 < (k : Int)) = true := decide_eq_true (by omega)
            have k1 : decide (0 < k) = true := decide_eq_true (by omega)
            have k2 : 0 < k := hz0.2
            clear hz0 hc8
            cases t with
            | true =>
              have d1 := htb rfl
              clear htb
              go_wp2
              go_returns
              rw [E.out]
              exact ⟨rfl, rfl⟩
            | false =>
              clear htb
              go_wp2
              go_returns
              rw [E.out]
              exact ⟨rfl, rfl⟩
          · have E : Hid (r = (accG bs (k + 1), (k : Int) + 1)) := Lib.hid (by rw [hr2.out, if_pos hc8, if_neg hz0])
            by_cases hc0 : c = 0
            · have e0 : ((c : Int) == 0) = true := beq_iff_eq.2 (by omega)
              have k0 : decide (0 < (k : Int)) = false := decide_eq_false (by omega)
              have k1 : decide (0 < k) = false := decide_eq_false (by omega)
              have kk : t = false := by rw [← ht]; exact beq_eq_false_iff_ne.2 (by omega)
              subst kk
              have k3 : k = 0 := by omega
              have K3 := Lib.hid k3
              clear hz0 hc8 hc0 htb k3
              go_wp2
              go_returns
              rw [E.out, HA.out]
              exact ⟨rfl, rfl⟩
            · have e0 : ((c : Int) == 0) = false := beq_eq_false_iff_ne.2 (by omega)
              clear hz0 hc8 hc0
              cases t with
              | true =>
                have d1 := htb rfl
                clear htb
                go_wp2
                go_returns
                rw [E.out, HA.out]
                exact ⟨rfl, rfl⟩
              | false =>
                clear htb
                go_wp2
                go_returns
                rw [E.out, HA.out]
                exact ⟨rfl, rfl⟩
        · have d8 : decide ((c : Int) < 128) = false := decide_eq_false (by omega)
          have E : Hid (r = resG bs (bs.length - (k + 1) + 1) (k + 1)) := Lib.hid (by rw [hr2.out, if_neg hc8, show bs.length - k = bs.length - (k + 1) + 1 by omega])
          have kk : t = false := by
            cases t with
            | false => rfl
            | true => have := of_decide_eq_false (htb rfl); omega
          subst kk
          clear hc8 htb
          go_wp2
          go_round
          case rel => exact ⟨k + 1, by omega, by go_num, _, Lib.hid HA.out.symm, rfl, E⟩
          case measure => simp [intOf]; omega
    · have E : Hid (r = (0, 0)) := Lib.hid (by rw [hres.out]; simp only [resG]; rw [if_neg hlt])
      obtain rfl : k = bs.length := by omega
      clear hlt
      go_wp2
      go_returns
      rw [E.out]
      exact ⟨rfl, rfl⟩
set_option maxRecDepth 100000 in
theorem groups_any {w : World} {h o cap : Nat} {bs : List Nat} (hb : ∀ j, j < bs.length → w.cell? ⟨h, o + j, none⟩ = some (.int .u8 (bs.getD j 0 : Nat))) (hl : bs.length ≤ 1000000) :
    Calls Try.prog 15 #[.slice (some ⟨h, o, none⟩) bs.length cap] w fun e w' => e = .returned (.tuple #[.int .u64 (resG bs (bs.length + 1) 0).1, .int .i64 (resG bs (bs.length + 1) 0).2]) ∧ w = w' := by
  have CX := Lib.hid hb; clear hb
  obtain ⟨r, hr⟩ : ∃ r, r = resG bs (bs.length + 1) 0 := ⟨_, rfl⟩
  rw [← hr]
  have HR := Lib.hid hr; clear hr
  go_enter Try.func15, Try.ntmps15
  go_wp2
  go_loop [4, 5] (fun b i => ∃ k : Nat, k ≤ bs.length ∧ i = .int .i64 k ∧ ∃ z, Hid (z = accG bs k) ∧ b = .int .u64 z ∧ Hid (r = resG bs (bs.length - k + 1) k)) (fun _ i => bs.length - (intOf i).toNat)
  case atStart => exact ⟨0, by omega, rfl, 0, Lib.hid rfl, rfl, HR⟩
  case round =>
    obtain ⟨k, hk, rfl, z, hz, rfl, hres⟩ := hrel
    by_cases hlt : k < bs.length
    · have cx := CX.out k hlt
      have hres' : Hid (r = if 9 < k ∨ (k = 9 ∧ 1 < bs.getD k 0) then (0, 0)
        else if bs.getD k 0 < 128 then (if bs.getD k 0 = 0 ∧ 0 < k then (0, 0) else (accG bs (k + 1), (k : Int) + 1))
        else resG bs (bs.length - k) (k + 1)) := Lib.hid (by rw [hres.out]; simp only [resG]; rw [if_pos hlt])
      have HA : Hid (accG bs (k + 1) = bits .or .u64 z (IntKind.u64.wrap (IntKind.u64.wrap (bits .and .u8 (bs.getD k 0 : Nat) 127) * 2 ^ (7 * k)))) := Lib.hid (by rw [hz.out]; rfl)
      obtain ⟨c, hc⟩ : ∃ c, c = bs.getD k 0 := ⟨_, rfl⟩
      rw [← hc] at cx hres' HA
      have HC := Lib.hid hc; clear hc
      by_cases h9 : 9 < k
      · have e9 : ((k : Int) == 9) = false := beq_eq_false_iff_ne.2 (by omega)
        have d9 : decide ((k : Int) < 10) = false := decide_eq_false (by omega)
        have d9n : decide (k < 10) = false := decide_eq_false (by omega)
        have d9i : (10 : Int) ≤ k := by omega
        have E : Hid (r = (0, 0)) := Lib.hid (by rw [hres'.out, if_pos (Or.inl h9)])
        clear h9
        go_wp2
        go_returns
        rw [E.out]
        exact ⟨rfl, rfl⟩
      · have d9 : decide ((k : Int) < 10) = true := decide_eq_true (by omega)
        have d9n : decide (k < 10) = true := decide_eq_true (by omega)
        have w7 : IntKind.u64.wrap (7 * (k : Int)) = 7 * k := by simp only [IntKind.wrap_u64]; omega
        have hk9 : k ≤ 9 := by omega
        by_cases hbad : k = 9 ∧ 1 < c
        · have e9 : ((k : Int) == 9) = true := beq_iff_eq.2 (by omega)
          have d1 : decide (1 < (c : Int)) = true := decide_eq_true (by omega)
          have E : Hid (r = (0, 0)) := Lib.hid (by rw [hres'.out, if_pos (Or.inr hbad)])
          clear hbad h9
          go_wp2
          go_returns
          rw [E.out]
          exact ⟨rfl, rfl⟩
        have hr2 : Hid (r = if c < 128 then (if c = 0 ∧ 0 < k then (0, 0) else (accG bs (k + 1), (k : Int) + 1))
          else resG bs (bs.length - k) (k + 1)) := Lib.hid (by rw [hres'.out, if_neg (by omega)])
        obtain ⟨t, ht, htb⟩ : ∃ t, ((k : Int) == 9) = t ∧ (t = true → decide (1 < (c : Int)) = false) := ⟨_, rfl, fun e => decide_eq_false (by have := beq_iff_eq.1 e; omega)⟩
        have HB := Lib.hid hbad
        have H9 := Lib.hid h9
        clear hbad h9 hres'
        by_cases hc8 : c < 128
        · have d8 : decide ((c : Int) < 128) = true := decide_eq_true (by omega)
          by_cases hz0 : c = 0 ∧ 0 < k
          · have E : Hid (r = (0, 0)) := Lib.hid (by rw [hr2.out, if_pos hc8, if_pos hz0])
            have e0 : ((c : Int) == 0) = true := beq_iff_eq.2 (by omega)
            have k0 : decide (0 < (k : Int)) = true := decide_eq_true (by omega)
            have k1 : decide (0 < k) = true := decide_eq_true (by omega)
            have k2 : 0 < k := hz0.2
            clear hz0 hc8
            cases t with
            | true =>
              have d1 := htb rfl
              clear htb
              go_wp2
              go_returns
              rw [E.out]
              exact ⟨rfl, rfl⟩
            | false =>
              clear htb
              go_wp2
              go_returns
              rw [E.out]
              exact ⟨rfl, rfl⟩
          · have E : Hid (r = (accG bs (k + 1), (k : Int) + 1)) := Lib.hid (by rw [hr2.out, if_pos hc8, if_neg hz0])
            by_cases hc0 : c = 0
            · have e0 : ((c : Int) == 0) = true := beq_iff_eq.2 (by omega)
              have k0 : decide (0 < (k : Int)) = false := decide_eq_false (by omega)
              have k1 : decide (0 < k) = false := decide_eq_false (by omega)
              have kk : t = false := by rw [← ht]; exact beq_eq_false_iff_ne.2 (by omega)
              subst kk
              have k3 : k = 0 := by omega
              have K3 := Lib.hid k3
              clear hz0 hc8 hc0 htb k3
              go_wp2
              go_returns
              rw [E.out, HA.out]
              exact ⟨rfl, rfl⟩
            · have e0 : ((c : Int) == 0) = false := beq_eq_false_iff_ne.2 (by omega)
              clear hz0 hc8 hc0
              cases t with
              | true =>
                have d1 := htb rfl
                clear htb
                go_wp2
                go_returns
                rw [E.out, HA.out]
                exact ⟨rfl, rfl⟩
              | false =>
                clear htb
                go_wp2
                go_returns
                rw [E.out, HA.out]
                exact ⟨rfl, rfl⟩
        · have d8 : decide ((c : Int) < 128) = false := decide_eq_false (by omega)
          have E : Hid (r = resG bs (bs.length - (k + 1) + 1) (k + 1)) := Lib.hid (by rw [hr2.out, if_neg hc8, show bs.length - k = bs.length - (k + 1) + 1 by omega])
          have kk : t = false := by
            cases t with
            | false => rfl
            | true => have := of_decide_eq_false (htb rfl); omega
          subst kk
          clear hc8 htb
          go_wp2
          go_round
          case rel => exact ⟨k + 1, by omega, by go_num, _, Lib.hid HA.out.symm, rfl, E⟩
          case measure => simp [intOf]; omega
    · have E : Hid (r = (0, 0)) := Lib.hid (by rw [hres.out]; simp only [resG]; rw [if_neg hlt])
      obtain rfl : k = bs.length := by omega
      clear hlt
      go_wp2
      go_returns
      rw [E.out]
      exact ⟨rfl, rfl⟩
theorem bits_u64_in (op : BinOp) (x y : Int) : 0 ≤ bits op .u64 x y ∧ bits op .u64 x y < 18446744073709551616 := by
  unfold bits
  simp only [IntKind.wrap_u64]
  omega
theorem accG_in (bs : List Nat) (k : Nat) : 0 ≤ accG bs k ∧ accG bs k < 18446744073709551616 := by
  cases k with
  | zero => exact ⟨Int.le_refl 0, by simp [accG]⟩
  | succ k => exact bits_u64_in _ _ _
theorem resG_in (bs : List Nat) (f k : Nat) : 0 ≤ (resG bs f k).1 ∧ (resG bs f k).1 < 18446744073709551616 := by
  induction f generalizing k with
  | zero => exact ⟨by simp [resG], by simp [resG]⟩
  | succ f ih =>
    simp only [resG]
    split
    · split
      · exact ⟨by simp, by simp⟩
      · split
        · split
          · exact ⟨by simp, by simp⟩
          · exact accG_in bs (k + 1)
        · exact ih (k + 1)
    · exact ⟨by simp, by simp⟩
theorem resG_len (bs : List Nat) (f k : Nat) : 0 ≤ (resG bs f k).2 ∧ (resG bs f k).2 ≤ bs.length := by
  induction f generalizing k with
  | zero => exact ⟨by simp [resG], by simp [resG]⟩
  | succ f ih =>
    simp only [resG]
    split
    · split
      · exact ⟨by simp, by simp⟩
      · split
        · split
          · exact ⟨by simp, by simp⟩
          · exact ⟨by simp only; omega, by simp only; omega⟩
        · exact ih (k + 1)
    · exact ⟨by simp, by simp⟩
theorem resG_zero (bs : List Nat) (f k : Nat) : (resG bs f k).2 = 0 → (resG bs f k).1 = 0 := by
  induction f generalizing k with
  | zero => intro _; simp [resG]
  | succ f ih =>
    simp only [resG]
    split
    · split
      · intro _; rfl
      · split
        · split
          · intro _; rfl
          · intro h; simp only at h; omega
        · exact ih (k + 1)
    · intro _; rfl
theorem groups_len {w : World} {h o cap n : Nat} {bs : List Nat} (hn : bs.length = n) (hb : ∀ j, j < bs.length → w.cell? ⟨h, o + j, none⟩ = some (.int .u8 (bs.getD j 0 : Nat))) (hl : bs.length ≤ 1000000) :
    Calls Try.prog 15 #[.slice (some ⟨h, o, none⟩) n cap] w fun e w' => e = .returned (.tuple #[.int .u64 (resG bs (bs.length + 1) 0).1, .int .i64 (resG bs (bs.length + 1) 0).2]) ∧ w = w' := by
  subst hn; exact groups_any hb hl
/-- the address of a slice's rest. -/
theorem rest_at (h o n cap k : Nat) (hk : k ≤ n) (hc : n ≤ cap) : ∃ o', (if cap = k then some (⟨h, o, none⟩ : Addr) else some (⟨h, o + k, none⟩ : Addr)) = some ⟨h, o', none⟩ ∧ (k < n → o' = o + k) := by
  by_cases e : cap = k
  · exact ⟨o, by rw [if_pos e], fun h => by omega⟩
  · exact ⟨o + k, by rw [if_neg e], fun _ => rfl⟩
theorem info5 : (Try.prog.info? 5).map (fun i => (i.zero, i.size, i.bytes)) = some (some (.int .u8 0), 1, 1) := by kernel_rfl
/-- the cells of bytes. -/
def bys (xs : List Nat) : List Value := xs.map fun n => .int .u8 (n : Nat)
theorem bys_one (xs : List Nat) : ∀ u ∈ bys xs, u.oneCell' = true := fun u hu => by simp [bys] at hu; obtain ⟨x, _, rfl⟩ := hu; rfl
theorem bys_len (xs : List Nat) : (bys xs).length = xs.length := by simp [bys]
theorem bys_app (xs ys : List Nat) : bys (xs ++ ys) = bys xs ++ bys ys := by simp [bys]
theorem below_drewN (w : World) (n : Nat) : Below w.heap.size w (w.drewN n) := ⟨rfl, rfl, rfl, Nat.le_refl _, fun _ _ => rfl⟩
theorem below_alloc (w : World) (o : Obj) : Below w.heap.size w (w.alloc o) := (Below.refl _ _).alloc (Nat.le_refl _) _
theorem bt {w a b : World} (h : Below w.heap.size w a) (k : Below a.heap.size a b) : Below w.heap.size w b := h.trans (k.mono h.size)
theorem new_cell (w : World) (v : Value) (t : TypeId) : (w.alloc (.cells #[v] t)).cell? ((⟨w.heap.size, 0, none⟩ : Addr).add 0) = some v := by
  have := (MapKept.heap_alloc w (Obj.cells #[v] t)).1
  show (w.alloc (.cells #[v] t)).cell? ⟨w.heap.size, 0, none⟩ = some v
  unfold World.cell?
  rw [this]; rfl
/-- what an append may turn: the row that it goes to; where its result lies. -/
structure Gr (w w' : World) (v v' : Value) : Prop where
  g : w.grownBy w' v.ownBlock
  at_ : v'.ownBlock = v.ownBlock ∨ ∀ k, v'.ownBlock = some k → w.heap.size ≤ k
theorem Gr.refl (w : World) (v : Value) : Gr w w v v := ⟨World.grownBy.refl w _, .inl rfl⟩
theorem Gr.trans {a b c : World} {x y z : Value} (h : Gr a b x y) (k : Gr b c y z) : Gr a c x z := by
  refine ⟨⟨k.g.os.trans h.g.os, k.g.tape.trans h.g.tape, k.g.output.trans h.g.output, Nat.le_trans h.g.size k.g.size, fun i hi hne => ?_⟩, ?_⟩
  · rw [k.g.block i (Nat.lt_of_lt_of_le hi h.g.size) ?_, h.g.block i hi hne]
    rcases h.at_ with e | e
    · rw [e]; exact hne
    · intro he; have := e i he.symm; omega
  · rcases k.at_ with e | e
    · rw [e]; exact h.at_
    · right; intro i hi; exact Nat.le_trans h.g.size (e i hi)
theorem Gr.append {w w' : World} {o : Obj} {v v' : Value} (g : (w.alloc o).grownBy w' v.ownBlock) (h : v'.ownBlock = v.ownBlock ∨ v'.ownBlock = some (w.heap.size + 1)) : Gr w w' v v' := by
  have b := below_alloc w o
  refine ⟨⟨g.os, g.tape, g.output, Nat.le_trans b.size g.size, fun i hi hne => ?_⟩, ?_⟩
  · rw [g.block i (Nat.lt_of_lt_of_le hi b.size) hne, b.block i hi]
  · rcases h with e | e
    · exact .inl e
    · right; intro k hk; rw [e] at hk; injection hk with hk; omega
theorem Gr.below {w w' : World} {v v' : Value} {base n size : Nat} {e : TypeId} {xs : List Value} (h : Gr w w' v v') (own : w.ownsRow base e size v n xs) (hb : base ≤ w.heap.size) : Below base w w' :=
  (Below.refl _ _).grown h.g hb (fun k hk => (own.lt k hk).1)
theorem Gr.cell {w w' : World} {v v' : Value} (h : Gr w w' v v') {p : Addr} (hp : p.block < w.heap.size) (hne : v.ownBlock ≠ some p.block) : w'.cell? p = w.cell? p := World.cell?_of_block (h.g.block p.block hp (fun e => hne e.symm))
/-- a slice of bytes that reads xs: nil, or some address. -/
def Src (w : World) (v : Value) (xs : List Nat) : Prop :=
  (v = .slice none 0 0 ∧ xs = []) ∨ ∃ a c, v = .slice (some a) xs.length c ∧ ∀ j u, (bys xs)[j]? = some u → w.cell? (a.add j) = some u
theorem Src.below {w w' : World} {v : Value} {xs : List Nat} (h : Src w v xs) (hb : Below w.heap.size w w') : Src w' v xs := by
  rcases h with h | ⟨a, c, h1, h2⟩
  · exact .inl h
  · refine .inr ⟨a, c, h1, fun j u hu => ?_⟩
    have := h2 j u hu
    rw [hb.cell (World.block_lt_of_cell? w _ this)]; exact this
theorem Src.of_own {w : World} {base n : Nat} {v : Value} {xs : List Nat} (own : w.ownsRow base 5 1 v n (bys xs)) : Src w v xs := by
  have hl := own.1
  rw [bys_len] at hl
  rcases own.2 with ⟨rfl, h⟩ | ⟨g, cap, cur, rfl, _, _, _, _, _, _⟩
  · left; exact ⟨rfl, List.eq_nil_of_length_eq_zero (by omega)⟩
  · right
    exact ⟨⟨g, 0, none⟩, cap, by rw [show xs.length = n by omega], own.cells (g := g) rfl⟩
theorem own_len {w : World} {base n : Nat} {v : Value} {xs : List Nat} (own : w.ownsRow base 5 1 v n (bys xs)) : n = xs.length := by have := own.1; rw [bys_len] at this; omega
theorem own_mono {w : World} {b b' : Nat} {e : TypeId} {size n : Nat} {v : Value} {xs : List Value} (h : w.ownsRow b' e size v n xs) (hb : b ≤ b') : w.ownsRow b e size v n xs := by
  refine ⟨h.1, ?_⟩
  rcases h.2 with h2 | ⟨g, cap, cur, e1, e2, e3⟩
  · exact .inl h2
  · exact .inr ⟨g, cap, cur, e1, Nat.le_trans hb e2, e3⟩
theorem own_below {w w' : World} {b : Nat} {e : TypeId} {size n : Nat} {v : Value} {xs : List Value} (h : w.ownsRow b e size v n xs) (hb : Below w.heap.size w w') : w'.ownsRow b e size v n xs :=
  h.kept (row := none) ⟨hb.os, hb.tape, hb.output, hb.size, fun i hi _ => hb.block i hi⟩ (by rcases v.ownBlock with _ | q; exact .inl rfl; exact .inr (by simp))
def strB (xs : List Nat) : ByteArray := strOfNums (xs.map fun (n : Nat) => (n : Int))
/-- an owned row of bytes, laid open: an address, or nothing in it. -/
theorem own_open {w : World} {base n : Nat} {v : Value} {xs : List Nat} (own : w.ownsRow base 5 1 v n (bys xs)) :
    (v = .slice none 0 0 ∧ xs = []) ∨ ∃ g cap, v = .slice (some ⟨g, 0, none⟩) xs.length cap ∧ base ≤ g ∧ g < w.heap.size ∧ xs.length ≤ cap ∧ ∀ j, j < xs.length → w.cell? ⟨g, 0 + j, none⟩ = some (.int .u8 (xs.getD j 0 : Nat)) := by
  have hl := own_len own
  rcases own.2 with ⟨e, h⟩ | ⟨g, cap, cur, rfl, hb, hg, hc, _, _, _⟩
  · exact .inl ⟨e, List.eq_nil_of_length_eq_zero (by omega)⟩
  · refine .inr ⟨g, cap, by rw [hl], hb, (own.lt g rfl).2, by omega, fun j hj => ?_⟩
    rw [Nat.zero_add, own.cellAt j (by omega)]
    simp [bys, hj]
theorem str_own {w : World} {base n : Nat} {v : Value} {xs : List Nat} (own : w.ownsRow base 5 1 v n (bys xs)) : (convert 22 9 v).run Try.prog w = .ok (.string (strB xs)) w := by
  rcases own_open own with ⟨rfl, rfl⟩ | ⟨g, cap, rfl, _, _, _, hc⟩
  · exact run_convert_bytes_nil w 22 5 Try.underlying22 Try.underlying5 0 0 9 Try.underlying9
  · exact run_convert_bytes_arg w 22 5 Try.underlying22 Try.underlying5 g 0 xs.length cap (xs.map fun (n : Nat) => (n : Int)) (by simp) (fun i hi => by rw [hc i hi]; simp [List.getD, hi]) 9 Try.underlying9
/-- what is summed so far. -/
def sumG (xs : List Nat) : Nat → Int
  | 0 => 14695981039346656037
  | k + 1 => IntKind.u64.wrap (bits .xor .u64 (sumG xs k) (IntKind.u64.wrap (xs.getD k 0 : Nat)) * 1099511628211)
end Go.Proofs.Ytaidlcnfkdaijaa
