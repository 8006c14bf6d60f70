import Derived.Test.YtgfaadfkeeehgaaOperand
import Derived.Test.YtgfaadfkeeehgaaGroups
import Derived.Test.YtgfaadfkeeehgaaShelf
import Derived.Below
import Derived.Laws.OwnMore
import Derived.Deep.Draws
import Derived.OwnWalk
import Derived.Maps.AppendAt
import Derived.Outline
namespace Go.Proofs.Ytgfaadfkeeehgaa
open Go.ChangeShapes Go.WideShapes Go.ChangeAt Go.RowKit
set_option linter.unusedVariables false
theorem info5 : (Try.prog.info? 5).map (fun i => (i.zero, i.size, i.bytes)) = some (some (.int .u8 0), 1, 1) := by kernel_rfl
/-- the cells of bytes. -/
def bys (xs : List Nat) : List Value := xs.map fun n => .int .u8 (n : Nat)
theorem bys_one (xs : List Nat) : ∀ u ∈ bys xs, u.oneCell' = true := fun u hu => by simp [bys] at hu; obtain ⟨x, _, rfl⟩ := hu; rfl
theorem bys_len (xs : List Nat) : (bys xs).length = xs.length := by simp [bys]
theorem bys_app (xs ys : List Nat) : bys (xs ++ ys) = bys xs ++ bys ys := by simp [bys]
theorem below_drewN (w : World) (n : Nat) : Below w.heap.size w (w.drewN n) := ⟨rfl, rfl, rfl, Nat.le_refl _, fun _ _ => rfl⟩
theorem below_alloc (w : World) (o : Obj) : Below w.heap.size w (w.alloc o) := (Below.refl _ _).alloc (Nat.le_refl _) _
theorem bt {w a b : World} (h : Below w.heap.size w a) (k : Below a.heap.size a b) : Below w.heap.size w b := h.trans (k.mono h.size)
theorem new_cell (w : World) (v : Value) (t : TypeId) : (w.alloc (.cells #[v] t)).cell? ((⟨w.heap.size, 0, none⟩ : Addr).add 0) = some v := by
  have := (MapKept.heap_alloc w (Obj.cells #[v] t)).1
  show (w.alloc (.cells #[v] t)).cell? ⟨w.heap.size, 0, none⟩ = some v
  unfold World.cell?
  rw [this]; rfl
/-- what an append may turn: the row that it goes to; where its result lies. -/
structure Gr (w w' : World) (v v' : Value) : Prop where
  g : w.grownBy w' v.ownBlock
  at_ : v'.ownBlock = v.ownBlock ∨ ∀ k, v'.ownBlock = some k → w.heap.size ≤ k
theorem Gr.refl (w : World) (v : Value) : Gr w w v v := ⟨World.grownBy.refl w _, .inl rfl⟩
theorem Gr.trans {a b c : World} {x y z : Value} (h : Gr a b x y) (k : Gr b c y z) : Gr a c x z := by
  refine ⟨⟨k.g.os.trans h.g.os, k.g.tape.trans h.g.tape, k.g.output.trans h.g.output, Nat.le_trans h.g.size k.g.size, fun i hi hne => ?_⟩, ?_⟩
  · rw [k.g.block i (Nat.lt_of_lt_of_le hi h.g.size) ?_, h.g.block i hi hne]
    rcases h.at_ with e | e
    · rw [e]; exact hne
    · intro he; have := e i he.symm; omega
  · rcases k.at_ with e | e
    · rw [e]; exact h.at_
    · right; intro i hi; exact Nat.le_trans h.g.size (e i hi)
theorem Gr.append {w w' : World} {o : Obj} {v v' : Value} (g : (w.alloc o).grownBy w' v.ownBlock) (h : v'.ownBlock = v.ownBlock ∨ v'.ownBlock = some (w.heap.size + 1)) : Gr w w' v v' := by
  have b := below_alloc w o
  refine ⟨⟨g.os, g.tape, g.output, Nat.le_trans b.size g.size, fun i hi hne => ?_⟩, ?_⟩
  · rw [g.block i (Nat.lt_of_lt_of_le hi b.size) hne, b.block i hi]
  · rcases h with e | e
    · exact .inl e
    · right; intro k hk; rw [e] at hk; injection hk with hk; omega
theorem Gr.below {w w' : World} {v v' : Value} {base n size : Nat} {e : TypeId} {xs : List Value} (h : Gr w w' v v') (own : w.ownsRow base e size v n xs) (hb : base ≤ w.heap.size) : Below base w w' :=
  (Below.refl _ _).grown h.g hb (fun k hk => (own.lt k hk).1)
theorem Gr.cell {w w' : World} {v v' : Value} (h : Gr w w' v v') {p : Addr} (hp : p.block < w.heap.size) (hne : v.ownBlock ≠ some p.block) : w'.cell? p = w.cell? p := World.cell?_of_block (h.g.block p.block hp (fun e => hne e.symm))
/-- the groups of a number. -/
def putF : Nat → Nat → List Nat
  | 0, u => [u]
  | f + 1, u => if u < 128 then [u] else (u % 128 + 128) :: putF f (u / 128)
theorem putF_small (f u : Nat) (h : u < 128) : putF f u = [u] := by cases f <;> simp [putF, h]
theorem or_128 (n : Nat) : bits .or .u8 ((n : Int) % 256) 128 = (n : Int) % 128 + 128 := by
  have all : ∀ k : Fin 256, bits .or .u8 ((k.val : Nat) : Int) 128 = ((k.val % 128 + 128 : Nat) : Int) := by decide +kernel
  have := all ⟨n % 256, by omega⟩
  rw [show (n : Int) % 256 = ((n % 256 : Nat) : Int) from by omega, this]
  simp only
  omega
theorem bys_sing (n : Nat) : bys [n] = [.int .u8 (n : Int)] := rfl
set_option maxRecDepth 100000 in
set_option maxHeartbeats 1000000 in
theorem put_any {w : World} {base : Nat} {v : Value} {n : Nat} {xs : List Nat} (u : Nat) (own : w.ownsRow base 5 1 v n (bys xs)) (hbase : base ≤ w.heap.size) (hu : u < 18446744073709551616) (hn : n ≤ 1000000) :
    Calls Try.prog 24 #[v, .int .u64 u] w fun e w' => ∃ v' n', e = .returned v' ∧ w'.ownsRow base 5 1 v' n' (bys (xs ++ putF 9 u)) ∧ Gr w w' v v' ∧ n' ≤ n + 10 := by
  obtain ⟨i0, hi0, hz0, hz1, hz2⟩ := info_parts info5
  have OWN := Lib.hid own; clear own
  have HU := Lib.hid hu; clear hu
  obtain ⟨zs, hzs⟩ : ∃ zs, zs = xs ++ putF 9 u := ⟨_, rfl⟩
  rw [← hzs]
  have HZS := Lib.hid hzs; clear hzs
  go_enter Try.func24, Try.ntmps24
  go_wp2
  go_loopw [0, 1] (fun b x wr => ∃ (f m k : Nat) (ys : List Nat), x = .int .u64 m ∧ m < 2 ^ (7 * f + 1) ∧ Hid (m < 18446744073709551616) ∧ Hid (wr.ownsRow base 5 1 b k (bys ys)) ∧ Hid (Gr w wr v b) ∧ Hid (zs = ys ++ putF f m) ∧ k + f ≤ n + 9) (fun _ x _ => (intOf x).toNat)
  case atStart => exact ⟨9, u, n, xs, rfl, by have := HU.out; omega, HU, OWN, Lib.hid (Gr.refl _ _), HZS, by omega⟩
  case round =>
    obtain ⟨f, m, k, ys, rfl, hm, hm2, own, hb, he, hk⟩ := hrel
    have hsz := hb.out.g.size
    by_cases h128 : 128 ≤ m
    · obtain ⟨f, rfl⟩ : ∃ g, f = g + 1 := by
        cases f with
        | zero => simp at hm; omega
        | succ g => exact ⟨g, rfl⟩
      have hm3 : m / 128 < 2 ^ (7 * f + 1) := by
        rw [show 7 * (f + 1) + 1 = 7 * f + 1 + 7 from by omega, Nat.pow_add] at hm
        omega
      have E : Hid (zs = (ys ++ [m % 128 + 128]) ++ putF f (m / 128)) := Lib.hid (by rw [he.out]; simp only [putF]; rw [if_neg (by omega)]; simp)
      have ho := or_128 m
      have HM3 := Lib.hid hm3
      clear hm hm3
      go_wp2_with (at_builtin; refine wpList_append_own_at _ rfl (.tmp 7) (.tmp 11) 28 rfl base 5 i0 (.int .u8 0) 1 1 Try.underlying28 hi0 hz0 hz1 hz2 rfl (by decide) _ k (bys ys) rfl (own.out.alloc _) ⟨wr.heap.size, 0, none⟩ 1 1 [.int .u8 ((m : Int) % 128 + 128)] rfl rfl ?c1 ?c2 (by unfold maxLen; omega) (by omega) (by simp; omega) ?_)
      case c1 =>
        intro j u hj
        match j, hj with
        | 0, hj => simp at hj; subst hj; exact new_cell wr _ 5
      case c2 => intro u hu; simp at hu; subst hu; rfl
      intro v2 w2 own2 gr2 _ at2
      have hb2 : Gr w w2 v v2 := hb.out.trans (Gr.append gr2 at2)
      have OWN2 : Hid (w2.ownsRow base 5 1 v2 (k + 1) (bys (ys ++ [m % 128 + 128]))) := Lib.hid (by rw [bys_app, bys_sing, show (((m % 128 + 128 : Nat)) : Int) = (m : Int) % 128 + 128 by omega]; exact own2)
      have HB2 := Lib.hid hb2
      clear own2 gr2 hb2 ho at2
      go_wp2
      go_roundw
      case rel => exact ⟨f, m / 128, k + 1, _, by go_num, HM3.out, Lib.hid (by have := hm2.out; omega), OWN2, HB2, E, by omega⟩
      case measure => simp [intOf]; omega
    · have E : Hid (zs = ys ++ [m]) := Lib.hid (by rw [he.out, putF_small f m (by omega)])
      have hlt : m < 128 := by omega
      have hm256 : (m : Int) % 256 = m := by omega
      have HLT := Lib.hid hlt
      clear hm h128
      go_wp2_with (at_builtin; refine wpList_append_own_at _ rfl (.tmp 15) (.tmp 18) 28 rfl base 5 i0 (.int .u8 0) 1 1 Try.underlying28 hi0 hz0 hz1 hz2 rfl (by decide) _ k (bys ys) rfl (own.out.alloc _) ⟨wr.heap.size, 0, none⟩ 1 1 [.int .u8 (m : Int)] rfl rfl ?c1 ?c2 (by unfold maxLen; omega) (by omega) (by simp; omega) ?_)
      case c1 =>
        intro j u hj
        match j, hj with
        | 0, hj => simp at hj; subst hj; exact new_cell wr _ 5
      case c2 => intro u hu; simp at hu; subst hu; rfl
      intro v2 w2 own2 gr2 _ at2
      have hb2 : Gr w w2 v v2 := hb.out.trans (Gr.append gr2 at2)
      have OWN2 : Hid (w2.ownsRow base 5 1 v2 (k + 1) (bys zs)) := Lib.hid (by rw [E.out, bys_app, bys_sing]; exact own2)
      have HB2 := Lib.hid hb2
      clear own2 gr2 hb2 at2
      go_wp2
      go_ret
      exact ⟨_, _, rfl, OWN2.out, HB2.out, by omega⟩
set_option maxRecDepth 100000 in
set_option maxHeartbeats 1000000 in
theorem group_any {w : World} {base : Nat} {v : Value} {n : Nat} {xs : List Nat} (u : Nat) (own : w.ownsRow base 5 1 v n (bys xs)) (hbase : base ≤ w.heap.size) (hu : u < 18446744073709551616) (hn : n ≤ 1000000) :
    Calls Try.prog 19 #[v, .int .u64 u] w fun e w' => ∃ v' n', e = .returned v' ∧ w'.ownsRow base 5 1 v' n' (bys (xs ++ putF 9 u)) ∧ Gr w w' v v' ∧ n' ≤ n + 10 := by
  obtain ⟨i0, hi0, hz0, hz1, hz2⟩ := info_parts info5
  have OWN := Lib.hid own; clear own
  have HU := Lib.hid hu; clear hu
  obtain ⟨zs, hzs⟩ : ∃ zs, zs = xs ++ putF 9 u := ⟨_, rfl⟩
  rw [← hzs]
  have HZS := Lib.hid hzs; clear hzs
  go_enter Try.func19, Try.ntmps19
  go_wp2
  go_loopw [0, 1] (fun b x wr => ∃ (f m k : Nat) (ys : List Nat), x = .int .u64 m ∧ m < 2 ^ (7 * f + 1) ∧ Hid (m < 18446744073709551616) ∧ Hid (wr.ownsRow base 5 1 b k (bys ys)) ∧ Hid (Gr w wr v b) ∧ Hid (zs = ys ++ putF f m) ∧ k + f ≤ n + 9) (fun _ x _ => (intOf x).toNat)
  case atStart => exact ⟨9, u, n, xs, rfl, by have := HU.out; omega, HU, OWN, Lib.hid (Gr.refl _ _), HZS, by omega⟩
  case round =>
    obtain ⟨f, m, k, ys, rfl, hm, hm2, own, hb, he, hk⟩ := hrel
    have hsz := hb.out.g.size
    by_cases h128 : 128 ≤ m
    · obtain ⟨f, rfl⟩ : ∃ g, f = g + 1 := by
        cases f with
        | zero => simp at hm; omega
        | succ g => exact ⟨g, rfl⟩
      have hm3 : m / 128 < 2 ^ (7 * f + 1) := by
        rw [show 7 * (f + 1) + 1 = 7 * f + 1 + 7 from by omega, Nat.pow_add] at hm
        omega
      have E : Hid (zs = (ys ++ [m % 128 + 128]) ++ putF f (m / 128)) := Lib.hid (by rw [he.out]; simp only [putF]; rw [if_neg (by omega)]; simp)
      have hw7 : IntKind.u64.wrap ((m : Int) / 128) = (m : Int) / 128 := by have := hm2.out; simp only [IntKind.wrap_u64]; omega
      have hq : (m : Int).tdiv 128 = (m : Int) / 128 := Int.tdiv_eq_ediv_of_nonneg (by omega)
      have ho : IntKind.u8.wrap ((m : Int) % 128 + 128) = (m : Int) % 128 + 128 := by simp only [IntKind.wrap_u8]; omega
      have HM3 := Lib.hid hm3
      clear hm hm3
      go_wp2_with (at_builtin; refine wpList_append_own_at _ rfl (.tmp 7) (.tmp 12) 28 rfl base 5 i0 (.int .u8 0) 1 1 Try.underlying28 hi0 hz0 hz1 hz2 rfl (by decide) _ k (bys ys) rfl (own.out.alloc _) ⟨wr.heap.size, 0, none⟩ 1 1 [.int .u8 ((m : Int) % 128 + 128)] rfl rfl ?c1 ?c2 (by unfold maxLen; omega) (by omega) (by simp; omega) ?_)
      case c1 =>
        intro j u hj
        match j, hj with
        | 0, hj => simp at hj; subst hj; exact new_cell wr _ 5
      case c2 => intro u hu; simp at hu; subst hu; rfl
      intro v2 w2 own2 gr2 _ at2
      have hb2 : Gr w w2 v v2 := hb.out.trans (Gr.append gr2 at2)
      have OWN2 : Hid (w2.ownsRow base 5 1 v2 (k + 1) (bys (ys ++ [m % 128 + 128]))) := Lib.hid (by rw [bys_app, bys_sing, show (((m % 128 + 128 : Nat)) : Int) = (m : Int) % 128 + 128 by omega]; exact own2)
      have HB2 := Lib.hid hb2
      clear own2 gr2 hb2 ho at2
      go_wp2
      go_roundw
      case rel => exact ⟨f, m / 128, k + 1, _, by go_num, HM3.out, Lib.hid (by have := hm2.out; omega), OWN2, HB2, E, by omega⟩
      case measure => simp [intOf]; omega
    · have E : Hid (zs = ys ++ [m]) := Lib.hid (by rw [he.out, putF_small f m (by omega)])
      have hlt : m < 128 := by omega
      have hm256 : (m : Int) % 256 = m := by omega
      have HLT := Lib.hid hlt
      clear hm h128
      go_wp2_with (at_builtin; refine wpList_append_own_at _ rfl (.tmp 16) (.tmp 19) 28 rfl base 5 i0 (.int .u8 0) 1 1 Try.underlying28 hi0 hz0 hz1 hz2 rfl (by decide) _ k (bys ys) rfl (own.out.alloc _) ⟨wr.heap.size, 0, none⟩ 1 1 [.int .u8 (m : Int)] rfl rfl ?c1 ?c2 (by unfold maxLen; omega) (by omega) (by simp; omega) ?_)
      case c1 =>
        intro j u hj
        match j, hj with
        | 0, hj => simp at hj; subst hj; exact new_cell wr _ 5
      case c2 => intro u hu; simp at hu; subst hu; rfl
      intro v2 w2 own2 gr2 _ at2
      have hb2 : Gr w w2 v v2 := hb.out.trans (Gr.append gr2 at2)
      have OWN2 : Hid (w2.ownsRow base 5 1 v2 (k + 1) (bys zs)) := Lib.hid (by rw [E.out, bys_app, bys_sing]; exact own2)
      have HB2 := Lib.hid hb2
      clear own2 gr2 hb2 at2
      go_wp2
      go_ret
      exact ⟨_, _, rfl, OWN2.out, HB2.out, by omega⟩
end Go.Proofs.Ytgfaadfkeeehgaa
