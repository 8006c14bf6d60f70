import Derived.Test.YtaidlcnfkdaijaaRun
import Derived.OneCell
import Derived.Lib.SmallJoins
namespace Go.Proofs.Ytaidlcnfkdaijaa
open Go.ChangeShapes Go.WideShapes Go.ChangeAt Go.RowKit
set_option linter.unusedVariables false
/-- the writer, and what it has written. -/
structure Wr (w : World) (B g : Nat) (ov nv : Value) (at_ done : Nat) (shift : Int) (v : Value) (n : Nat) (xs : List Nat) : Prop where
  obj : WObj w g ov nv at_ done shift v
  own : w.ownsRow B 5 1 v n (bys xs)
  ne : v.ownBlock ≠ some g
  le : B ≤ g
theorem Wr.obj' {w w' : World} {B g : Nat} {ov nv v v' : Value} {at_ done n : Nat} {shift : Int} {xs : List Nat} (r : Wr w B g ov nv at_ done shift v n xs) (gr : Gr w w' v v') : WObj w' g ov nv at_ done shift v :=
  r.obj.of_heap (gr.g.block g r.obj.lt (fun e => r.ne e.symm))
theorem Wr.step {w w' : World} {B g : Nat} {ov nv v v' : Value} {at_ done n n' : Nat} {shift : Int} {xs ys : List Nat} (r : Wr w B g ov nv at_ done shift v n xs) (own' : w'.ownsRow B 5 1 v' n' (bys ys)) (gr : Gr w w' v v') :
    Wr (w'.setCell ⟨g, 5, none⟩ v') B g ov nv at_ done shift v' n' ys ∧ Below B w (w'.setCell ⟨g, 5, none⟩ v') := by
  have hlt := r.obj.lt
  have hne : v'.ownBlock ≠ some g := by
    rcases gr.at_ with e | e
    · rw [e]; exact r.ne
    · intro q; have := e g q; omega
  have hb := gr.below r.own (Nat.le_of_lt (Nat.lt_of_le_of_lt r.le hlt))
  exact ⟨⟨(r.obj' gr).set5 v', ownsRow_setCell_other own' hne _, hne, r.le⟩, hb.setCell r.le _⟩
theorem Gr.apart {w w' : World} {v v' : Value} {g hL : Nat} (gr : Gr w w' v v') (h1 : hL ≠ g) (h2 : v.ownBlock ≠ some hL) (h3 : hL < w.heap.size) :
    v'.ownBlock ≠ some hL ∧ hL < (w'.setCell ⟨g, 5, none⟩ v').heap.size ∧ ∀ j, (w'.setCell ⟨g, 5, none⟩ v').cell? ⟨hL, j, none⟩ = w.cell? ⟨hL, j, none⟩ := by
  refine ⟨?_, ?_, fun j => ?_⟩
  · rcases gr.at_ with e | e
    · rw [e]; exact h2
    · intro q; have := e hL q; omega
  · have := gr.g.size; simp [World.setCell]; omega
  · rw [World.cell?_setCell_other _ _ _ _ (by intro e; injection e with e; exact h1 e.symm)]
    exact gr.cell h3 h2
def encs (ls : List Nat) : List Nat := ls.flatMap (putF 9)
theorem encs_snoc (ls : List Nat) (x : Nat) : encs (ls ++ [x]) = encs ls ++ putF 9 x := by simp [encs]
set_option maxRecDepth 100000 in
set_option maxHeartbeats 4000000 in
theorem head_any {w : World} {B g hL : Nat} {ov nv v : Value} {at_ done n kind : Nat} {shift : Int} {xs ls : List Nat} {capL : Nat} (r : Wr w B g ov nv at_ done shift v n xs) (hk : kind < 256)
    (hL1 : hL ≠ g) (hL2 : v.ownBlock ≠ some hL) (hL3 : hL < w.heap.size) (hcL : ∀ j, j < ls.length → w.cell? ⟨hL, 0 + j, none⟩ = some (.int .i64 (ls.getD j 0 : Nat))) (hls : ls.length ≤ 10) (hlb : ∀ j, ls.getD j 0 < 1000000) (hn : n ≤ 90000) :
    Calls Try.prog 17 #[.pointer (some ⟨g, 0, none⟩), .int .u8 kind, .slice (some ⟨hL, 0, none⟩) ls.length capL] w fun e w' => ∃ v' n', e = .returned (.tuple #[]) ∧ Wr w' B g ov nv at_ done shift v' n' (xs ++ kind :: encs ls) ∧ Below B w w' := by
  obtain ⟨i0, hi0, hz0, hz1, hz2⟩ := info_parts info5
  have c5 := r.obj.c5
  have OWN := Lib.hid r.own
  have R := Lib.hid r
  have HC := Lib.hid hcL; have HLB := Lib.hid hlb; have HK := Lib.hid hk
  have HB : Hid (B ≤ w.heap.size) := Lib.hid (Nat.le_of_lt (Nat.lt_of_le_of_lt r.le r.obj.lt))
  have hB := HB.out
  have HNE := Lib.hid (And.intro hL1 hL2)
  clear r hcL hlb hk hL2
  go_enter Try.func17, Try.ntmps17
  go_wp2_with (at_builtin; refine wpList_append_own_at _ rfl (.tmp 12) (.tmp 14) 22 rfl B 5 i0 (.int .u8 0) 1 1 Try.underlying22 hi0 hz0 hz1 hz2 rfl (by decide) _ n (bys xs) rfl (OWN.out.alloc _) ⟨w.heap.size, 0, none⟩ 1 1 [.int .u8 (kind : Int)] rfl rfl ?c1 ?c2 (by unfold maxLen; omega) (by omega) (by simp; omega) ?_)
  case c1 =>
    intro j u hj
    match j, hj with
    | 0, hj => simp at hj; subst hj; exact new_cell w _ 5
  case c2 => intro u hu; simp at hu; subst hu; rfl
  intro v2 w2 own2 gr2 _ at2
  have GR := Gr.append gr2 at2
  have obj2 := R.out.obj' GR
  have x5 := obj2.c5; have f5 := obj2.f 5
  obtain ⟨h2, cap2, rfl⟩ := Go.Joins.ownsRow_form own2 (by omega)
  have own2' : w2.ownsRow B 5 1 (.slice (some ⟨h2, 0, none⟩) (n + 1) cap2) (n + 1) (bys (xs ++ [kind])) := by rw [bys_app, bys_sing]; exact own2
  obtain ⟨ST, SB⟩ := R.out.step own2' GR
  obtain ⟨p1, p2, p3⟩ := GR.apart HNE.out.1 HNE.out.2 hL3
  have START : Hid (Wr (w2.setCell ⟨g, 5, none⟩ (.slice (some ⟨h2, 0, none⟩) (n + 1) cap2)) B g ov nv at_ done shift (.slice (some ⟨h2, 0, none⟩) (n + 1) cap2) (n + 1) (xs ++ [kind]) ∧ Below B w (w2.setCell ⟨g, 5, none⟩ (.slice (some ⟨h2, 0, none⟩) (n + 1) cap2)) ∧ (Value.slice (some ⟨h2, 0, none⟩) (n + 1) cap2).ownBlock ≠ some hL ∧ hL < (w2.setCell ⟨g, 5, none⟩ (.slice (some ⟨h2, 0, none⟩) (n + 1) cap2)).heap.size ∧ ∀ j, j < ls.length → (w2.setCell ⟨g, 5, none⟩ (.slice (some ⟨h2, 0, none⟩) (n + 1) cap2)).cell? ⟨hL, 0 + j, none⟩ = some (.int .i64 (ls.getD j 0 : Nat))) := Lib.hid ⟨ST, SB, p1, p2, fun j hj => by rw [p3]; exact HC.out j hj⟩
  clear ST SB p1 p2 p3 own2 own2' GR gr2 at2 obj2
  go_wp2
  go_loopw [20] (fun ix wr => ∃ (i n' : Nat) (v' : Value), ix = .int .i64 i ∧ i ≤ ls.length ∧ n' ≤ n + 1 + 10 * i ∧ Hid (Wr wr B g ov nv at_ done shift v' n' (xs ++ kind :: encs (ls.take i)) ∧ Below B w wr ∧ v'.ownBlock ≠ some hL ∧ hL < wr.heap.size ∧ ∀ j, j < ls.length → wr.cell? ⟨hL, 0 + j, none⟩ = some (.int .i64 (ls.getD j 0 : Nat)))) (fun ix _ => ls.length - (intOf ix).toNat)
  case atStart => exact ⟨0, n + 1, _, rfl, by omega, by omega, START⟩
  case round =>
    obtain ⟨i, n', v', rfl, hi, hn', hh⟩ := hrel
    clear START x5 f5 c5
    by_cases hil : i < ls.length
    · have y5 := hh.out.1.obj.c5
      have z := hh.out.2.2.2.2 i hil
      rw [Nat.zero_add] at z
      obtain ⟨u, hu⟩ : ∃ u, u = ls.getD i 0 := ⟨_, rfl⟩
      have hub : u < 1000000 := by rw [hu]; exact HLB.out i
      rw [← hu] at z
      have TK : Hid (ls.take (i + 1) = ls.take i ++ [u]) := Lib.hid (by
        rw [List.take_add_one, hu]; simp [List.getD, hil])
      clear hu
      go_wp2_with fail
      refine (put_any u hh.out.1.own (Nat.le_of_lt (Nat.lt_of_le_of_lt hh.out.1.le hh.out.1.obj.lt)) (by omega) (by omega)).mono ?_
      rintro e w3 ⟨v3, n3, rfl, own3, gr3, hn3⟩
      obtain ⟨h3, cap3, rfl⟩ := Go.Joins.ownsRow_form own3 (by rw [own_len own3]; have := (putF_len 9 u).1; rw [List.length_append]; omega)
      have obj3 := hh.out.1.obj' gr3
      have x5 := obj3.c5; have f5 := obj3.f 5
      obtain ⟨ST, SB⟩ := hh.out.1.step own3 gr3
      obtain ⟨p1, p2, p3⟩ := gr3.apart HNE.out.1 hh.out.2.2.1 hh.out.2.2.2.1
      have NX : Hid (Wr (w3.setCell ⟨g, 5, none⟩ (.slice (some ⟨h3, 0, none⟩) n3 cap3)) B g ov nv at_ done shift (.slice (some ⟨h3, 0, none⟩) n3 cap3) n3 (xs ++ kind :: encs (ls.take (i + 1))) ∧ Below B w (w3.setCell ⟨g, 5, none⟩ (.slice (some ⟨h3, 0, none⟩) n3 cap3)) ∧ (Value.slice (some ⟨h3, 0, none⟩) n3 cap3).ownBlock ≠ some hL ∧ hL < (w3.setCell ⟨g, 5, none⟩ (.slice (some ⟨h3, 0, none⟩) n3 cap3)).heap.size ∧ ∀ j, j < ls.length → (w3.setCell ⟨g, 5, none⟩ (.slice (some ⟨h3, 0, none⟩) n3 cap3)).cell? ⟨hL, 0 + j, none⟩ = some (.int .i64 (ls.getD j 0 : Nat))) := Lib.hid ⟨by rw [TK.out, encs_snoc]; rw [← List.cons_append, ← List.append_assoc]; exact ST, hh.out.2.1.trans SB, p1, p2, fun j hj => by rw [p3]; exact hh.out.2.2.2.2 j hj⟩
      clear ST SB p1 p2 p3 own3 gr3 obj3
      go_wp2
      go_roundw
      case rel => exact ⟨i + 1, n3, _, by go_num, hil, by omega, NX⟩
      case measure => simp [intOf]; omega
    · have hie : i = ls.length := by omega
      have FIN : Hid (ls.take i = ls) := Lib.hid (by rw [hie, List.take_length])
      have hge : ls.length ≤ i := by omega
      clear hil hie
      go_wp2
      go_returns
      exact ⟨v', n', rfl, by have := hh.out.1; rw [FIN.out] at this; exact this, hh.out.2.1⟩
end Go.Proofs.Ytaidlcnfkdaijaa
