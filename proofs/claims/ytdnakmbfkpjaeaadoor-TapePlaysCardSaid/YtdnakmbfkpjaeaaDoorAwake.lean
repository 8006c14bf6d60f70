import Derived.Test.YtdnakmbfkpjaeaaDoorText
namespace Go.Proofs.YtdnakmbfkpjaeaaDoor
open Go.ChangeShapes Go.WideShapes Go.ChangeAt Go.RowKit
set_option linter.unusedVariables false
theorem sli_own {w : World} {B n : Nat} {v : Value} {xs : List Int} (h : w.ownsRow B 2 1 v n (its xs)) : ∃ A c, v = .slice A n c ∧ SlI w A n c xs := by
  have hl := iown_len h
  rcases h.2 with ⟨rfl, rfl⟩ | ⟨g, cap, cur, rfl, hb, hg, hc, hm, hs, ht⟩
  · exact ⟨none, 0, rfl, hl.symm, Nat.le_refl _, fun _ => rfl, fun h => absurd h (by omega)⟩
  · refine ⟨_, cap, rfl, hl.symm, hc, fun e => (by cases e), fun _ => ⟨g, 0, rfl, (Array.getElem?_eq_some_iff.1 hg).1, fun j hj => ?_⟩⟩
    rw [Nat.zero_add, h.cellAt j (by omega), its_at xs j (by omega)]
set_option maxRecDepth 100000 in
set_option maxHeartbeats 2000000 in
theorem out_any {w : World} {B g : Nat} {iv ov : Value} {inp out : List Int} {rd : Nat} (t : Tp w B g iv ov inp out rd) (hl : out.length ≤ 100000) :
    Calls Tryd.prog 11 #[.pointer (some ⟨g, 0, none⟩)] w fun e w' => ∃ A c, e = .returned (.slice A out.length c) ∧ Hid (w'.ownsRow w.heap.size 2 1 (.slice A out.length c) out.length (its out)) ∧ Hid (Below w.heap.size w w') := by
  have c1 := t.obj.c1
  obtain ⟨A, c, rfl, s⟩ := sli_own t.rout
  have S := Lib.hid s
  have hl' : out.length ≤ 1000000 := by omega
  clear t s
  go_enter Tryd.func11, Tryd.ntmps11
  go_wp2_with fail
  refine (clone_any S.out hl').mono ?_
  rintro e w2 ⟨v, rfl, own, hb⟩
  obtain ⟨A2, c2, rfl⟩ := iform own
  have OWN := Lib.hid own; have HB := Lib.hid hb; clear own hb
  go_wp2
  go_ret
  exact ⟨_, _, rfl, OWN, HB⟩
theorem new_lit (w : World) : Calls Tryd.prog 6 #[.slice (some ⟨w.heap.size, 0, none⟩) 1 1] (w.alloc (.cells #[.int .i64 4] 2)) fun e w' => ∃ g iv ov, e = .returned (.tuple #[.pointer (some ⟨g, 0, none⟩), .int .i64 0]) ∧ Hid (Tp w' w.heap.size g iv ov [4] [] 0) ∧ Hid (Below w.heap.size w w') := by
  have s : SlI (w.alloc (.cells #[.int .i64 4] 2)) (some ⟨w.heap.size, 0, none⟩) 1 1 [4] := ⟨rfl, Nat.le_refl _, fun e => (by cases e), fun _ => ⟨w.heap.size, 0, rfl, by simp, fun j hj => by
    match j, hj with
    | 0, _ => exact new_cell w (.int .i64 4) 2⟩⟩
  refine (new_any s (by omega)).mono ?_
  rintro e w' ⟨g, iv, ov, he, ht, hb⟩
  have t := ht.out
  refine ⟨g, iv, ov, he, Lib.hid ⟨t.obj, own_mono t.rin (by simp), own_mono t.rout (by simp), t.ni, t.no, t.ne, ?_, t.rd⟩, Lib.hid (bt (below_alloc w _) hb.out)⟩
  have := t.le; simp at this; omega
theorem back_lit {w : World} {B g : Nat} {iv ov : Value} (t : Tp w B g iv ov [4] [5, 6] 0) :
    Calls Tryd.prog 9 #[.pointer (some ⟨g, 0, none⟩), .int .i64 0, .int .i64 1] w fun e w' => ∃ ov', e = .returned (.int .i64 0) ∧ Hid (Tp w' B g iv ov' [4] [5] 0) ∧ Hid (Frm w w' (· = g)) ∧ Hid (ov'.ownBlock = ov.ownBlock) :=
  back_any (r := 0) (p := 1) t (Nat.le_refl _) (by simp) (by simp) (by simp)
theorem read_lit1 {w : World} {B g : Nat} {iv ov : Value} {out : List Int} (t : Tp w B g iv ov [4] out 0) :
    Calls Tryd.prog 7 #[.pointer (some ⟨g, 0, none⟩)] w fun e w' => e = .returned (.tuple #[.int .i64 4, .bool true]) ∧ Hid (Tp w' B g iv ov [4] out 1) ∧ Hid (Frm w w' (· = g)) := by
  refine (read_any t (by simp)).mono ?_
  rintro e w' ⟨rd', he, hr, ht, hf⟩
  obtain rfl : rd' = 1 := hr
  exact ⟨he, ht, hf⟩
theorem read_lit2 {w : World} {B g : Nat} {iv ov : Value} {out : List Int} (t : Tp w B g iv ov [4] out 1) :
    Calls Tryd.prog 7 #[.pointer (some ⟨g, 0, none⟩)] w fun e w' => e = .returned (.tuple #[.int .i64 0, .bool false]) ∧ Hid (Tp w' B g iv ov [4] out 1) ∧ Hid (Frm w w' (· = g)) := by
  refine (read_any t (by simp)).mono ?_
  rintro e w' ⟨rd', he, hr, ht, hf⟩
  obtain rfl : rd' = 1 := hr
  exact ⟨he, ht, hf⟩
def HTab (w : World) : Prop := ∀ W, Below w.heap.size w W → Lib.TabBelow Tryd.prog W.heap.size W "internal/strconv.uint64pow10" .u64 Lib.pow10Tab
theorem HTab.below {w w' : World} (h : HTab w) (hb : Below w.heap.size w w') : HTab w' := fun W hW => h W (bt hb hW)
theorem mine_ge {w : World} {B g : Nat} {iv ov : Value} {inp out : List Int} {rd : Nat} (t : Tp w B g iv ov inp out rd) : ∀ k, Mine g ov k → B ≤ k := fun k h => by
  rcases h with rfl | h
  · exact t.le
  · exact (t.rout.lt k h).1
set_option maxRecDepth 100000 in
set_option maxHeartbeats 4000000 in
theorem awake (w : World) (htab : HTab w) : Calls Tryd.prog 5 #[] w fun e w' => e = .returned (.bool true) ∧ Below w.heap.size w w' := by
  have TX : strU (textL [5]) = { data := #[53, 10] } := by decide +kernel
  have HT := Lib.hid htab
  clear htab
  go_enter Tryd.func5, Tryd.ntmps5
  go_wp2_with fail
  refine (new_lit w).mono ?_
  rintro e w1 ⟨g, iv, ov, rfl, t, hb⟩
  go_wp2_with fail
  refine (print_any 5 t.out (by simp)).mono ?_
  rintro e w2 ⟨ov2, rfl, t2, f2, n2⟩
  have B2 := Lib.hid (hb.out.trans (f2.out.below (mine_ge t.out) hb.out.size))
  clear t f2 hb
  go_wp2_with fail
  refine (print_any 6 t2.out (by simp)).mono ?_
  rintro e w3 ⟨ov3, rfl, t3, f3, n3⟩
  have B3 := Lib.hid (B2.out.trans (f3.out.below (mine_ge t2.out) B2.out.size))
  clear t2 f3 B2 n2
  go_wp2_with fail
  refine (back_lit t3.out).mono ?_
  rintro e w4 ⟨ov4, rfl, t4, f4, n4⟩
  have B4 := Lib.hid (B3.out.trans (f4.out.below (fun k h => by have := t3.out.le; omega) B3.out.size))
  clear t3 f4 B3 n3
  go_wp2_with fail
  refine (out_any t4.out (by simp)).mono ?_
  rintro e w5 ⟨A, c, rfl, own5, hb5⟩
  have B5 := Lib.hid (bt B4.out hb5.out)
  have t5 := Lib.hid (t4.out.below hb5.out)
  have NG : Hid (∀ k, (Value.slice A [5].length c).ownBlock = some k → k ≠ g) := Lib.hid (fun k h e => by have := (own5.out.lt k h).1; have := t4.out.obj.lt; omega)
  clear t4 hb5 B4
  go_wp2_with fail
  refine (read_lit1 t5.out).mono ?_
  rintro e w6 ⟨rfl, t6, f6⟩
  have B6 := Lib.hid (B5.out.trans (f6.out.below (fun k h => by have := t5.out.le; omega) B5.out.size))
  have own6 := Lib.hid (own_frm own5.out f6.out NG.out)
  clear own5 t5 f6 B5
  go_wp2_with fail
  refine (read_lit2 t6.out).mono ?_
  rintro e w7 ⟨rfl, t7, f7⟩
  have B7 := Lib.hid (B6.out.trans (f7.out.below (fun k h => by have := t6.out.le; omega) B6.out.size))
  have own7 := Lib.hid (own_frm own6.out f7.out NG.out)
  clear own6 t6 f7 B6
  obtain ⟨go, c', e⟩ := Go.Joins.ownsRow_form own7.out (by simp)
  injection e with e1 e2 e3
  subst e1 e3
  have x := (own7.out.cellAt 0 (by simp)).trans (its_at [5] 0 (by simp))
  have hl1 : ([5] : List Int).length = 1 := rfl
  have hg1 : ([5] : List Int).getD 0 0 = 5 := rfl
  rw [hg1] at x
  clear own7 NG
  go_wp2_with fail
  refine (text_any t7.out (by simp) (fun j => by match j with | 0 => decide | k + 1 => simp) (HT.out w7 B7.out)).mono ?_
  rintro e w8 ⟨rfl, hb8⟩
  rw [TX]
  have B8 := Lib.hid (bt B7.out hb8)
  go_wp2
  go_ret
  exact ⟨rfl, B8.out⟩
end Go.Proofs.YtdnakmbfkpjaeaaDoor
