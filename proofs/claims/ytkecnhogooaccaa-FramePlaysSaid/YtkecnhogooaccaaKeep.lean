import Derived.Test.YtkecnhogooaccaaRenew
import Derived.ArgAppend
namespace Go.Proofs.Ytkecnhogooaccaa
open Go.ChangeShapes Go.WideShapes Go.ChangeAt Go.RowKit
set_option linter.unusedVariables false
/-- a word is appended, and the old row is kept. -/
theorem run_append_keep {w : World} {B n c cc : Nat} {A : Option Addr} {xs : List Int} {x : Int} {ad : Addr} {ty : TypeId} (own : w.ownsRow B 29 1 (.slice A n c) n (wds xs)) (hB : B ≤ w.heap.size) (hn : n ≤ 1000000) (hx : w.cell? (ad.add 0) = some (.int .u64 x)) :
    ∃ A' c' w', (Builtin.append_ #[48, 48] ty #[.slice A n c, .slice (some ad) 1 cc]).run Try.prog w = .ok (.slice A' (n + 1) c') w' ∧ InL .u64 w' A' (n + 1) (xs ++ [x]) ∧ w'.ownsRow B 29 1 (.slice A n c) n (wds xs) ∧ Below B w w' := by
  obtain ⟨i0, hi0, hz0, hz1, hz2⟩ := info_parts info29
  have hnews : ∀ j u, ([.int .u64 x] : List Value)[j]? = some u → w.cell? (ad.add j) = some u := fun j u hj => by
    match j, hj with
    | 0, hj => simp only [List.getElem?_cons_zero, Option.some.injEq] at hj; subst hj; exact hx
  have hone : ∀ u ∈ ([.int .u64 x] : List Value), u.oneCell' = true := fun u hu => by simp only [List.mem_singleton] at hu; subst hu; rfl
  have hxl : xs.length = n := by have := own.1; rw [wds_len] at this; omega
  rcases own.2 with ⟨e, h0⟩ | ⟨g, cap, cur, e, hb, hg, hcs, hm, hs, ht⟩
  · injection e with e1 e2 e3
    subst e1 e2 e3
    obtain ⟨gg, cap, w', hr, own', hgr, hat, hlt⟩ := run_append_lies (P := Try.prog) w 48 ty B 29 i0 (.int .u64 0) 1 8 Try.underlying48 hi0 hz0 hz1 hz2 rfl (by decide) _ 0 _ own ad 1 cc [.int .u64 x] rfl hnews hone (by omega) (by unfold maxLen; omega) (by omega) hB _ rfl
    refine ⟨_, _, w', hr, ?_, by rw [List.eq_nil_of_length_eq_zero hxl]; exact World.ownsRow_nil _ _ _ _, (Below.refl B w).grown hgr hB (fun q hq => by simp [Value.ownBlock] at hq)⟩
    have e : wds xs ++ [.int .u64 x] = wds (xs ++ [x]) := by rw [wds_app]; rfl
    rw [e] at own'
    exact own_in own'
  · injection e with e1 e2 e3
    subst e1 e3
    have hcell : ∀ j u, (wds xs)[j]? = some u → w.cell? ⟨g, 0 + j, none⟩ = some u := fun j u hu => by
      have hj := (List.getElem?_eq_some_iff.1 hu).1
      rw [Nat.zero_add, own.cellAt j (by rw [← own.1]; exact hj), hu]
    by_cases hroom : n + 1 ≤ c
    · have hsz : cur.size = c := by omega
      have hr := run_append_room_cells (P := Try.prog) w 48 ty 29 i0 Try.underlying48 hi0 g 0 n c ad 1 cc [.int .u64 x] (by rw [hz1]; rfl) hnews hone hroom
        (fun j hj => by
          simp at hj; subst hj
          rw [hz1]; simp only [Nat.mul_one, Nat.zero_add, Nat.add_zero]
          rw [cell_of_row w g n cur 29 (0, 0) hg, Array.getElem?_eq_getElem (by omega)]; rfl)
        (fun j hj => by simp [World.frozen?, hg])
      rw [hz1] at hr
      simp only [Nat.mul_one, Nat.zero_add, World.setCells] at hr
      have f0 := frm_set (w := w) (g := g) (R := (· = g)) n (.int .u64 x) rfl
      have hh : (w.setCell ⟨g, n, none⟩ (.int .u64 x)).heap[g]? = some (.cells (cur.setIfInBounds n (.int .u64 x)) 29 (0, 0)) := by simp [World.setCell, Array.getElem?_modify, hg]
      refine ⟨_, _, _, hr, ⟨by simp [hxl], fun _ => ⟨g, 0, rfl, (Array.getElem?_eq_some_iff.1 hh).1, fun j hj => ?_⟩⟩, ⟨own.1, .inr ⟨g, c, _, rfl, hb, hh, hcs, hm, by simpa using hs, ?_⟩⟩, f0.below (fun k h => h ▸ hb) hB⟩
      · rw [Nat.zero_add, cell_of_row _ g j _ 29 (0, 0) hh, Array.getElem?_setIfInBounds]
        by_cases hjn : n = j
        · subst hjn
          rw [if_pos rfl, if_pos (by omega)]
          simp [List.getD, hxl]
        · rw [if_neg hjn]
          have := hcell j (.int .u64 ((xs ++ [x]).getD j 0)) (by
            have hj2 : j < xs.length := by omega
            rw [wds_at xs j hj2]; simp [List.getD, List.getElem?_append_left hj2])
          rw [Nat.zero_add, cell_of_row w g j cur 29 (0, 0) hg] at this
          exact this
      · rw [← ht]
        simp only [Array.toList_setIfInBounds, Nat.mul_one]
        rw [List.take_set_of_le (Nat.le_refl _)]
    · obtain ⟨v', w', hr, own', hgr⟩ := run_append_arg_grows (P := Try.prog) w 48 ty 29 i0 (.int .u64 0) 1 8 Try.underlying48 hi0 hz0 hz1 hz2 rfl (by decide) ⟨g, 0, none⟩ n c (wds xs) (by rw [wds_len, hxl, Nat.mul_one]) (fun j u hu => by rw [Go.WideShapes.add_plain]; exact hcell j u hu) ad 1 cc [.int .u64 x] rfl hnews (by omega) (by unfold maxLen; omega) (by omega)
      obtain ⟨A', c', rfl⟩ := vform own'
      have e : wds xs ++ [.int .u64 x] = wds (xs ++ [x]) := by rw [wds_app]; rfl
      rw [e] at own'
      have hgl : g < w.heap.size := (Array.getElem?_eq_some_iff.1 hg).1
      refine ⟨_, _, w', hr, own_in own', ⟨own.1, .inr ⟨g, c, cur, rfl, hb, ?_, hcs, hm, hs, ht⟩⟩, (Below.refl B w).grown hgr hB (fun q hq => by cases hq)⟩
      rw [hgr.block g hgl (by simp)]; exact hg
theorem wpList_append_keep {w : World} {ops : Array Oper} {rest : List Oper} {o : Oper} {a : Act} {Q : Exit → Act → World → Prop} (hgd : o.guard = none) (s y : Operand)
    (ho : o.op = .call { callee := .builtin .append, args := #[s, y], argTypes := #[48, 48] }) {B n c cc : Nat} {A : Option Addr} {xs : List Int} (x : Int) {ad : Addr} (hs : a.eval s = .slice A n c) (hy : a.eval y = .slice (some ad) 1 cc)
    (own : w.ownsRow B 29 1 (.slice A n c) n (wds xs)) (hB : B ≤ w.heap.size) (hn : n ≤ 1000000) (hx : w.cell? (ad.add 0) = some (.int .u64 x))
    (h : ∀ A' c' w', Hid (InL .u64 w' A' (n + 1) (xs ++ [x])) → Hid (w'.ownsRow B 29 1 (.slice A n c) n (wds xs)) → Hid (Below B w w') → wpList Try.prog ops Q rest (a.put o.dst (.slice A' (n + 1) c')) w') : wpList Try.prog ops Q (o :: rest) a w := by
  refine wpList_plain hgd fun K hK => ?_
  obtain ⟨A', c', w', hr, h1, h2, h3⟩ := run_append_keep (ty := o.type) own hB hn hx (cc := cc)
  unfold Oper.wp execOp
  simp only [ho, resolve, invoke, builtin, Sem.run_bind, Sem.run_pure, Result.andThen_ok, List.map_toArray, List.map_cons, List.map_nil, hs, hy, hr]
  exact hK _ _ (h A' c' w' (Lib.hid h1) (Lib.hid h2) (Lib.hid h3))
end Go.Proofs.Ytkecnhogooaccaa
