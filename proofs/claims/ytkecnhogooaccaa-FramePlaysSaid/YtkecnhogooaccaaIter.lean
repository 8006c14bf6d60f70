import Derived.Test.YtkecnhogooaccaaModel
import Derived.RangeFuncBox
import Derived.RangeFuncNested
import Derived.RangeFuncLeaves
import Derived.Shelf.Abstract
import Derived.OwnWalkIn
import Derived.TacticsInMore
import Derived.LoopNIn
import Derived.LoopIn
namespace Go.Proofs.Ytkecnhogooaccaa
open Go.ChangeShapes Go.WideShapes Go.ChangeAt Go.RowKit Go.Shelf
set_option linter.unusedVariables false
attribute [local go_sem] Oper.semAt_some
def fm0 : Fm := ⟨0, 0, 0, 0⟩
/-- what slices.Backward hands on in its first k rounds: the place, the frame. -/
def dn (fr : List Fm) (k : Nat) : List (Nat × Fm) := (List.range k).map fun j => (fr.length - 1 - j, fr.getD (fr.length - 1 - j) fm0)
theorem dn_succ (fr : List Fm) (k : Nat) : dn fr (k + 1) = dn fr k ++ [(fr.length - 1 - k, fr.getD (fr.length - 1 - k) fm0)] := by simp [dn, List.range_succ]
theorem dn_len (fr : List Fm) (k : Nat) : (dn fr k).length = k := by simp [dn]
theorem dn_all (fr : List Fm) : (dn fr fr.length).map (·.2) = fr.reverse := by
  apply List.ext_getElem
  · simp [dn]
  · intro i h1 h2
    simp only [dn, List.map_map, List.getElem_map, List.getElem_range, Function.comp, List.getElem_reverse]
    simp at h2
    rw [List.getD_eq_getElem?_getD, List.getElem?_eq_getElem (by omega)]; rfl
def encB (x : Nat × Fm) : Array Value := #[.int .i64 (x.1 : Int), .agg #[.int .i64 x.2.back, .int .i64 x.2.call, .int .i64 (x.2.base : Int), .int .i64 (x.2.slots : Int)]]
/-- the frames lie in block b. -/
def FrAt (W : World) (b : Nat) (fr : List Fm) : Prop := ∀ j, j < fr.length → ∃ bk cl bs sl, fr.getD j fm0 = ⟨bk, cl, bs, sl⟩ ∧ W.cell? ⟨b, j * 4, none⟩ = some (.int .i64 bk) ∧ W.cell? ⟨b, j * 4 + 1, none⟩ = some (.int .i64 cl) ∧ W.cell? ⟨b, j * 4 + 2, none⟩ = some (.int .i64 (bs : Nat)) ∧ W.cell? ⟨b, j * 4 + 3, none⟩ = some (.int .i64 (sl : Nat))
/-- what a round keeps: the frames' block, the box of the slice. -/
structure KpB (b Bs : Nat) (W W' : World) : Prop where
  row : W'.heap[b]? = W.heap[b]?
  box : W'.heap[Bs]? = W.heap[Bs]?
theorem KpB.refl (b Bs : Nat) (W : World) : KpB b Bs W W := ⟨rfl, rfl⟩
theorem KpB.trans {b Bs : Nat} {A B C : World} (h : KpB b Bs A B) (k : KpB b Bs B C) : KpB b Bs A C := ⟨k.row.trans h.row, k.box.trans h.box⟩
theorem cell_same {A B : World} {b : Nat} (h : B.heap[b]? = A.heap[b]?) (i : Nat) : B.cell? ⟨b, i, none⟩ = A.cell? ⟨b, i, none⟩ := by unfold World.cell?; rw [h]
theorem FrAt.same {A B : World} {b : Nat} {fr : List Fm} (h : FrAt A b fr) (k : B.heap[b]? = A.heap[b]?) : FrAt B b fr := fun j hj => by
  obtain ⟨bk, cl, bs, sl, e, c0, c1, c2, c3⟩ := h j hj
  exact ⟨bk, cl, bs, sl, e, (cell_same k _).trans c0, (cell_same k _).trans c1, (cell_same k _).trans c2, (cell_same k _).trans c3⟩
set_option maxRecDepth 100000 in
set_option maxHeartbeats 2000000 in
/-- slices.Backward's closure. -/
theorem back1_in (F : Fence) (n : Nat) (h44 : F.fn 44) (hro : F.round = none) (hn : 1 ≤ n) (l Bs b len cap : Nat) (fr : List Fm) (hlen : fr.length = len) (hcap : len ≤ cap) (hsm : len ≤ 5000) (J Jx : List (Nat × Fm) → World → Prop)
    (hY : ∀ pre x W, J pre W → pre.length < len → YieldAt F (n - 1) Try.prog l (encB x) W fun e W' =>
      (e = .returned (.bool true) ∧ J (pre ++ [x]) W' ∧ KpB b Bs W W') ∨ (e = .returned (.bool false) ∧ Jx (pre ++ [x]) W'))
    (W : World) (hBs : W.cell? ⟨Bs, 0, none⟩ = some (.slice (some ⟨b, 0, none⟩) len cap)) (hc : FrAt W b fr) (h0 : J [] W) :
    CallsIn F n Try.prog 44 #[.func (.yield l) #[] #[], .pointer (some ⟨Bs, 0, none⟩)] W fun e W' => (∃ v, e = .returned v) ∧
      ((∃ ys, ys = dn fr len ∧ J ys W') ∨ (∃ pre, (∃ k, k ≤ len ∧ pre = dn fr k) ∧ Jx pre W')) := by
  refine callsIn_of_wp Try.func44 rfl h44 ?_ hro
  simp only [Try.ntmps44, List.size_toArray, List.length_cons, List.length_nil, Nat.reduceAdd, Nat.reduceSub, Array.replicate_succ, Array.replicate_zero, List.push_toArray, List.append_toArray, List.nil_append, List.cons_append]
  obtain ⟨z, hz⟩ : ∃ z : Int, (len : Int) - 1 = z := ⟨_, rfl⟩
  have hz1 : -1 ≤ z := by omega
  have hz2 : z ≤ 5000 := by omega
  gi_wp2
  gi_loopw [3] (fun i wr => ∃ (k : Nat) (m : Int), k ≤ len ∧ i = .int .i64 m ∧ Hid (m = z - k) ∧ J (dn fr k) wr ∧ KpB b Bs W wr)
    (fun i _ => (intOf i + 1).toNat)
  case atStart => exact ⟨0, z, Nat.zero_le _, rfl, Lib.hid (by simp), h0, KpB.refl _ _ _⟩
  case round =>
    obtain ⟨k, m, hk, rfl, hm, hJs, hnx⟩ := hrel
    have hcB := (cell_same hnx.box 0).trans hBs
    by_cases hlt : k < len
    · have hm0 : 0 ≤ m := by have := hm.out; omega
      obtain ⟨q, rfl⟩ : ∃ q : Nat, m = q := ⟨m.toNat, by omega⟩
      have hq : q = fr.length - 1 - k := by have := hm.out; omega
      have hql : q < len := by omega
      obtain ⟨bk, cl, bs, sl, e, c0, c1, c2, c3⟩ := (hc.same hnx.row) q (by omega)
      obtain ⟨fn, tmps, assign, body, hy, hR⟩ := hY _ (q, ⟨bk, cl, bs, sl⟩) wr hJs (by rw [dn_len]; exact hlt)
      dsimp only [encB] at hy
      have hD : dn fr (k + 1) = dn fr k ++ [(q, ⟨bk, cl, bs, sl⟩)] := by rw [dn_succ, ← hq, e]
      have HD := Lib.hid hD
      have HQ := Lib.hid hq
      have dq := decide_eq_true (show (0 : Int) ≤ (q : Int) by omega)
      clear hD hq e
      gi_wp2
      refine hR.mono ?_
      rintro e W3 (⟨rfl, hJ3, hk3⟩ | ⟨rfl, hJx3⟩)
      · gi_wp2
        go_roundw
        case rel => exact ⟨k + 1, (q : Int) - 1, by omega, by go_num, Lib.hid (by have := hm.out; omega), by rw [HD.out]; exact hJ3, hnx.trans hk3⟩
        case measure => simp [intOf]
      · gi_wp2
        refine bodyPost_ret (results_none rfl _ _ _) rfl ?_
        exact ⟨⟨_, rfl⟩, .inr ⟨_, ⟨k + 1, by omega, HD.out.symm⟩, hJx3⟩⟩
    · obtain rfl : k = len := by omega
      have hm1 : m < 0 := by have := hm.out; omega
      have dq := decide_eq_false (show ¬ (0 : Int) ≤ m by omega)
      gi_wp2
      go_end0
      exact ⟨⟨_, rfl⟩, .inl ⟨_, rfl, hJs⟩⟩
set_option maxRecDepth 100000 in
set_option maxHeartbeats 1000000 in
/-- .. of no frames. -/
theorem back1_nil_in (F : Fence) (n : Nat) (h44 : F.fn 44) (hro : F.round = none) (l Bs : Nat) (A : Option Addr) (cap : Nat) (J : List (Nat × Fm) → World → Prop) (W : World) (hBs : W.cell? ⟨Bs, 0, none⟩ = some (.slice A 0 cap)) (h0 : J [] W) :
    CallsIn F n Try.prog 44 #[.func (.yield l) #[] #[], .pointer (some ⟨Bs, 0, none⟩)] W fun e W' => (∃ v, e = .returned v) ∧ J [] W' := by
  refine callsIn_of_wp Try.func44 rfl h44 ?_ hro
  simp only [Try.ntmps44, List.size_toArray, List.length_cons, List.length_nil, Nat.reduceAdd, Nat.reduceSub, Array.replicate_succ, Array.replicate_zero, List.push_toArray, List.append_toArray, List.nil_append, List.cons_append]
  gi_wp2
  gi_loopw [3] (fun i wr => i = .int .i64 (-1) ∧ J [] wr) (fun _ _ => 0)
  case atStart => exact ⟨rfl, h0⟩
  case round =>
    obtain ⟨rfl, hJs⟩ := hrel
    gi_wp2
    go_end0
    exact ⟨⟨_, rfl⟩, hJs⟩
set_option maxHeartbeats 1000000 in
/-- slices.Backward: the slice is boxed; the function captures the box. -/
theorem back_in (F : Fence) (n : Nat) (h41 : F.fn 41) (hro : F.round = none) (a : Option Addr) (len cap : Nat) (w : World) :
    CallsIn F n Try.prog 41 #[.slice a len cap] w fun e w' => e = .returned (.func (.func 44) #[] #[.pointer (some ⟨w.heap.size, 0, none⟩)]) ∧ w' = w.alloc (.cells #[.slice a len cap] 67) := by
  refine callsIn_of_wp Try.func41 rfl h41 ?_ hro
  simp only [Try.ntmps41, List.size_toArray, List.length_cons, List.length_nil, Nat.reduceAdd, Nat.reduceSub, Array.replicate_succ, Array.replicate_zero, List.push_toArray, List.append_toArray, List.nil_append, List.cons_append]
  gi_wp2
  go_ret
  exact ⟨rfl, rfl⟩
/-- the frames as the slice's value holds them. -/
def FrIn (W : World) (b : Nat) (sv : Value) (fr : List Fm) : Prop := (fr = [] ∧ ∃ A c, sv = .slice A 0 c) ∨ ∃ c, sv = .slice (some ⟨b, 0, none⟩) fr.length c ∧ fr.length ≤ c ∧ FrAt W b fr
theorem back_stops (F : Fence) (n : Nat) (h44 : F.fn 44) (hro : F.round = none) (hn : 1 ≤ n) (Bs b : Nat) (sv : Value) (fr : List Fm) (hsm : fr.length ≤ 5000) (w : World) (hBs : Bs < w.heap.size) (hb : b < w.heap.size)
    (hc : w.cell? ⟨Bs, 0, none⟩ = some sv) (hI : FrIn w b sv fr) :
    SeqStopsK F n Try.prog 44 #[.pointer (some ⟨Bs, 0, none⟩)] encB (KpB b Bs) (fun ys => ys = dn fr fr.length) (fun pre => ∃ k, k ≤ fr.length ∧ pre = dn fr k) fr.length w := fun l J Jx W hW _ _ hY h0 => by
  have hc' := (hW.cell (p := ⟨Bs, 0, none⟩) hBs).trans hc
  rcases hI with ⟨rfl, A, c, rfl⟩ | ⟨c, rfl, hcap, hfr⟩
  · exact (back1_nil_in F n h44 hro l Bs A c J W hc' h0).mono fun e W' ⟨he, hj⟩ => ⟨he, .inl ⟨_, rfl, hj⟩⟩
  · exact back1_in F n h44 hro hn l Bs b fr.length c fr rfl hcap hsm J Jx hY W hc' (hfr.same (hW.block b hb)) h0
end Go.Proofs.Ytkecnhogooaccaa
