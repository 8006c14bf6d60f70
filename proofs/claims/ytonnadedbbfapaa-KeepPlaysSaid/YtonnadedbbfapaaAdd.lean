import Derived.Test.YtonnadedbbfapaaBase
import Derived.Test.YtonnadedbbfapaaShelf
import Derived.Lib.OwnBridge
import Derived.Test.YtonnadedbbfapaaOwn
import Derived.OneCell
namespace Go.Proofs.Ytonnadedbbfapaa
open Go.ChangeShapes Go.WideShapes Go.ChangeAt Go.RowKit
/-- what a call may turn: its own two blocks; all else stands. -/
structure Fr (g h : Nat) (w w' : World) : Prop where
  os : w'.os = w.os
  tape : w'.tape = w.tape
  output : w'.output = w.output
  size : w.heap.size ≤ w'.heap.size
  block : ∀ k, k < w.heap.size → k ≠ g → k ≠ h → w'.heap[k]? = w.heap[k]?
theorem Fr.of_below {g h : Nat} {w w' : World} (hb : Below w.heap.size w w') : Fr g h w w' := ⟨hb.os, hb.tape, hb.output, hb.size, fun k hk _ _ => hb.block k hk⟩
theorem Fr.below {g h B : Nat} {w w' : World} (f : Fr g h w w') (hg : B ≤ g) (hh : B ≤ h) (hB : B ≤ w.heap.size) : Below B w w' := ⟨f.os, f.tape, f.output, f.size, fun k hk => f.block k (by omega) (by omega) (by omega)⟩
theorem zero2 : ∀ w, (zeroValue 2).run Try.prog w = .ok (Value.int .i64 0) w := fun _ => by kernel_rfl
theorem oneC : Go.Proofs.OneCell (Value.int .i64) := fun _ => rfl
theorem del_own {w : World} {B h n cap : Nat} {xs : List Int} (own : w.ownsRow B 2 1 (.slice (some ⟨h, 0, none⟩) n cap) n (ints xs)) (i : Nat) (hi : i < n) :
    Calls Try.prog 18 #[.slice (some ⟨h, 0, none⟩) n cap, .int .i64 i, .int .i64 ((i : Int) + 1)] w fun e w' => e = .returned (.slice (some ⟨h, 0, none⟩) (n - 1) cap) ∧ w'.ownsRow B 2 1 (.slice (some ⟨h, 0, none⟩) (n - 1) cap) (n - 1) (ints (xs.eraseIdx i)) ∧ w.grownBy w' (some h) := by
  obtain ⟨i0, hi0, hz0, hz1, hz2⟩ := info_parts info2
  obtain ⟨g, cap', e0, hb, hlt, hn, hm, hl, hH⟩ := Lib.holds_of_ownsRow own (by simp)
  injection e0 with e1 _ e3
  injection e1 with e1
  injection e1 with e1
  subst e1; subst e3
  have c := Try.slices_Delete (Value.int .i64) oneC 0 zero2 i0 hi0 hz1 h 0 cap i (i + 1) xs.toArray w hH (by simp; omega) (by unfold maxLen at hm; omega) (by omega) (by simp; omega)
  rw [show xs.toArray.size = n from by simp [hl]] at c
  refine c.mono fun e w' ⟨he, q, hw⟩ => ?_
  subst hw
  refine ⟨by rw [he, show n - (i + 1 - i) = n - 1 from by omega], ?_, ?_⟩
  · have hlen : (xs.toArray.toList.take i ++ xs.toArray.toList.drop (i + 1) ++ List.replicate (i + 1 - i) (0 : Int)).length = n := by simp; omega
    have := Lib.ownsRow_putRow (q := q) own hlen (k := n - 1) (by omega)
    have e : (xs.toArray.toList.take i ++ xs.toArray.toList.drop (i + 1) ++ List.replicate (i + 1 - i) (0 : Int)).take (n - 1) = xs.eraseIdx i := by
      rw [List.take_append_of_le_length (by simp; omega), List.take_of_length_le (by simp; omega), List.eraseIdx_eq_take_drop_succ]
    rw [e] at this
    exact this
  · refine ⟨rfl, rfl, rfl, by simp [Go.Sort.putRow, Go.Sort.mapBlock, Go.Sort.ahead], fun k hk hne => ?_⟩
    simp [Go.Sort.putRow, Go.Sort.mapBlock, Go.Sort.ahead, Array.getElem?_modify, show h ≠ k from fun e => hne (by rw [e])]
def diffX (xs : List Int) (i : Nat) : Int := wrap64 (xs.getD (i + 1) 0 - xs.getD (i - 1) 0)
def bestGo (xs : List Int) : Nat → Nat
  | 0 => 1
  | k + 1 => if diffX xs (k + 2) < diffX xs (bestGo xs k) then k + 2 else bestGo xs k
set_option maxHeartbeats 1000000 in
theorem add_no (c : Int) {w : World} {B g : Nat} {every most : Int} {h cap : Nat} {xs : List Int} (k : KAt w B g every most h cap xs) (h1 : 1 ≤ every) (hx : 0 < xs.length) (hxl : xs.length ≤ 1000) (hc : -9223372036854775808 ≤ c) (hc2 : c ≤ 9223372036854775807)
    (hw : wantsB every c xs = false) :
    Calls Try.prog 10 #[.pointer (some ⟨g, 0, none⟩), .int .i64 c] w fun e w' => e = .returned (.tuple #[.slice none 0 0, .int .i64 1]) ∧ ∃ n, w' = w.drewN n := by
  have W := Lib.hid (wants_any c k h1 hx hxl hc hc2)
  have HW := Lib.hid hw; clear hw
  go_enter Try.func10, Try.ntmps10
  go_wp2_with fail
  refine W.out.mono ?_; rintro e w1 ⟨rfl, n, rfl⟩
  rw [HW.out]
  go_wp2
  go_ret2
  exact ⟨rfl, _, rfl⟩
theorem new_cell (w : World) (v : Value) (t : TypeId) : (w.alloc (.cells #[v] t)).cell? ((⟨w.heap.size, 0, none⟩ : Addr).add 0) = some v := by
  have := (MapKept.heap_alloc w (Obj.cells #[v] t)).1
  show (w.alloc (.cells #[v] t)).cell? ⟨w.heap.size, 0, none⟩ = some v
  unfold World.cell?
  rw [this]; rfl
/-- the append and its store: what both ways of Add begin with. -/
theorem app_own {w w' : World} {B g : Nat} {every most : Int} {h cap h' cap' : Nat} {xs : List Int} {c : Int} (k : KAt w B g every most h cap xs)
    (own : w'.ownsRow B 2 1 (.slice (some ⟨h', 0, none⟩) (xs.length + 1) cap') (xs.length + 1) (ints xs ++ [.int .i64 c])) (gr : (w.alloc (.cells #[.int .i64 c] 2)).grownBy w' (some h))
    (hh : h' = h ∨ h' = w.heap.size + 1) :
    KAt (w'.setCell ⟨g, 2, none⟩ (.slice (some ⟨h', 0, none⟩) (xs.length + 1) cap')) B g every most h' cap' (xs ++ [c]) ∧ Fr g h w (w'.setCell ⟨g, 2, none⟩ (.slice (some ⟨h', 0, none⟩) (xs.length + 1) cap')) := by
  have hlt := k.lt
  have hne : h' ≠ g := by rcases hh with rfl | rfl; exact k.ne; omega
  have og : w'.heap[g]? = some (.cells #[.int .i64 every, .int .i64 most, .slice (some ⟨h, 0, none⟩) xs.length cap] 42 (0, 0)) := by
    rw [gr.block g (by simp; omega) (by intro e; injection e with e; exact k.ne e.symm), Below.heap_alloc _ _ _ hlt]; exact k.obj
  refine ⟨⟨?_, ?_, hne, k.ge⟩, ⟨?_, ?_, ?_, ?_, ?_⟩⟩
  · simp [World.setCell, Array.getElem?_modify, og]
  · rw [show (xs ++ [c]).length = xs.length + 1 from by simp, show ints (xs ++ [c]) = ints xs ++ [.int .i64 c] from by simp [ints]]
    exact ownsRow_setCell_other own (by simp [Value.ownBlock]; exact hne) _
  · exact gr.os
  · exact gr.tape
  · exact gr.output
  · have := gr.size; simp [World.setCell] at this ⊢; omega
  · intro i hi h1 h2
    rw [Below.heap_setCell _ _ _ _ h1, gr.block i (by simp; omega) (by intro e; injection e with e; exact h2 e), Below.heap_alloc _ _ _ hi]
theorem c2_of {w w' : World} {B g : Nat} {every most : Int} {h cap : Nat} {xs : List Int} {c : Int} (k : KAt w B g every most h cap xs) (gr : (w.alloc (.cells #[.int .i64 c] 2)).grownBy w' (some h)) :
    w'.cell? ⟨g, 2, none⟩ = some (.slice (some ⟨h, 0, none⟩) xs.length cap) ∧ w'.frozen? ⟨g, 2, none⟩ = false := by
  have hlt := k.lt
  have og : w'.heap[g]? = some (.cells #[.int .i64 every, .int .i64 most, .slice (some ⟨h, 0, none⟩) xs.length cap] 42 (0, 0)) := by
    rw [gr.block g (by simp; omega) (by intro e; injection e with e; exact k.ne e.symm), Below.heap_alloc _ _ _ hlt]; exact k.obj
  exact ⟨by simp [World.cell?, og], by simp [World.frozen?, og]⟩
set_option maxHeartbeats 2000000 in
theorem add_room (c : Int) {w : World} {B g : Nat} {every most : Int} {h cap : Nat} {xs : List Int} (k : KAt w B g every most h cap xs) (h1 : 1 ≤ every) (hx : 0 < xs.length) (hxl : xs.length ≤ 900) (hc : -9223372036854775808 ≤ c) (hc2 : c ≤ 9223372036854775807)
    (hw : wantsB every c xs = true) (hm : (xs.length : Int) + 1 ≤ most) :
    Calls Try.prog 10 #[.pointer (some ⟨g, 0, none⟩), .int .i64 c] w fun e w' => e = .returned (.tuple #[.slice none 0 0, .int .i64 0]) ∧ ∃ h' cap', KAt w' B g every most h' cap' (xs ++ [c]) ∧ Fr g h w w' ∧ (h' = h ∨ w.heap.size ≤ h') := by
  have W := Lib.hid (wants_any c k h1 hx (by omega) hc hc2)
  have HW := Lib.hid hw; clear hw
  have hBw : B ≤ w.heap.size := by have := k.ge; have := k.lt; omega
  have KK := Lib.hid k; clear k
  obtain ⟨i0, hi0, hz0, hz1, hz2⟩ := info_parts info2
  go_enter Try.func10, Try.ntmps10
  go_wp2_with fail
  refine W.out.mono ?_; rintro e w1 ⟨rfl, n, rfl⟩
  rw [HW.out]
  have c2 := (KK.out.drewN n).c2
  have own := (KK.out.drewN n).own
  have OWN := Lib.hid own; clear own
  go_wp2_with (at_builtin; refine wpList_append_at rfl (.tmp 16) (.tmp 18) 22 rfl B 2 i0 (.int .i64 0) 1 8 Try.underlying22 hi0 hz0 hz1 hz2 rfl (by decide) _ _ _ (ints xs) rfl (OWN.out.alloc _) ⟨w.heap.size, 0, none⟩ 1 1 [.int .i64 c] rfl rfl ?c1 ?c2 (by unfold maxLen; omega) (by omega) (by simp; omega) ?_)
  case c1 =>
    intro j u hj
    match j, hj with
    | 0, hj => simp at hj; subst hj; exact new_cell (w.drewN n) _ 2
  case c2 => intro u hu; simp at hu; subst hu; rfl
  intro h' cap' w2 own2 gr2 hh
  have cc := c2_of (KK.out.drewN n) gr2
  obtain ⟨k3, f3⟩ := app_own (KK.out.drewN n) own2 gr2 (by simpa using hh)
  have K3 := Lib.hid k3
  have F3 := Lib.hid f3
  obtain ⟨ca, cb⟩ := cc
  clear k3 f3 own2 gr2 c2
  have HH := Lib.hid hh; clear hh
  go_wp2
  obtain ⟨wA, hwA⟩ : ∃ wA, wA = w2.setCell ⟨g, 2, none⟩ (.slice (some ⟨h', 0, none⟩) (xs.length + 1) cap') := ⟨_, rfl⟩
  rw [← hwA] at K3 F3 ⊢
  have HWA := Lib.hid hwA
  clear hwA ca cb
  have d1 := K3.out.c1
  have d2 := K3.out.c2
  rw [show (xs ++ [c]).length = xs.length + 1 from by simp] at d2
  go_quiet (fail)
  go_wp2
  go_ret2
  refine ⟨rfl, h', cap', K3.out.drewN _, ?_, ?_⟩
  · exact ⟨F3.out.os, F3.out.tape, F3.out.output, F3.out.size, F3.out.block⟩
  · rcases HH.out with e | e
    · exact .inl e
    · right; rw [e]; simp
set_option maxHeartbeats 2000000 in
theorem add_drop (c : Int) {w : World} {B g : Nat} {every most : Int} {h cap : Nat} {xs ys : List Int} (hys : ys = xs ++ [c]) (k : KAt w B g every most h cap xs) (h1 : 1 ≤ every) (hx : 0 < xs.length) (hxl : xs.length ≤ 900) (hc : -9223372036854775808 ≤ c) (hc2 : c ≤ 9223372036854775807)
    (hw : wantsB every c xs = true) (hx1 : 2 ≤ xs.length) (hm : most < (xs.length : Int) + 1) :
    Calls Try.prog 10 #[.pointer (some ⟨g, 0, none⟩), .int .i64 c] w fun e w' => ∃ b, e = .returned (.tuple #[.slice (some ⟨b, 0, none⟩) 1 1, .int .i64 0]) ∧ w.heap.size ≤ b ∧ w'.heap[b]? = some (.cells #[.int .i64 (ys.getD (bestGo ys (xs.length - 2)) 0)] 2 (0, 0)) ∧
      ∃ h' cap', KAt w' B g every most h' cap' (ys.eraseIdx (bestGo ys (xs.length - 2))) ∧ Fr g h w w' ∧ (h' = h ∨ w.heap.size ≤ h') := by
  have hyl : ys.length = xs.length + 1 := by rw [hys]; simp
  have HYS := Lib.hid hys; clear hys
  have HYL := Lib.hid hyl; clear hyl
  have W := Lib.hid (wants_any c k h1 hx (by omega) hc hc2)
  have HW := Lib.hid hw; clear hw
  have hBw : B ≤ w.heap.size := by have := k.ge; have := k.lt; omega
  have KK := Lib.hid k; clear k
  obtain ⟨i0, hi0, hz0, hz1, hz2⟩ := info_parts info2
  go_enter Try.func10, Try.ntmps10
  go_wp2_with fail
  refine W.out.mono ?_; rintro e w1 ⟨rfl, n, rfl⟩
  rw [HW.out]
  have c2 := (KK.out.drewN n).c2
  have own := (KK.out.drewN n).own
  have OWN := Lib.hid own; clear own
  go_wp2_with (at_builtin; refine wpList_append_at rfl (.tmp 16) (.tmp 18) 22 rfl B 2 i0 (.int .i64 0) 1 8 Try.underlying22 hi0 hz0 hz1 hz2 rfl (by decide) _ _ _ (ints xs) rfl (OWN.out.alloc _) ⟨w.heap.size, 0, none⟩ 1 1 [.int .i64 c] rfl rfl ?c1 ?c2 (by unfold maxLen; omega) (by omega) (by simp; omega) ?_)
  case c1 =>
    intro j u hj
    match j, hj with
    | 0, hj => simp at hj; subst hj; exact new_cell (w.drewN n) _ 2
  case c2 => intro u hu; simp at hu; subst hu; rfl
  intro h' cap' w2 own2 gr2 hh
  have cc := c2_of (KK.out.drewN n) gr2
  obtain ⟨k3, f3⟩ := app_own (KK.out.drewN n) own2 gr2 (by simpa using hh)
  have K3 := Lib.hid k3
  have F3 := Lib.hid f3
  obtain ⟨ca, cb⟩ := cc
  clear k3 f3 own2 gr2 c2
  have HH := Lib.hid hh; clear hh
  go_wp2
  obtain ⟨wA, hwA⟩ : ∃ wA, wA = w2.setCell ⟨g, 2, none⟩ (.slice (some ⟨h', 0, none⟩) (xs.length + 1) cap') := ⟨_, rfl⟩
  rw [← hwA] at K3 F3 ⊢
  have HWA := Lib.hid hwA
  clear hwA ca cb
  have d1 := K3.out.c1
  have d2 := K3.out.c2
  rw [← HYS.out] at K3
  rw [show (xs ++ [c]).length = xs.length + 1 from by simp] at d2
  have CX := Lib.hid (fun j hj => K3.out.cx j hj)
  go_quiet (fail)
  go_wp2
  go_loopw [6, 7] (fun b i w' => ∃ m j nd : Nat, 2 ≤ j ∧ j ≤ xs.length ∧ i = .int .i64 j ∧ b = .int .i64 m ∧ 1 ≤ m ∧ m < xs.length ∧ w' = wA.drewN nd ∧ Hid (m = bestGo ys (j - 2))) (fun _ i _ => xs.length - (intOf i).toNat)
  case atStart => exact ⟨1, 2, nq, by omega, by omega, rfl, rfl, by omega, by omega, rfl, Lib.hid rfl⟩
  case round =>
    obtain ⟨m, j, nd, hj2, hjn, rfl, rfl, hm1, hmn, rfl, hb⟩ := hrel
    by_cases hlt : j < xs.length
    · have x1 := CX.out (j + 1) (by rw [HYL.out]; omega)
      have x2 := CX.out (j - 1) (by rw [HYL.out]; omega)
      have x3 := CX.out (m + 1) (by rw [HYL.out]; omega)
      have x4 := CX.out (m - 1) (by rw [HYL.out]; omega)
      obtain ⟨y1, e1⟩ : ∃ y, y = ys.getD (j + 1) 0 := ⟨_, rfl⟩
      obtain ⟨y2, e2⟩ : ∃ y, y = ys.getD (j - 1) 0 := ⟨_, rfl⟩
      obtain ⟨y3, e3⟩ : ∃ y, y = ys.getD (m + 1) 0 := ⟨_, rfl⟩
      obtain ⟨y4, e4⟩ : ∃ y, y = ys.getD (m - 1) 0 := ⟨_, rfl⟩
      rw [← e1] at x1; rw [← e2] at x2; rw [← e3] at x3; rw [← e4] at x4
      have D1 : Hid (diffX ys j = wrap64 (y1 - y2)) := Lib.hid (by unfold diffX; rw [← e1, ← e2])
      have D2 : Hid (diffX ys m = wrap64 (y3 - y4)) := Lib.hid (by unfold diffX; rw [← e3, ← e4])
      clear e1 e2 e3 e4
      by_cases hd : wrap64 (y1 - y2) < wrap64 (y3 - y4)
      · have HN : Hid (j = bestGo ys (j + 1 - 2)) := Lib.hid (by
          rw [show j + 1 - 2 = (j - 2) + 1 from by omega]; simp only [bestGo]
          rw [show j - 2 + 2 = j from by omega, ← hb.out, D1.out, D2.out, if_pos hd])
        go_wp2
        go_quiet (fail)
        go_wp2
        go_roundw
        case rel => exact ⟨j, j + 1, _, by omega, by omega, by go_num, rfl, by omega, by omega, rfl, HN⟩
        case measure => simp [intOf]; omega
      · have HN : Hid (m = bestGo ys (j + 1 - 2)) := Lib.hid (by
          rw [show j + 1 - 2 = (j - 2) + 1 from by omega]; simp only [bestGo]
          rw [show j - 2 + 2 = j from by omega, ← hb.out, D1.out, D2.out, if_neg hd])
        have hd2 : decide (wrap64 (y1 - y2) < wrap64 (y3 - y4)) = false := decide_eq_false hd
        clear hd
        go_wp2
        go_quiet (fail)
        go_wp2
        go_roundw
        case rel => exact ⟨m, j + 1, _, by omega, by omega, by go_num, rfl, by omega, by omega, rfl, HN⟩
        case measure => simp [intOf]; omega
    · have x1 := CX.out m (by rw [HYL.out]; omega)
      obtain ⟨y1, e1⟩ : ∃ y, y = ys.getD m 0 := ⟨_, rfl⟩
      rw [← e1] at x1
      have E1 := Lib.hid e1; clear e1
      have hge : xs.length ≤ j := by omega
      clear hlt
      obtain ⟨w5, hw5⟩ : ∃ w5, w5 = (wA.drewN nd).alloc (Obj.cells #[Value.int IntKind.i64 y1] 2) := ⟨_, rfl⟩
      have k5 : KAt w5 B g every most h' cap' ys := by rw [hw5]; exact (K3.out.drewN nd).below ((Below.refl _ _).alloc (Nat.le_refl _) _)
      have z2 : ((wA.drewN nd).alloc (Obj.cells #[Value.int IntKind.i64 y1] 2)).cell? ⟨g, 2, none⟩ = some (.slice (some ⟨h', 0, none⟩) (xs.length + 1) cap') := by rw [← hw5, k5.c2, HYL.out]
      have K5 := Lib.hid k5; clear k5
      have HW5 := Lib.hid hw5; clear hw5
      have o5 : w5.ownsRow B 2 1 (.slice (some ⟨h', 0, none⟩) (xs.length + 1) cap') (xs.length + 1) (ints ys) := by have := K5.out.own; rw [HYL.out] at this; exact this
      have O5 := Lib.hid o5; clear o5
      go_wp2_with fail
      rw [← HW5.out]
      refine (del_own O5.out m (by omega)).mono ?_
      rintro e w6 ⟨rfl, own6, gr6⟩
      have hng := K5.out.ne
      have og : w6.heap[g]? = some (.cells #[.int .i64 every, .int .i64 most, .slice (some ⟨h', 0, none⟩) ys.length cap'] 42 (0, 0)) := by
        rw [gr6.block g K5.out.lt (by intro e; injection e with e; exact hng e.symm)]; exact K5.out.obj
      have zc : w6.cell? ⟨g, 2, none⟩ = some (.slice (some ⟨h', 0, none⟩) ys.length cap') := by simp [World.cell?, og]
      have zf : w6.frozen? ⟨g, 2, none⟩ = false := by simp [World.frozen?, og]
      have OWN6 := Lib.hid own6; clear own6
      have GR6 := Lib.hid gr6; clear gr6
      have OG := Lib.hid og; clear og
      have HNG := Lib.hid hng; clear hng
      go_wp2
      go_ret2
      have hb := hb.out
      obtain rfl : j = xs.length := by omega
      have hAw : wA.heap.size + 1 = w5.heap.size := by rw [HW5.out]; simp
      have hh'A := K3.out.hlt
      have hgA := K3.out.lt
      refine ⟨wA.heap.size, rfl, F3.out.size, ?_, h', cap', ⟨?_, ?_, HNG.out, K3.out.ge⟩, ⟨?_, ?_, ?_, ?_, ?_⟩, ?_⟩
      · rw [Below.heap_setCell _ _ _ _ (by show wA.heap.size ≠ g; omega), GR6.out.block _ (by omega) (by intro e; injection e with e; omega), HW5.out]
        rw [← hb, ← E1.out]
        exact (MapKept.heap_alloc (wA.drewN nd) (Obj.cells #[Value.int .i64 y1] 2)).1
      · have hel : (ys.eraseIdx (bestGo ys (xs.length - 2))).length = xs.length := by rw [List.length_eraseIdx, ← hb, if_pos (by rw [HYL.out]; omega), HYL.out]; omega
        rw [hel]
        simp [World.setCell, Array.getElem?_modify, OG.out]
      · have hel : (ys.eraseIdx (bestGo ys (xs.length - 2))).length = xs.length := by rw [List.length_eraseIdx, ← hb, if_pos (by rw [HYL.out]; omega), HYL.out]; omega
        rw [hel, ← hb]
        have := OWN6.out
        rw [show xs.length + 1 - 1 = xs.length from by omega] at this
        exact ownsRow_setCell_other this (by simp [Value.ownBlock]; exact HNG.out) _
      · exact (GR6.out.os.trans (by rw [HW5.out]; rfl)).trans F3.out.os
      · exact (GR6.out.tape.trans (by rw [HW5.out]; rfl)).trans F3.out.tape
      · exact (GR6.out.output.trans (by rw [HW5.out]; rfl)).trans F3.out.output
      · have a := GR6.out.size; have b : w.heap.size ≤ wA.heap.size := F3.out.size
        show w.heap.size ≤ (w6.setCell _ _).heap.size
        simp [World.setCell]; omega
      · intro i hi h1 h2
        have hne : i ≠ h' := by rcases HH.out with e | e; omega; rw [e]; simp; omega
        have b : w.heap.size ≤ wA.heap.size := F3.out.size
        rw [Below.heap_setCell _ _ _ _ h1, GR6.out.block i (by omega) (by intro e; injection e with e; exact hne e), HW5.out, Below.heap_alloc _ _ _ (by show i < wA.heap.size; omega)]
        exact F3.out.block i hi h1 h2
      · rcases HH.out with e | e
        · exact .inl e
        · right; rw [e]; simp
end Go.Proofs.Ytonnadedbbfapaa
