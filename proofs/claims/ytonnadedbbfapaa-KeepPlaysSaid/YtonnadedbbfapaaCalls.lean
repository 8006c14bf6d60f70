import Derived.Test.YtonnadedbbfapaaAdd
namespace Go.Proofs.Ytonnadedbbfapaa
open Go.ChangeShapes Go.WideShapes Go.ChangeAt Go.RowKit
theorem below_drewN (w : World) (n : Nat) : Below w.heap.size w (w.drewN n) := ⟨rfl, rfl, rfl, Nat.le_refl _, fun _ _ => rfl⟩
theorem below_alloc (w : World) (o : Obj) : Below w.heap.size w (w.alloc o) := (Below.refl _ _).alloc (Nat.le_refl _) _
/-- a slice of int64 that reads xs. -/
def Rd (w : World) (b off : Nat) (xs : List Int) : Prop := ∀ j, j < xs.length → w.cell? ⟨b, off + j, none⟩ = some (.int .i64 (xs.getD j 0))
theorem ext_getD {xs ys : List Int} (hl : xs.length = ys.length) (h : ∀ j, j < xs.length → xs.getD j 0 = ys.getD j 0) : xs = ys := by
  apply List.ext_getElem hl
  intro i h1 h2
  have := h i h1
  simpa [h1, h2] using this
set_option maxHeartbeats 1000000 in
theorem counts_any {w : World} {ba oa ca bb ob cb : Nat} {xs ys : List Int} (hx : Rd w ba oa xs) (hy : Rd w bb ob ys) (hl : xs.length ≤ 2000) :
    Calls Try.prog 12 #[.slice (some ⟨ba, oa, none⟩) xs.length ca, .slice (some ⟨bb, ob, none⟩) ys.length cb] w fun e w' => e = .returned (.bool (decide (xs = ys))) ∧ ∃ n, w' = w.drewN n := by
  have HX := Lib.hid hx; clear hx
  have HY := Lib.hid hy; clear hy
  by_cases hle : xs.length = ys.length
  · have HL := Lib.hid hle
    have hb : (((xs.length : Nat) : Int) != ((ys.length : Nat) : Int)) = false := by rw [hle]; simp
    clear hle
    go_enter Try.func12, Try.ntmps12
    go_wp2
    go_loopw [5] (fun i w' => ∃ k nd : Nat, k ≤ xs.length ∧ i = .int .i64 k ∧ w' = w.drewN nd ∧ Hid (∀ j, j < k → xs.getD j 0 = ys.getD j 0)) (fun i _ => xs.length - (intOf i).toNat)
    case atStart => exact ⟨0, 0, by omega, rfl, rfl, Lib.hid (fun j hj => by omega)⟩
    case round =>
      obtain ⟨k, nd, hk, rfl, rfl, hp⟩ := hrel
      by_cases hlt : k < xs.length
      · have cx := HX.out k hlt
        have cy := HY.out k (by rw [← HL.out]; exact hlt)
        have hly : k < ys.length := by rw [← HL.out]; exact hlt
        obtain ⟨x, ex⟩ : ∃ x, x = xs.getD k 0 := ⟨_, rfl⟩
        obtain ⟨y, ey⟩ : ∃ y, y = ys.getD k 0 := ⟨_, rfl⟩
        rw [← ex] at cx; rw [← ey] at cy
        have EX := Lib.hid ex; have EY := Lib.hid ey; clear ex ey
        by_cases hxy : x = y
        · have HN : Hid (∀ j, j < k + 1 → xs.getD j 0 = ys.getD j 0) := Lib.hid (fun j hj => by
            by_cases hjk : j = k
            · subst hjk; rw [← EX.out, ← EY.out]; exact hxy
            · exact hp.out j (by omega))
          have hbn : (x != y) = false := by rw [hxy]; simp
          clear hxy
          go_wp2
          go_quiet (fail)
          go_wp2
          go_roundw
          case rel => exact ⟨k + 1, _, by omega, by go_num, rfl, HN⟩
          case measure => simp [intOf]; omega
        · have hbn : (x != y) = true := by rw [bne_iff_ne]; exact hxy
          have HF : Hid (decide (xs = ys) = false) := Lib.hid (decide_eq_false (fun e => hxy (by rw [EX.out, EY.out, e])))
          clear hxy
          go_wp2
          go_quiet (fail)
          go_wp2
          go_ret
          rw [HF.out]
          exact ⟨rfl, nd + nq, by first | rfl | simp⟩
      · have HT : Hid (decide (xs = ys) = true) := Lib.hid (decide_eq_true (ext_getD HL.out (fun j hj => hp.out j (by omega))))
        have hge : xs.length ≤ k := by omega
        clear hlt
        go_wp2
        go_ret
        rw [HT.out]
        exact ⟨rfl, _, rfl⟩
  · have hb : (((xs.length : Nat) : Int) != ((ys.length : Nat) : Int)) = true := by rw [bne_iff_ne]; omega
    rw [show decide (xs = ys) = false from decide_eq_false (fun e => hle (by rw [e]))]
    clear hle
    go_enter Try.func12, Try.ntmps12
    go_wp2
    go_ret
    exact ⟨rfl, 0, rfl⟩
theorem Rd.below {w w' : World} {b off : Nat} {xs : List Int} (h : Rd w b off xs) (hb : Below w.heap.size w w') (hlt : b < w.heap.size) : Rd w' b off xs := fun j hj => by
  rw [hb.cell (p := ⟨b, off + j, none⟩) hlt]; exact h j hj
theorem rd_new (w : World) (xs : List Int) (t : TypeId) : Rd (w.alloc (.cells (ints xs).toArray t)) w.heap.size 0 xs := fun j hj => by
  have := (MapKept.heap_alloc w (Obj.cells (ints xs).toArray t)).1
  unfold World.cell?
  rw [this]
  simp [ints, hj]
theorem rd_obj {w : World} {b : Nat} {x : Int} (h : w.heap[b]? = some (.cells #[.int .i64 x] 2 (0, 0))) : Rd w b 0 [x] ∧ b < w.heap.size := by
  refine ⟨fun j hj => ?_, ?_⟩
  · obtain rfl : j = 0 := by simp at hj; exact hj
    simp [World.cell?, h]
  · by_cases hh : b < w.heap.size
    · exact hh
    · rw [Array.getElem?_eq_none (by omega)] at h; cases h
theorem rd_own {w : World} {B h n cap : Nat} {xs : List Int} (own : w.ownsRow B 2 1 (.slice (some ⟨h, 0, none⟩) n cap) n (ints xs)) (hn : n = xs.length) : Rd w h 0 xs := by
  intro j hj
  rw [Nat.zero_add, own.cellAt j (by omega)]; simp [ints, hj]
theorem kept_any {w : World} {B g : Nat} {every most : Int} {h cap : Nat} {xs : List Int} (k : KAt w B g every most h cap xs) (hx : 0 < xs.length) (hxl : xs.length ≤ 2000) :
    Calls Try.prog 13 #[.pointer (some ⟨g, 0, none⟩)] w fun e w' => ∃ r cr, e = .returned (.slice (some ⟨r, 0, none⟩) xs.length cr) ∧ Rd w' r 0 xs ∧ w.heap.size ≤ r ∧ r < w'.heap.size ∧ Below w.heap.size w w' := by
  obtain ⟨i0, hi0, hz0, hz1, hz2⟩ := info_parts info2
  have c2 := k.c2
  have cl := Try.slices_Clone i0 (.int .i64 0) 1 8 hi0 hz0 hz1 hz2 rfl (by decide) (fun _ => by kernel_rfl) h 0 xs.length cap (ints xs) w (by simp [ints]) (by unfold maxLen; omega) (by omega)
    (fun j u hj => by
      have hjl : j < xs.length := by have := (List.getElem?_eq_some_iff.1 hj).1; simpa [ints] using this
      rw [Nat.zero_add, k.own.cellAt j (by omega)]; exact hj) (fun u hu => by simp [ints] at hu; obtain ⟨x, _, rfl⟩ := hu; rfl)
  have CL := Lib.hid cl; clear cl
  go_enter Try.func13, Try.ntmps13
  go_wp2_with fail
  refine CL.out.mono ?_
  rintro e w' ⟨v', rfl, own, hne, hb⟩
  go_wp2
  go_ret
  obtain ⟨r, cr, rfl, hr1, hr2, _, _, _, _⟩ := Lib.holds_of_ownsRow own hne
  exact ⟨r, cr, rfl, rd_own own rfl, hr1, hr2, hb⟩
/-- what a call may turn, once more: all of it from block B on. -/
theorem fr_below {g h B : Nat} {w w' : World} {every most : Int} {cap : Nat} {xs : List Int} (k : KAt w B g every most h cap xs) (f : Fr g h w w') : Below B w w' :=
  f.below k.ge k.hlt.1 (by have := k.ge; have := k.lt; omega)
set_option maxRecDepth 100000 in
set_option maxHeartbeats 4000000 in
theorem awake (w : World) : Calls Try.prog 6 #[] w fun e w' => e = .returned (.bool true) ∧ Below w.heap.size w w' := by
  go_enter Try.func6, Try.ntmps6
  go_wp2_with fail
  refine (new_good 1 2 _ (by omega) (by omega) (by omega) (by omega)).mono ?_
  rintro e w1 ⟨rfl, k1, b1⟩
  have K1 := Lib.hid k1; clear k1
  go_wp2_with fail
  refine (add_room 1 K1.out (by omega) (by simp) (by simp) (by omega) (by omega) (by decide +kernel) (by simp)).mono ?_
  rintro e w2 ⟨rfl, h2, cap2, k2, f2, hh2⟩
  have K2 := Lib.hid k2; clear k2
  have F2 := Lib.hid f2; clear f2
  have HH2 := Lib.hid hh2; clear hh2
  go_wp2_with fail
  refine (add_drop 2 (ys := [0, 1, 2]) rfl K2.out (by omega) (by simp) (by simp) (by omega) (by omega) (by decide +kernel) (by simp) (by simp)).mono ?_
  rintro e w3 ⟨b, rfl, hb, hob, h3, cap3, k3, f3, hh3⟩
  rw [show bestGo [0, 1, 2] (([0] ++ [1] : List Int).length - 2) = 1 from by decide +kernel] at hob k3
  have K3 : Hid (KAt w3 w.heap.size (w.heap.size + 1) 1 2 h3 cap3 [0, 2]) := Lib.hid k3
  clear k3
  have F3 := Lib.hid f3; clear f3
  have HOB := Lib.hid hob; clear hob
  have HH3 := Lib.hid hh3; clear hh3
  have F23 : Below w.heap.size w w3 := b1.trans ((fr_below K1.out F2.out).trans (fr_below K2.out F3.out))
  go_wp2_with fail
  obtain ⟨rb, hblt⟩ := rd_obj HOB.out
  obtain ⟨w4, hw4⟩ : ∃ w4, w4 = w3.alloc (Obj.cells #[Value.int IntKind.i64 1] 2) := ⟨_, rfl⟩
  have B4 : Below w3.heap.size w3 w4 := by rw [hw4]; exact below_alloc _ _
  have r1 : Rd w4 b 0 [1] := rb.below B4 hblt
  have r2 : Rd w4 w3.heap.size 0 [1] := by rw [hw4]; exact rd_new w3 [1] 2
  rw [← hw4]
  refine (counts_any r1 r2 (by simp)).mono ?_
  rintro e w5 ⟨rfl, n5, rfl⟩
  rw [show decide (([1] : List Int) = [1]) = true from by decide]
  have K4 := Lib.hid ((K3.out.below B4).drewN n5)
  clear r1 r2 rb hw4
  go_wp2_with fail
  refine (kept_any K4.out (by simp) (by simp)).mono ?_
  rintro e w6 ⟨r, cr, rfl, hr, hr1, hr2, hb6⟩
  have K6 := Lib.hid (K4.out.below hb6)
  go_wp2_with fail
  obtain ⟨w7, hw7⟩ : ∃ w7, w7 = w6.alloc (Obj.cells #[Value.int IntKind.i64 0, Value.int IntKind.i64 2] 2) := ⟨_, rfl⟩
  have B7 : Below w6.heap.size w6 w7 := by rw [hw7]; exact below_alloc _ _
  have r1 : Rd w7 r 0 [0, 2] := hr.below B7 hr2
  have r2 : Rd w7 w6.heap.size 0 [0, 2] := by rw [hw7]; exact rd_new w6 [0, 2] 2
  rw [← hw7]
  refine (counts_any r1 r2 (by simp)).mono ?_
  rintro e w8 ⟨rfl, n8, rfl⟩
  rw [show decide (([0, 2] : List Int) = [0, 2]) = true from by decide]
  have K8 := Lib.hid ((K6.out.below B7).drewN n8)
  clear r1 r2 hr hw7
  go_wp2_with fail
  refine (gap_any K8.out (by simp) (by simp)).mono ?_
  rintro e w9 ⟨rfl, n9, rfl⟩
  rw [show gapGo [0, 2] (([0, 2] : List Int).length - 1) = 2 from by simp [gapGo]; unfold wrap64; decide]
  have K9 := Lib.hid ((K6.out.below B7).drewN (n8 + n9))
  go_wp2_with fail
  refine (before_any 1 K9.out (by simp)).mono ?_
  rintro e w10 ⟨rfl, rfl⟩
  rw [show beforeGo 1 [0, 2] ([0, 2] : List Int).length = 0 from by decide]
  go_wp2
  go_ret
  have B45 : Below w.heap.size w (w4.drewN n5) := (F23.trans (B4.mono F23.size)).trans ((below_drewN w4 n5).mono (by have := F23.size; have := B4.size; omega))
  have B6 : Below w.heap.size w w6 := B45.trans (hb6.mono B45.size)
  have B7' : Below w.heap.size w w7 := B6.trans (B7.mono B6.size)
  exact ⟨rfl, ⟨B7'.os, B7'.tape, B7'.output, B7'.size, B7'.block⟩⟩
end Go.Proofs.Ytonnadedbbfapaa
