import Derived.Test.YtknpgmbniohcnaaAw
namespace Go.Proofs.Ytknpgmbniohcnaa
open Go.ChangeShapes Go.WideShapes Go.ChangeAt Go.RowKit
set_option linter.unusedVariables false
theorem colM_nil (m : Hm) : (colM m []).ws = [] ∧ (colM m []).room = m.room ∧ (colM m []).st = [] := by
  have e : colS m [] = s0 m := by
    unfold colS
    exact scanF_done (by simp [rootsF, s0])
  simp [colM, e, s0]
def nums (n : Nat) : List Int := (List.range n).map (fun i : Nat => numW (i : Int))
theorem nums_len (n : Nat) : (nums n).length = n := by simp [nums]
theorem nums_at {n i : Nat} (h : i < n) : (nums n)[i]'(by rw [nums_len]; exact h) = numW i := by simp [nums]
theorem nums_odd {n : Nat} {x : Int} (h : x ∈ nums n) : U64 x ∧ x % 2 = 1 := by
  simp only [nums, List.mem_map, List.mem_range] at h
  obtain ⟨i, hi, rfl⟩ := h
  unfold numW U64; omega
theorem nums_fit (m : Hm) (n : Nat) : (nums n).all (fitsB m) = true := List.all_eq_true.2 fun x hx => by
  unfold fitsB; rw [(nums_odd hx).2]; rfl
theorem nums_head {n : Nat} (h : n ≤ 50) : headB 2 3 n = true := decide_eq_true (by unfold headP; omega)
theorem room_make {m : Hm} {n : Nat} (h : n ≤ 50) : makeE m 2 3 (nums n) = if m.room < m.ws.length + n + 1 then 8 else 0 := by
  unfold makeE
  rw [nums_len, nums_head h, nums_fit]
  rfl
theorem room_makeM {m : Hm} {n : Nat} (h : n ≤ 50) (h2 : ¬ m.room < m.ws.length + n + 1) : (makeM m 2 3 (nums n)).room = m.room ∧ (makeM m 2 3 (nums n)).ws.length = m.ws.length + n + 1 := by
  unfold makeM
  rw [room_make h, if_neg h2, if_pos rfl]
  simp [Hm.add, nums_len]; omega
theorem frm_frm {w w' : World} {B H o n : Nat} {m : Hm} (h : HpAt w B H o m) (f : Frm w w' (HR w H o)) (hH : n ≤ H) (hB : n ≤ B) (hn : n ≤ w.heap.size) : Below n w w' := frm_ge h f hH hB hn
/-- a row of words that a walk holds beside a heap. -/
structure WRow (w : World) (D : Nat) (n : Nat) (xs : List Int) : Prop where
  own : w.ownsRow 0 28 1 (.slice (some ⟨D, 0, none⟩) n n) n (wd xs)
theorem WRow.inW {w : World} {D n : Nat} {xs : List Int} (h : WRow w D n xs) : InW w (some ⟨D, 0, none⟩) n xs := ⟨fun e => (by cases e), fun ad had => by
  injection had with had; subst had
  refine ⟨D, 0, rfl, (h.own.lt D rfl).2, fun j hj => ?_⟩
  have hl : xs.length = n := by have := h.own.1; rw [wd_len] at this; omega
  rw [Nat.zero_add]
  exact (h.own.cellAt j (by omega)).trans (wd_at xs j hj)⟩
theorem WRow.frm {w w' : World} {D n : Nat} {xs : List Int} {R : Nat → Prop} (h : WRow w D n xs) (f : Frm w w' R) (hD : ¬ R D) : WRow w' D n xs := ⟨own_frm h.own f (fun k hk hr => by simp [Value.ownBlock] at hk; subst hk; exact hD hr)⟩
set_option maxRecDepth 100000 in
set_option maxHeartbeats 8000000 in
theorem room_walk (w : World) (room size : Int) (hs0 : -9223372036854775808 ≤ size) (hs1 : size ≤ 9223372036854775807) : Calls Try.prog 7 #[.int .i64 room, .int .i64 size] w fun e w' => e = .returned (.bool true) ∧ Below w.heap.size w w' := by
  obtain ⟨j0, hj0, hy0, hy1, hy2⟩ := info_parts info28
  have AW := Lib.hid (awake_any w)
  by_cases h0 : room < 16
  · have d0 := decide_eq_true h0
    clear hs0 hs1
    go_enter Try.func7, Try.ntmps7
    go_wp2_with fail
    refine AW.out.mono ?_; rintro e w1 ⟨rfl, b1⟩
    go_wp2
    go_ret
    exact ⟨rfl, b1⟩
  have d0 := decide_eq_false h0
  by_cases h1 : 2000 < room
  · have d1 := decide_eq_true h1
    clear hs0 hs1
    go_enter Try.func7, Try.ntmps7
    go_wp2_with fail
    refine AW.out.mono ?_; rintro e w1 ⟨rfl, b1⟩
    go_wp2
    go_ret
    exact ⟨rfl, b1⟩
  have d1 := decide_eq_false h1
  by_cases h2 : size < 0
  · have d2 := decide_eq_true h2
    clear hs0 hs1
    go_enter Try.func7, Try.ntmps7
    go_wp2_with fail
    refine AW.out.mono ?_; rintro e w1 ⟨rfl, b1⟩
    go_wp2
    go_ret
    exact ⟨rfl, b1⟩
  have d2 := decide_eq_false h2
  by_cases h3 : 50 < size
  · have d3 := decide_eq_true h3
    clear hs0 hs1
    go_enter Try.func7, Try.ntmps7
    go_wp2_with fail
    refine AW.out.mono ?_; rintro e w1 ⟨rfl, b1⟩
    go_wp2
    go_ret
    exact ⟨rfl, b1⟩
  have d3 := decide_eq_false h3
  obtain ⟨q, rfl⟩ : ∃ q : Nat, size = (q : Int) := ⟨size.toNat, by omega⟩
  have hq : q ≤ 50 := by omega
  have hqi : (q : Int) ≤ 50 := by omega
  have NW := Lib.hid (fun W => new_ok W room (by omega) (by omega))
  have hr0 : 16 ≤ room := by omega
  have hr1 : room ≤ 2000 := by omega
  clear h0 h1 h2 h3 hs0 hs1
  go_enter Try.func7, Try.ntmps7
  go_wp2_with fail
  refine AW.out.mono ?_; rintro e w1 ⟨rfl, b1⟩
  have B1 := Lib.hid b1
  clear b1 AW
  go_wp2_with fail
  refine (NW.out _).mono ?_; rintro e w2 ⟨rfl, -, b2, z2⟩
  clear NW
  go_wp2_with (at_make; refine wpList_make_full _ rfl (.tmp 34) (.tmp 34) 34 rfl 0 28 j0 (.int .u64 0) 1 Try.underlying34 hj0 hy0 hy1 .i64 .i64 q q q rfl rfl rfl rfl (by rw [hy2]; omega) (by unfold maxLen; omega) ?c1 ?_)
  case c1 => omega
  intro w3 own3 gr3
  have B3 := Lib.hid (show Below w2.heap.size w2 w3 from ⟨gr3.os, gr3.tape, gr3.output, gr3.size, fun i hi => gr3.block i hi (by simp)⟩)
  have HP3 := Lib.hid (z2.out.2 w3 w3.heap.size B3.out (Nat.le_refl _))
  have e3 : (madeCells #[.int .u64 0] q).toList = wd (List.replicate q 0) := by rw [toList_madeCells_one]; simp [wd]
  have WR3 : Hid (WRow w3 w2.heap.size q (nums 0 ++ List.replicate (q - 0) 0)) := Lib.hid ⟨by
    have e4 : nums 0 ++ List.replicate (q - 0) 0 = List.replicate q 0 := by simp [nums]
    rw [e4, ← e3]; exact own3⟩
  have BW3 := Lib.hid (bt (bt B1.out b2.out) B3.out)
  have SZ : Hid (w.heap.size ≤ w1.heap.size ∧ w1.heap.size < w2.heap.size ∧ w2.heap.size < w3.heap.size) := Lib.hid ⟨B1.out.size, by have := z2.out.1; omega, (own3.lt _ rfl).2⟩
  obtain ⟨H, hH⟩ : ∃ H, H = w1.heap.size := ⟨_, rfl⟩
  obtain ⟨D, hD⟩ : ∃ D, D = w2.heap.size := ⟨_, rfl⟩
  rw [← hH] at HP3 SZ ⊢
  rw [← hD] at WR3 SZ ⊢
  clear hH hD own3 gr3 e3 B3 z2 b2 B1
  go_wp2
  go_loopw [8] (fun i wr => ∃ k : Nat, k ≤ q ∧ i = .int .i64 k ∧ Hid (WRow wr D q (nums k ++ List.replicate (q - k) 0)) ∧ Hid (Frm w3 wr (fun b => b = D))) (fun i _ => q - (intOf i).toNat)
  case atStart => exact ⟨0, by omega, rfl, WR3, Lib.hid (Frm.refl _ _)⟩
  case round =>
    obtain ⟨k, hk, rfl, WR, FR⟩ := hrel
    clear WR3
    by_cases hlt : k < q
    · have hlti : (k : Int) < (q : Int) := by omega
      have NM := Lib.hid (fun W => num_any (k : Int) W)
      have fr : wr.frozen? ⟨D, k, none⟩ = false := WR.out.own.frozenAt k
      obtain ⟨y, hy⟩ : ∃ y, wr.cell? ⟨D, k, none⟩ = some y := by
        have hl2 := WR.out.own.1
        exact ⟨_, (WR.out.own.cellAt k (by omega)).trans (List.getElem?_eq_getElem (by omega))⟩
      obtain ⟨v, hv⟩ : ∃ v, v = numW (k : Int) := ⟨_, rfl⟩
      rw [← hv] at NM
      have HV := Lib.hid hv
      clear hv
      go_wp2_with fail
      refine (NM.out _).mono ?_; rintro e w4 ⟨rfl, rfl⟩
      go_wp2
      go_roundw
      case rel =>
        refine ⟨k + 1, by omega, by go_num, Lib.hid ⟨?_⟩, Lib.hid (FR.out.trans (frm_set k _ rfl))⟩
        have z := (WR.out.own.stored k (.int .u64 v)).1
        rw [show (wd (nums k ++ List.replicate (q - k) 0)).set k (.int .u64 v) = wd ((nums k ++ List.replicate (q - k) 0).set k v) from by simp [wd, List.map_set], set_mid (nums_len k) hlt] at z
        have e : nums (k + 1) = nums k ++ [v] := by rw [HV.out]; simp [nums, List.range_succ]
        rw [e]
        exact z
      case measure => simp [intOf]; omega
    · obtain rfl : k = q := by omega
      have WR4 : Hid (WRow wr D k (nums k)) := Lib.hid (by
        have z := WR.out
        rwa [Nat.sub_self, List.replicate_zero, List.append_nil] at z)
      have HP4 : Hid (HpAt wr w3.heap.size H 0 (emp room)) := Lib.hid (HP3.out.frm FR.out (fun b hb e => by
        have := SZ.out
        rcases HP3.out.ge hb with e2 | e2 <;> omega))
      have BW4 : Hid (Below w.heap.size w wr) := Lib.hid (BW3.out.trans (FR.out.below (fun b hb => by have := SZ.out; omega) BW3.out.size))
      have hli : ¬ (k : Int) < (k : Int) := by omega
      clear WR FR HP3 BW3 hlt hk hli
      go_wp2
      go_loopw [9] (fun i w4 => ∃ (t : Nat) (m : Hm), i = .int .i64 t ∧ t ≤ 2 ∧ Hid (m.room = room ∧ m.ws = []) ∧ Hid (HpAt w4 w3.heap.size H 0 m) ∧ Hid (WRow w4 D k (nums k)) ∧ Hid (Below w.heap.size w w4)) (fun i _ => 2 - (intOf i).toNat)
      case atStart => exact ⟨0, _, rfl, by omega, Lib.hid ⟨rfl, rfl⟩, HP4, WR4, BW4⟩
      case round =>
        obtain ⟨t, m, rfl, ht, HM, HP, WR, BW⟩ := hrel
        clear HP4 WR4 BW4
        by_cases ht2 : t < 2
        · have ht2i : (t : Int) < 2 := by omega
          obtain ⟨w4, hw4⟩ : ∃ w4, w4 = wr := ⟨_, rfl⟩
          subst hw4
          go_wp2
          go_loopw [10] (fun i w4 => ∃ (n L : Nat) (m : Hm), i = .int .i64 n ∧ (n : Int) ≤ room ∧ Hid (L = n * (k + 1)) ∧ (L : Int) ≤ room ∧ Hid (m.room = room ∧ m.ws.length = L) ∧ Hid (HpAt w4 w3.heap.size H 0 m) ∧ Hid (WRow w4 D k (nums k)) ∧ Hid (Below w.heap.size w w4)) (fun i _ => 2001 - (intOf i).toNat)
          case atStart => exact ⟨0, 0, m, rfl, by omega, Lib.hid (by omega), by omega, Lib.hid ⟨HM.out.1, by rw [HM.out.2]; rfl⟩, HP, WR, BW⟩
          case round =>
            obtain ⟨n, L, m2, rfl, hn, HL, hLr, HM2, HP2, WR2, BW2⟩ := hrel
            clear HP WR BW HM
            have MK : Hid (Calls Try.prog 11 #[.pointer (some ⟨H, 0, none⟩), .int .i64 2, .int .i64 3, .slice (some ⟨D, 0, none⟩) k k] wr fun e w' => e = .returned (.tuple #[.int .u64 (makeV m2 2 3 (nums k)), .int .i64 (makeE m2 2 3 (nums k))]) ∧ Hid (HpAt w' w3.heap.size H 0 (makeM m2 2 3 (nums k)) ∧ WRow w' D k (nums k) ∧ Below w.heap.size w w')) := Lib.hid (by
              have sz := SZ.out
              have z := make_any HP2.out (k := 2) (t := 3) WR2.out.inW (fun b n' c' hb off e => by
                injection e with e; injection e with e _
                rcases HP2.out.ge (.inr (.inl ⟨_, _, hb⟩)) with e2 | e2 <;> omega) (fun x hx => (nums_odd hx).1) (by rw [nums_len]; omega)
              rw [nums_len] at z
              refine z.mono fun e w' ⟨h1, h2, h3⟩ => ⟨h1, Lib.hid ⟨h2.out, WR2.out.frm h3.out (fun hr => ?_), BW2.out.trans (frm_ge HP2.out h3.out (by omega) (by omega) BW2.out.size)⟩⟩
              rcases HP2.out.ge hr with e2 | e2 <;> omega)
            have hnr := decide_eq_true hn
            by_cases hfull : room < (L : Int) + k + 1
            · have hE : makeE m2 2 3 (nums k) = 8 := by
                rw [room_make hq, HM2.out.1, HM2.out.2, if_pos hfull]
              have hM : makeM m2 2 3 (nums k) = m2 := by unfold makeM; rw [hE]; rfl
              obtain ⟨v, hv⟩ : ∃ v, v = makeV m2 2 3 (nums k) := ⟨_, rfl⟩
              rw [hE, hM, ← hv] at MK
              clear hE hM hv
              go_wp2_with fail
              refine MK.out.mono ?_; rintro e w5 ⟨rfl, H5⟩
              clear MK HP2 WR2 BW2
              have US := Lib.hid (used_any H5.out.1)
              rw [HM2.out.2] at US
              have hmul : (n : Int) * ((k : Int) + 1) = L := by rw [HL.out]; push_cast; rfl
              have hdiv : room.tdiv ((k : Int) + 1) = n := by
                rw [Int.tdiv_eq_ediv_of_nonneg (by omega)]
                exact ((Int.ediv_emod_unique (r := room - L) (show (0 : Int) < (k : Int) + 1 by omega)).2 ⟨by rw [Int.mul_comm, hmul]; omega, by omega, by omega⟩).1
              have hw1 : IntKind.i64.wrap ((k : Int) + 1) = (k : Int) + 1 := IntWalk.i64_in _ (by omega)
              have hw2 : IntKind.i64.wrap (n : Int) = n := IntWalk.i64_in _ (by omega)
              have hw3 : IntKind.i64.wrap (L : Int) = L := IntWalk.i64_in _ (by omega)
              have hk0 : ((k : Int) + 1 == 0) = false := beq_eq_false_iff_ne.2 (by omega)
              have CO := Lib.hid (collect_any H5.out.1 (A := none) (c := 0) (xs := []) ⟨fun _ => ⟨rfl, rfl⟩, fun ad h => by cases h⟩ (fun x hx => by cases hx) (by decide))
              go_wp2_with fail
              refine US.out.mono ?_; rintro e w6 ⟨rfl, rfl⟩
              go_wp2_with fail
              refine CO.out.mono ?_; rintro e w6 ⟨O, rfl, H6⟩
              go_wp2
              go_roundw
              case rel =>
                obtain ⟨c1, c2, -⟩ := colM_nil m2
                obtain ⟨q1, q2, q3, q4⟩ := H6.out
                have sz := SZ.out
                exact ⟨t + 1, colM m2 [], by go_num, by omega, Lib.hid ⟨c2.trans HM2.out.1, c1⟩, Lib.hid q1, Lib.hid (H5.out.2.1.frm q2 (by omega)), Lib.hid (H5.out.2.2.trans (q2.below (fun j hj => by omega) H5.out.2.2.size))⟩
              case measure => simp [intOf]; omega
            · have hE : makeE m2 2 3 (nums k) = 0 := by
                rw [room_make hq, HM2.out.1, HM2.out.2, if_neg hfull]
              have hM := room_makeM (m := m2) hq (by rw [HM2.out.1, HM2.out.2]; exact hfull)
              obtain ⟨v, hv⟩ : ∃ v, v = makeV m2 2 3 (nums k) := ⟨_, rfl⟩
              obtain ⟨m3, hm3⟩ : ∃ m3, m3 = makeM m2 2 3 (nums k) := ⟨_, rfl⟩
              rw [hE, ← hv, ← hm3] at MK
              rw [← hm3, HM2.out.1, HM2.out.2] at hM
              have HM3 := Lib.hid hM
              have HL2 : Hid (L + k + 1 = (n + 1) * (k + 1)) := Lib.hid (by rw [HL.out, Nat.add_mul]; omega)
              have hnn : ((n + 1 : Nat) : Int) ≤ room := by
                have h5 : n + 1 ≤ (n + 1) * (k + 1) := Nat.le_mul_of_pos_right _ (by omega)
                rw [← HL2.out] at h5
                omega
              have HNN := Lib.hid hnn
              clear hE hM hv hm3 hnn
              go_wp2_with fail
              refine MK.out.mono ?_; rintro e w5 ⟨rfl, H5⟩
              clear MK HP2 WR2 BW2
              go_wp2
              go_roundw
              case rel => exact ⟨n + 1, L + k + 1, m3, by go_num, HNN.out, HL2, by push_cast; omega, HM3, Lib.hid H5.out.1, Lib.hid H5.out.2.1, Lib.hid H5.out.2.2⟩
              case measure => simp [intOf]; omega
        · have ht2i : ¬ (t : Int) < 2 := by omega
          have US := Lib.hid (used_any HP.out)
          rw [HM.out.2] at US
          go_wp2_with fail
          refine US.out.mono ?_; rintro e w6 ⟨rfl, rfl⟩
          go_wp2
          go_ret
          exact ⟨rfl, BW.out⟩
end Go.Proofs.Ytknpgmbniohcnaa
