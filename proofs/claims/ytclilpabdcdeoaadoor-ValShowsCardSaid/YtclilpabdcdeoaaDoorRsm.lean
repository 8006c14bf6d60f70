import Derived.Test.YtclilpabdcdeoaaDoorRz
namespace Go.Proofs.YtclilpabdcdeoaaDoor
open Go.ChangeShapes Go.WideShapes Go.ChangeAt Go.RowKit
set_option linter.unusedVariables false
set_option linter.unusedSimpArgs false
theorem heap2 (w : World) (O1 O2 : Obj) : ((w.alloc O1).alloc O2).heap[w.heap.size]? = some O1 ∧ ((w.alloc O1).alloc O2).heap[w.heap.size + 1]? = some O2 := by
  have e : ((w.alloc O1).alloc O2).heap = (w.heap.push O1).push O2 := rfl
  rw [e]
  refine ⟨?_, ?_⟩
  · rw [Array.getElem?_push, if_neg (by simp only [Array.size_push]; omega), Array.getElem?_push, if_pos rfl]
  · rw [Array.getElem?_push, if_pos (by simp only [Array.size_push])]
set_option maxRecDepth 100000 in
set_option maxHeartbeats 8000000 in
theorem rsame_any : ∀ (d : Nat) (V U : VT) (v u : Value) (w : World), bigD d V = false → RV w V v → RV w U u → Calls Tryd.prog 17 #[v, u] w fun e w' => e = .returned (.bool (sameD d V U)) ∧ Below w.heap.size w w' := by
  intro d
  induction d with
  | zero => intro V U v u w h; cases h
  | succ d ih =>
    intro V U v u w hbig ⟨A, c, hv, hn, hA⟩ ⟨B, e, hu, hn2, hB⟩
    subst hv hu
    obtain ⟨g1, g2, g3⟩ := big_parts hbig
    have hsp : sameD (d + 1) V U = ((V.k == U.k) && (V.n == U.n) && (V.nm.toList == U.nm.toList) && (V.node == U.node) && (V.at_ == U.at_) && (V.args.length == U.args.length) && allB (sameD d) V.args U.args) := rfl
    rw [hsp]
    have IH := Lib.hid ih
    have HA := Lib.hid hA
    have HB := Lib.hid hB
    have G3 := Lib.hid g3
    clear ih hA hB g3 g2 hsp hbig hn hn2
    obtain ⟨l, hl⟩ : ∃ l, l = V.args := ⟨_, rfl⟩
    obtain ⟨m, hm⟩ : ∃ m, m = U.args := ⟨_, rfl⟩
    rw [← hl] at HA G3 g1 ⊢
    rw [← hm] at HB ⊢
    clear hl hm
    have B2 : Hid (Below w.heap.size w ((w.alloc (.cells #[.int .i64 V.k, .int .i64 V.n, .string V.nm, .slice A l.length c, .int .i64 V.node, .pointer none, .int .i64 V.at_, .int .i64 0] 46)).alloc (.cells #[.int .i64 U.k, .int .i64 U.n, .string U.nm, .slice B m.length e, .int .i64 U.node, .pointer none, .int .i64 U.at_, .int .i64 0] 46))) := Lib.hid ((below_alloc w _).trans ((below_alloc _ _).mono (below_alloc w _).size))
    cases e0 : (V.k == U.k)
    · have e0' : (V.k != U.k) = true := by first | (show (!(V.k == U.k)) = true; rw [e0]; rfl)
      go_enter Tryd.func17, Tryd.ntmps17
      go_wp2
      go_ret
      exact ⟨by simp only [Bool.and_false, Bool.false_and, Bool.true_and, Bool.and_true]; rfl, B2.out⟩
    have e0' : (V.k != U.k) = false := by first | (show (!(V.k == U.k)) = false; rw [e0]; rfl)
    cases e1 : (V.n == U.n)
    · have e1' : (V.n != U.n) = true := by first | (show (!(V.n == U.n)) = true; rw [e1]; rfl)
      go_enter Tryd.func17, Tryd.ntmps17
      go_wp2
      go_ret
      exact ⟨by simp only [Bool.and_false, Bool.false_and, Bool.true_and, Bool.and_true]; rfl, B2.out⟩
    have e1' : (V.n != U.n) = false := by first | (show (!(V.n == U.n)) = false; rw [e1]; rfl)
    cases e2 : (V.nm.toList == U.nm.toList)
    · have e2' : (V.nm.toList != U.nm.toList) = true := by first | (show (!(V.nm.toList == U.nm.toList)) = true; rw [e2]; rfl)
      go_enter Tryd.func17, Tryd.ntmps17
      go_wp2
      go_ret
      exact ⟨by simp only [Bool.and_false, Bool.false_and, Bool.true_and, Bool.and_true]; rfl, B2.out⟩
    have e2' : (V.nm.toList != U.nm.toList) = false := by first | (show (!(V.nm.toList == U.nm.toList)) = false; rw [e2]; rfl)
    cases e3 : (V.node == U.node)
    · have e3' : (V.node != U.node) = true := by first | (show (!(V.node == U.node)) = true; rw [e3]; rfl)
      go_enter Tryd.func17, Tryd.ntmps17
      go_wp2
      go_ret
      exact ⟨by simp only [Bool.and_false, Bool.false_and, Bool.true_and, Bool.and_true]; rfl, B2.out⟩
    have e3' : (V.node != U.node) = false := by first | (show (!(V.node == U.node)) = false; rw [e3]; rfl)
    cases e4 : (V.at_ == U.at_)
    · have e4' : (V.at_ != U.at_) = true := by first | (show (!(V.at_ == U.at_)) = true; rw [e4]; rfl)
      go_enter Tryd.func17, Tryd.ntmps17
      go_wp2
      go_ret
      exact ⟨by simp only [Bool.and_false, Bool.false_and, Bool.true_and, Bool.and_true]; rfl, B2.out⟩
    have e4' : (V.at_ != U.at_) = false := by first | (show (!(V.at_ == U.at_)) = false; rw [e4]; rfl)
    by_cases hlen : l.length = m.length
    · have dl : ((l.length : Int) == (m.length : Int)) = true := by rw [hlen]; simp
      have dl' : ((l.length : Int) != (m.length : Int)) = false := by simp [bne, dl]
      have dn : (l.length == m.length) = true := by rw [hlen]; simp
      have dn' : (l.length != m.length) = false := by simp [bne, dn]
      have HSP : Hid ((true && true && true && true && true && (l.length == m.length) && allB (sameD d) l m) = allB (sameD d) l m) := Lib.hid (by rw [dn]; rfl)
      rw [HSP.out]
      have HLEN := Lib.hid hlen
      have G1 : Hid (l.length ≤ 4) := Lib.hid g1
      obtain ⟨wB, hwB⟩ : ∃ wB, wB = (w.alloc (.cells #[.int .i64 V.k, .int .i64 V.n, .string V.nm, .slice A l.length c, .int .i64 V.node, .pointer none, .int .i64 V.at_, .int .i64 0] 46)).alloc (.cells #[.int .i64 U.k, .int .i64 U.n, .string U.nm, .slice B m.length e, .int .i64 U.node, .pointer none, .int .i64 U.at_, .int .i64 0] 46) := ⟨_, rfl⟩
      have hb2 := heap2 w (.cells #[.int .i64 V.k, .int .i64 V.n, .string V.nm, .slice A l.length c, .int .i64 V.node, .pointer none, .int .i64 V.at_, .int .i64 0] 46) (.cells #[.int .i64 U.k, .int .i64 U.n, .string U.nm, .slice B m.length e, .int .i64 U.node, .pointer none, .int .i64 U.at_, .int .i64 0] 46)
      rw [← hwB] at hb2 B2
      have P3 : Hid (wB.cell? ⟨w.heap.size, 3, none⟩ = some (.slice A l.length c) ∧ w.heap.size < wB.heap.size) := Lib.hid ⟨by simp [World.cell?, hb2.1], (Array.getElem?_eq_some_iff.1 hb2.1).1⟩
      have Q3 : Hid (wB.cell? ⟨w.heap.size + 1, 3, none⟩ = some (.slice B m.length e) ∧ w.heap.size + 1 < wB.heap.size) := Lib.hid ⟨by simp [World.cell?, hb2.2], (Array.getElem?_eq_some_iff.1 hb2.2).1⟩
      have HWB := Lib.hid hwB
      clear hlen HSP hwB hb2
      go_enter Tryd.func17, Tryd.ntmps17
      go_wp2
      go_loopw [5] (fun i wr => SameI wB d l m i wr) (fun i _ => l.length - (intOf i).toNat)
      case atStart => exact ⟨0, by omega, rfl, rfl, by rw [HWB.out]; exact Below.refl _ _⟩
      case round =>
        obtain ⟨k, hk, rfl, hall, hbl⟩ := hrel
        have HALL := Lib.hid hall
        have HBL := Lib.hid hbl
        have HK : Hid (k ≤ 4) := Lib.hid (by omega)
        clear hall hbl
        have r3 := (HBL.out.cell (p := ⟨w.heap.size, 3, none⟩) P3.out.2).trans P3.out.1
        have s3 := (HBL.out.cell (p := ⟨w.heap.size + 1, 3, none⟩) Q3.out.2).trans Q3.out.1
        have hBW : Hid (Below w.heap.size w wr) := Lib.hid (B2.out.trans (HBL.out.mono B2.out.size))
        by_cases hlt : k < l.length
        · have hltm : k < m.length := by have := HLEN.out; omega
          obtain ⟨ab, A1, c1, rfl, hab, x0, x1, x2, x3, x4, x5, x6, x7, hin⟩ := (HA.out.later hBW.out).at k hlt
          obtain ⟨mb, A2, c2, rfl, hmb, y0, y1, y2, y3, y4, y5, y6, y7, hin2⟩ := (HB.out.later hBW.out).at k hltm
          have hli : (k : Int) < (l.length : Int) := by omega
          have hmi : (k : Int) < (m.length : Int) := by omega
          have hdr := allB_drop (sameD d) l m HLEN.out k hlt
          have CALL := Lib.hid (IH.out l[k] m[k] _ _ wr.drew (G3.out _ (List.getElem_mem hlt)) (hin.later (bdr wr)) (hin2.later (bdr wr)))
          have HX := Lib.hid (And.intro hab hmb)
          clear hin hin2 hab hmb
          cases hd : sameD d l[k] m[k]
          · rw [hd] at CALL hdr
            have HN : Hid (allB (sameD d) l m = false) := Lib.hid (HALL.out.trans hdr)
            clear hd hdr HALL HA HB IH G3
            go_wp2
            refine wp_region_held_drew (S := fun w' => w'.cell? ⟨w.heap.size, 3, none⟩ = some (.slice (some ⟨ab, 0, none⟩) l.length c) ∧ w'.cell? ⟨w.heap.size + 1, 3, none⟩ = some (.slice (some ⟨mb, 0, none⟩) m.length e) ∧ w'.cell? ⟨ab, k * 8, none⟩ = some (.int .i64 l[k].k) ∧ w'.cell? ⟨ab, k * 8 + 1, none⟩ = some (.int .i64 l[k].n) ∧ w'.cell? ⟨ab, k * 8 + 2, none⟩ = some (.string l[k].nm) ∧ w'.cell? ⟨ab, k * 8 + 3, none⟩ = some (.slice A1 l[k].args.length c1) ∧ w'.cell? ⟨ab, k * 8 + 4, none⟩ = some (.int .i64 l[k].node) ∧ w'.cell? ⟨ab, k * 8 + 5, none⟩ = some (.pointer none) ∧ w'.cell? ⟨ab, k * 8 + 6, none⟩ = some (.int .i64 l[k].at_) ∧ w'.cell? ⟨ab, k * 8 + 7, none⟩ = some (.int .i64 0) ∧ w'.cell? ⟨mb, k * 8, none⟩ = some (.int .i64 m[k].k) ∧ w'.cell? ⟨mb, k * 8 + 1, none⟩ = some (.int .i64 m[k].n) ∧ w'.cell? ⟨mb, k * 8 + 2, none⟩ = some (.string m[k].nm) ∧ w'.cell? ⟨mb, k * 8 + 3, none⟩ = some (.slice A2 m[k].args.length c2) ∧ w'.cell? ⟨mb, k * 8 + 4, none⟩ = some (.int .i64 m[k].node) ∧ w'.cell? ⟨mb, k * 8 + 5, none⟩ = some (.pointer none) ∧ w'.cell? ⟨mb, k * 8 + 6, none⟩ = some (.int .i64 m[k].at_) ∧ w'.cell? ⟨mb, k * 8 + 7, none⟩ = some (.int .i64 0)) (by kernel_rfl) ?_ (fun hHeld => ?_)
            · (try dsimp only); go_keep
            refine wpAnyH_take (i := 0) (oi := { dst := some 55, op := Go.Op.fieldAddr 46 (Go.Operand.tmp 2) 3, type := 0, pos := _, after := #[], guard := none }) (v := ?va0) rfl (by kernel_rfl) (by kernel_rfl) (by kernel_rfl) (fun _ _ _ h => h) (Or.inl ⟨by rfl, ?hya0⟩) (by assumption) ?_
            case hya0 => (intro wz hSw; (try dsimp only at hSw); go_simp; try with_reducible rfl)
            (try simp only [Act.put, List.setIfInBounds_toArray, List.set_cons_zero, List.set_cons_succ])
            refine wpAnyH_take (i := 1) (oi := { dst := some 56, op := Go.Op.load 43 (Go.Operand.tmp 55), type := 43, pos := _, after := #[{ on := 0, ground := Go.Ground.data }], guard := none }) (v := ?va1) rfl (by kernel_rfl) (by kernel_rfl) (by kernel_rfl) (fun _ _ _ h => h) (Or.inl ⟨by rfl, ?hya1⟩) (by assumption) ?_
            case hya1 => (intro wz hSw; (try dsimp only at hSw); go_simp; try with_reducible rfl)
            (try simp only [Act.put, List.setIfInBounds_toArray, List.set_cons_zero, List.set_cons_succ])
            refine wpAnyH_take (i := 2) (oi := { dst := some 57, op := Go.Op.move (Go.Operand.tmp 5), type := 3, pos := _, after := #[], guard := none }) (v := ?va2) rfl (by kernel_rfl) (by kernel_rfl) (by kernel_rfl) (fun _ _ _ h => h) (Or.inl ⟨by rfl, ?hya2⟩) (by assumption) ?_
            case hya2 => (intro wz hSw; (try dsimp only at hSw); go_simp; try with_reducible rfl)
            (try simp only [Act.put, List.setIfInBounds_toArray, List.set_cons_zero, List.set_cons_succ])
            refine wpAnyH_take (i := 3) (oi := { dst := some 58, op := Go.Op.indexAddr 43 (Go.Operand.tmp 56) (Go.Operand.tmp 57), type := 0, pos := _, after := #[{ on := 1, ground := Go.Ground.data }, { on := 2, ground := Go.Ground.data }], guard := none }) (v := ?va3) rfl (by kernel_rfl) (by kernel_rfl) (by kernel_rfl) (fun _ _ _ h => h) (Or.inl ⟨by rfl, ?hya3⟩) (by assumption) ?_
            case hya3 => (intro wz hSw; (try dsimp only at hSw); go_simp; try with_reducible rfl)
            (try simp only [Act.put, List.setIfInBounds_toArray, List.set_cons_zero, List.set_cons_succ])
            refine wpAnyH_take (i := 4) (oi := { dst := some 59, op := Go.Op.load 46 (Go.Operand.tmp 58), type := 46, pos := _, after := #[{ on := 3, ground := Go.Ground.data }], guard := none }) (v := ?va4) rfl (by kernel_rfl) (by kernel_rfl) (by kernel_rfl) (fun _ _ _ h => h) (Or.inl ⟨by rfl, ?hya4⟩) (by assumption) ?_
            case hya4 => (intro wz hSw; (try dsimp only at hSw); go_simp; try with_reducible rfl)
            (try simp only [Act.put, List.setIfInBounds_toArray, List.set_cons_zero, List.set_cons_succ])
            refine wpAnyH_take (i := 5) (oi := { dst := some 60, op := Go.Op.fieldAddr 46 (Go.Operand.tmp 3) 3, type := 0, pos := _, after := #[], guard := none }) (v := ?va5) rfl (by kernel_rfl) (by kernel_rfl) (by kernel_rfl) (fun _ _ _ h => h) (Or.inl ⟨by rfl, ?hya5⟩) (by assumption) ?_
            case hya5 => (intro wz hSw; (try dsimp only at hSw); go_simp; try with_reducible rfl)
            (try simp only [Act.put, List.setIfInBounds_toArray, List.set_cons_zero, List.set_cons_succ])
            refine wpAnyH_take (i := 6) (oi := { dst := some 61, op := Go.Op.load 43 (Go.Operand.tmp 60), type := 43, pos := _, after := #[{ on := 5, ground := Go.Ground.data }], guard := none }) (v := ?va6) rfl (by kernel_rfl) (by kernel_rfl) (by kernel_rfl) (fun _ _ _ h => h) (Or.inl ⟨by rfl, ?hya6⟩) (by assumption) ?_
            case hya6 => (intro wz hSw; (try dsimp only at hSw); go_simp; try with_reducible rfl)
            (try simp only [Act.put, List.setIfInBounds_toArray, List.set_cons_zero, List.set_cons_succ])
            refine wpAnyH_take (i := 7) (oi := { dst := some 62, op := Go.Op.move (Go.Operand.tmp 5), type := 3, pos := _, after := #[], guard := none }) (v := ?va7) rfl (by kernel_rfl) (by kernel_rfl) (by kernel_rfl) (fun _ _ _ h => h) (Or.inl ⟨by rfl, ?hya7⟩) (by assumption) ?_
            case hya7 => (intro wz hSw; (try dsimp only at hSw); go_simp; try with_reducible rfl)
            (try simp only [Act.put, List.setIfInBounds_toArray, List.set_cons_zero, List.set_cons_succ])
            refine wpAnyH_take (i := 8) (oi := { dst := some 63, op := Go.Op.indexAddr 43 (Go.Operand.tmp 61) (Go.Operand.tmp 62), type := 0, pos := _, after := #[{ on := 6, ground := Go.Ground.data }, { on := 7, ground := Go.Ground.data }], guard := none }) (v := ?va8) rfl (by kernel_rfl) (by kernel_rfl) (by kernel_rfl) (fun _ _ _ h => h) (Or.inl ⟨by rfl, ?hya8⟩) (by assumption) ?_
            case hya8 => (intro wz hSw; (try dsimp only at hSw); go_simp; try with_reducible rfl)
            (try simp only [Act.put, List.setIfInBounds_toArray, List.set_cons_zero, List.set_cons_succ])
            refine wpAnyH_take (i := 9) (oi := { dst := some 64, op := Go.Op.load 46 (Go.Operand.tmp 63), type := 46, pos := _, after := #[{ on := 8, ground := Go.Ground.data }], guard := none }) (v := ?va9) rfl (by kernel_rfl) (by kernel_rfl) (by kernel_rfl) (fun _ _ _ h => h) (Or.inl ⟨by rfl, ?hya9⟩) (by assumption) ?_
            case hya9 => (intro wz hSw; (try dsimp only at hSw); go_simp; try with_reducible rfl)
            (try simp only [Act.put, List.setIfInBounds_toArray, List.set_cons_zero, List.set_cons_succ])
            refine wpAnyH_ready (rs := [10]) (by kernel_rfl) (by simp) ?_
            refine AllReadyH.cons (o := { dst := some 65, op := Go.Op.call { callee := Go.Callee.value (Go.Operand.func 17), args := #[Go.Operand.tmp 59, Go.Operand.tmp 64], argTypes := #[46, 46] }, type := 4, pos := _, after := #[{ on := 4, ground := Go.Ground.data }, { on := 9, ground := Go.Ground.data }], guard := none }) rfl (fun K hK => ?_) AllReadyH.nil
            go_simp
            refine Calls.mono CALL.out ?_; rintro e w4 ⟨rfl, hb4⟩
            have hB4 : Below wr.heap.size wr w4 := (bdr wr).trans hb4
            have BB : Hid (Below w.heap.size w w4) := Lib.hid (hBW.out.trans (hB4.mono hBW.out.size))
            have BC : Hid (Below wB.heap.size wB w4) := Lib.hid (HBL.out.trans (hB4.mono HBL.out.size))
            have z0 := keepC hB4 r3
            have z1 := keepC hB4 s3
            have z2 := keepC hB4 x0
            have z3 := keepC hB4 x1
            have z4 := keepC hB4 x2
            have z5 := keepC hB4 x3
            have z6 := keepC hB4 x4
            have z7 := keepC hB4 x5
            have z8 := keepC hB4 x6
            have z9 := keepC hB4 x7
            have z10 := keepC hB4 y0
            have z11 := keepC hB4 y1
            have z12 := keepC hB4 y2
            have z13 := keepC hB4 y3
            have z14 := keepC hB4 y4
            have z15 := keepC hB4 y5
            have z16 := keepC hB4 y6
            have z17 := keepC hB4 y7
            clear hb4 CALL
            go_wp2_with fail
            refine hK.out _ _ ?_ (fun hHeld => ?_)
            · (try dsimp only); go_keep
            clear hK K
            (try simp only [Act.put, List.setIfInBounds_toArray, List.set_cons_zero, List.set_cons_succ])
            refine wpAnyH_take (i := 11) (oi := { dst := some 66, op := Go.Op.unOp Go.UnOp.not 4 (Go.Operand.tmp 65), type := 4, pos := _, after := #[{ on := 10, ground := Go.Ground.data }], guard := none }) (v := ?va11) rfl (by kernel_rfl) (by kernel_rfl) (by kernel_rfl) (fun _ _ _ h => h) (Or.inl ⟨by rfl, ?hya11⟩) (by assumption) ?_
            case hya11 => (intro wz hSw; (try dsimp only at hSw); go_simp; try with_reducible rfl)
            (try simp only [Act.put, List.setIfInBounds_toArray, List.set_cons_zero, List.set_cons_succ])
            refine wpAnyH_done (by kernel_rfl) ?_ _
            go_wp2
            go_ret
            exact ⟨by rw [HN.out]; rfl, BB.out⟩
          · rw [hd] at CALL hdr
            have HN : Hid (allB (sameD d) l m = allB (sameD d) (l.drop (k + 1)) (m.drop (k + 1))) := Lib.hid (HALL.out.trans hdr)
            clear hd hdr HALL HA HB IH G3
            go_wp2
            refine wp_region_held_drew (S := fun w' => w'.cell? ⟨w.heap.size, 3, none⟩ = some (.slice (some ⟨ab, 0, none⟩) l.length c) ∧ w'.cell? ⟨w.heap.size + 1, 3, none⟩ = some (.slice (some ⟨mb, 0, none⟩) m.length e) ∧ w'.cell? ⟨ab, k * 8, none⟩ = some (.int .i64 l[k].k) ∧ w'.cell? ⟨ab, k * 8 + 1, none⟩ = some (.int .i64 l[k].n) ∧ w'.cell? ⟨ab, k * 8 + 2, none⟩ = some (.string l[k].nm) ∧ w'.cell? ⟨ab, k * 8 + 3, none⟩ = some (.slice A1 l[k].args.length c1) ∧ w'.cell? ⟨ab, k * 8 + 4, none⟩ = some (.int .i64 l[k].node) ∧ w'.cell? ⟨ab, k * 8 + 5, none⟩ = some (.pointer none) ∧ w'.cell? ⟨ab, k * 8 + 6, none⟩ = some (.int .i64 l[k].at_) ∧ w'.cell? ⟨ab, k * 8 + 7, none⟩ = some (.int .i64 0) ∧ w'.cell? ⟨mb, k * 8, none⟩ = some (.int .i64 m[k].k) ∧ w'.cell? ⟨mb, k * 8 + 1, none⟩ = some (.int .i64 m[k].n) ∧ w'.cell? ⟨mb, k * 8 + 2, none⟩ = some (.string m[k].nm) ∧ w'.cell? ⟨mb, k * 8 + 3, none⟩ = some (.slice A2 m[k].args.length c2) ∧ w'.cell? ⟨mb, k * 8 + 4, none⟩ = some (.int .i64 m[k].node) ∧ w'.cell? ⟨mb, k * 8 + 5, none⟩ = some (.pointer none) ∧ w'.cell? ⟨mb, k * 8 + 6, none⟩ = some (.int .i64 m[k].at_) ∧ w'.cell? ⟨mb, k * 8 + 7, none⟩ = some (.int .i64 0)) (by kernel_rfl) ?_ (fun hHeld => ?_)
            · (try dsimp only); go_keep
            refine wpAnyH_take (i := 0) (oi := { dst := some 55, op := Go.Op.fieldAddr 46 (Go.Operand.tmp 2) 3, type := 0, pos := _, after := #[], guard := none }) (v := ?vb0) rfl (by kernel_rfl) (by kernel_rfl) (by kernel_rfl) (fun _ _ _ h => h) (Or.inl ⟨by rfl, ?hyb0⟩) (by assumption) ?_
            case hyb0 => (intro wz hSw; (try dsimp only at hSw); go_simp; try with_reducible rfl)
            (try simp only [Act.put, List.setIfInBounds_toArray, List.set_cons_zero, List.set_cons_succ])
            refine wpAnyH_take (i := 1) (oi := { dst := some 56, op := Go.Op.load 43 (Go.Operand.tmp 55), type := 43, pos := _, after := #[{ on := 0, ground := Go.Ground.data }], guard := none }) (v := ?vb1) rfl (by kernel_rfl) (by kernel_rfl) (by kernel_rfl) (fun _ _ _ h => h) (Or.inl ⟨by rfl, ?hyb1⟩) (by assumption) ?_
            case hyb1 => (intro wz hSw; (try dsimp only at hSw); go_simp; try with_reducible rfl)
            (try simp only [Act.put, List.setIfInBounds_toArray, List.set_cons_zero, List.set_cons_succ])
            refine wpAnyH_take (i := 2) (oi := { dst := some 57, op := Go.Op.move (Go.Operand.tmp 5), type := 3, pos := _, after := #[], guard := none }) (v := ?vb2) rfl (by kernel_rfl) (by kernel_rfl) (by kernel_rfl) (fun _ _ _ h => h) (Or.inl ⟨by rfl, ?hyb2⟩) (by assumption) ?_
            case hyb2 => (intro wz hSw; (try dsimp only at hSw); go_simp; try with_reducible rfl)
            (try simp only [Act.put, List.setIfInBounds_toArray, List.set_cons_zero, List.set_cons_succ])
            refine wpAnyH_take (i := 3) (oi := { dst := some 58, op := Go.Op.indexAddr 43 (Go.Operand.tmp 56) (Go.Operand.tmp 57), type := 0, pos := _, after := #[{ on := 1, ground := Go.Ground.data }, { on := 2, ground := Go.Ground.data }], guard := none }) (v := ?vb3) rfl (by kernel_rfl) (by kernel_rfl) (by kernel_rfl) (fun _ _ _ h => h) (Or.inl ⟨by rfl, ?hyb3⟩) (by assumption) ?_
            case hyb3 => (intro wz hSw; (try dsimp only at hSw); go_simp; try with_reducible rfl)
            (try simp only [Act.put, List.setIfInBounds_toArray, List.set_cons_zero, List.set_cons_succ])
            refine wpAnyH_take (i := 4) (oi := { dst := some 59, op := Go.Op.load 46 (Go.Operand.tmp 58), type := 46, pos := _, after := #[{ on := 3, ground := Go.Ground.data }], guard := none }) (v := ?vb4) rfl (by kernel_rfl) (by kernel_rfl) (by kernel_rfl) (fun _ _ _ h => h) (Or.inl ⟨by rfl, ?hyb4⟩) (by assumption) ?_
            case hyb4 => (intro wz hSw; (try dsimp only at hSw); go_simp; try with_reducible rfl)
            (try simp only [Act.put, List.setIfInBounds_toArray, List.set_cons_zero, List.set_cons_succ])
            refine wpAnyH_take (i := 5) (oi := { dst := some 60, op := Go.Op.fieldAddr 46 (Go.Operand.tmp 3) 3, type := 0, pos := _, after := #[], guard := none }) (v := ?vb5) rfl (by kernel_rfl) (by kernel_rfl) (by kernel_rfl) (fun _ _ _ h => h) (Or.inl ⟨by rfl, ?hyb5⟩) (by assumption) ?_
            case hyb5 => (intro wz hSw; (try dsimp only at hSw); go_simp; try with_reducible rfl)
            (try simp only [Act.put, List.setIfInBounds_toArray, List.set_cons_zero, List.set_cons_succ])
            refine wpAnyH_take (i := 6) (oi := { dst := some 61, op := Go.Op.load 43 (Go.Operand.tmp 60), type := 43, pos := _, after := #[{ on := 5, ground := Go.Ground.data }], guard := none }) (v := ?vb6) rfl (by kernel_rfl) (by kernel_rfl) (by kernel_rfl) (fun _ _ _ h => h) (Or.inl ⟨by rfl, ?hyb6⟩) (by assumption) ?_
            case hyb6 => (intro wz hSw; (try dsimp only at hSw); go_simp; try with_reducible rfl)
            (try simp only [Act.put, List.setIfInBounds_toArray, List.set_cons_zero, List.set_cons_succ])
            refine wpAnyH_take (i := 7) (oi := { dst := some 62, op := Go.Op.move (Go.Operand.tmp 5), type := 3, pos := _, after := #[], guard := none }) (v := ?vb7) rfl (by kernel_rfl) (by kernel_rfl) (by kernel_rfl) (fun _ _ _ h => h) (Or.inl ⟨by rfl, ?hyb7⟩) (by assumption) ?_
            case hyb7 => (intro wz hSw; (try dsimp only at hSw); go_simp; try with_reducible rfl)
            (try simp only [Act.put, List.setIfInBounds_toArray, List.set_cons_zero, List.set_cons_succ])
            refine wpAnyH_take (i := 8) (oi := { dst := some 63, op := Go.Op.indexAddr 43 (Go.Operand.tmp 61) (Go.Operand.tmp 62), type := 0, pos := _, after := #[{ on := 6, ground := Go.Ground.data }, { on := 7, ground := Go.Ground.data }], guard := none }) (v := ?vb8) rfl (by kernel_rfl) (by kernel_rfl) (by kernel_rfl) (fun _ _ _ h => h) (Or.inl ⟨by rfl, ?hyb8⟩) (by assumption) ?_
            case hyb8 => (intro wz hSw; (try dsimp only at hSw); go_simp; try with_reducible rfl)
            (try simp only [Act.put, List.setIfInBounds_toArray, List.set_cons_zero, List.set_cons_succ])
            refine wpAnyH_take (i := 9) (oi := { dst := some 64, op := Go.Op.load 46 (Go.Operand.tmp 63), type := 46, pos := _, after := #[{ on := 8, ground := Go.Ground.data }], guard := none }) (v := ?vb9) rfl (by kernel_rfl) (by kernel_rfl) (by kernel_rfl) (fun _ _ _ h => h) (Or.inl ⟨by rfl, ?hyb9⟩) (by assumption) ?_
            case hyb9 => (intro wz hSw; (try dsimp only at hSw); go_simp; try with_reducible rfl)
            (try simp only [Act.put, List.setIfInBounds_toArray, List.set_cons_zero, List.set_cons_succ])
            refine wpAnyH_ready (rs := [10]) (by kernel_rfl) (by simp) ?_
            refine AllReadyH.cons (o := { dst := some 65, op := Go.Op.call { callee := Go.Callee.value (Go.Operand.func 17), args := #[Go.Operand.tmp 59, Go.Operand.tmp 64], argTypes := #[46, 46] }, type := 4, pos := _, after := #[{ on := 4, ground := Go.Ground.data }, { on := 9, ground := Go.Ground.data }], guard := none }) rfl (fun K hK => ?_) AllReadyH.nil
            go_simp
            refine Calls.mono CALL.out ?_; rintro e w4 ⟨rfl, hb4⟩
            have hB4 : Below wr.heap.size wr w4 := (bdr wr).trans hb4
            have BB : Hid (Below w.heap.size w w4) := Lib.hid (hBW.out.trans (hB4.mono hBW.out.size))
            have BC : Hid (Below wB.heap.size wB w4) := Lib.hid (HBL.out.trans (hB4.mono HBL.out.size))
            have z0 := keepC hB4 r3
            have z1 := keepC hB4 s3
            have z2 := keepC hB4 x0
            have z3 := keepC hB4 x1
            have z4 := keepC hB4 x2
            have z5 := keepC hB4 x3
            have z6 := keepC hB4 x4
            have z7 := keepC hB4 x5
            have z8 := keepC hB4 x6
            have z9 := keepC hB4 x7
            have z10 := keepC hB4 y0
            have z11 := keepC hB4 y1
            have z12 := keepC hB4 y2
            have z13 := keepC hB4 y3
            have z14 := keepC hB4 y4
            have z15 := keepC hB4 y5
            have z16 := keepC hB4 y6
            have z17 := keepC hB4 y7
            clear hb4 CALL
            go_wp2_with fail
            refine hK.out _ _ ?_ (fun hHeld => ?_)
            · (try dsimp only); go_keep
            clear hK K
            (try simp only [Act.put, List.setIfInBounds_toArray, List.set_cons_zero, List.set_cons_succ])
            refine wpAnyH_take (i := 11) (oi := { dst := some 66, op := Go.Op.unOp Go.UnOp.not 4 (Go.Operand.tmp 65), type := 4, pos := _, after := #[{ on := 10, ground := Go.Ground.data }], guard := none }) (v := ?vb11) rfl (by kernel_rfl) (by kernel_rfl) (by kernel_rfl) (fun _ _ _ h => h) (Or.inl ⟨by rfl, ?hyb11⟩) (by assumption) ?_
            case hyb11 => (intro wz hSw; (try dsimp only at hSw); go_simp; try with_reducible rfl)
            (try simp only [Act.put, List.setIfInBounds_toArray, List.set_cons_zero, List.set_cons_succ])
            refine wpAnyH_done (by kernel_rfl) ?_ _
            go_wp2
            go_roundw
            case rel => exact ⟨k + 1, by omega, by go_num, HN.out, BC.out⟩
            case measure => simp [intOf]; omega
        · have hge : ¬ (k : Int) < (l.length : Int) := by omega
          have HN : Hid (allB (sameD d) l m = true) := Lib.hid (by
            rw [HALL.out, List.drop_eq_nil_of_le (by omega)]; rfl)
          clear HALL
          go_wp2
          go_ret
          exact ⟨by rw [HN.out]; rfl, hBW.out⟩
    · have dl : ((l.length : Int) == (m.length : Int)) = false := beq_eq_false_iff_ne.2 (by omega)
      have dl' : ((l.length : Int) != (m.length : Int)) = true := by simp [bne, dl]
      have dn : (l.length == m.length) = false := beq_eq_false_iff_ne.2 hlen
      have dn' : (l.length != m.length) = true := by simp [bne, dn]
      go_enter Tryd.func17, Tryd.ntmps17
      go_wp2
      go_ret
      exact ⟨by simp only [dn, Bool.and_false, Bool.false_and, Bool.true_and, Bool.and_true]; rfl, B2.out⟩
end Go.Proofs.YtclilpabdcdeoaaDoor
