import Derived.Test.YtifopogkbjhkjaaGreatDoorTj
import Derived.Test.YtifopogkbjhkjaaGreatDoorVt
namespace Go.Proofs.YtifopogkbjhkjaaGreatDoor
open Go.ChangeShapes Go.WideShapes Go.ChangeAt Go.RowKit
set_option linter.unusedVariables false
set_option linter.unusedSimpArgs false
theorem TT_eq {V U : TT} (h0 : V.k = U.k) (h1 : V.nm = U.nm) (h2 : V.vr = U.vr) (h3 : V.args = U.args) : V = U := by rw [V.eta, U.eta, h0, h1, h2, h3]
theorem get_eq (s : ByteArray) (i : Nat) (h : i < s.size) : s.get! i = s[i]'h := by
  simp [ByteArray.get!, h]; rfl

/-- the rune at i and its width. -/
def rn (s : ByteArray) (i : Nat) : Nat := (Utf8.decode s i).1
def wd (s : ByteArray) (i : Nat) : Nat := (Utf8.decode s i).2
theorem loop_is (s : ByteArray) : ∀ (k i : Nat) (r : List UInt8), k = s.size - i → ByteArray.toList.loop s i r = r.reverse ++ s.data.toList.drop i := by
  intro k
  induction k with
  | zero =>
    intro i r h
    rw [ByteArray.toList.loop, if_neg (by omega)]
    rw [List.drop_eq_nil_of_le (by show s.data.toList.length ≤ i; rw [Array.length_toList]; show s.size ≤ i; omega)]
    simp
  | succ k ih =>
    intro i r h
    rw [ByteArray.toList.loop, if_pos (by omega), ih (i + 1) _ (by omega)]
    have hi : i < s.data.toList.length := by rw [Array.length_toList]; show i < s.size; omega
    rw [List.drop_eq_getElem_cons hi, List.reverse_cons, List.append_assoc]
    have hi2 : i < s.size := by omega
    have : s.get! i = s.data.toList[i] := by rw [get_eq s i hi2]; rfl
    rw [this]; rfl
theorem toList_data (s : ByteArray) : s.toList = s.data.toList := by
  unfold ByteArray.toList
  rw [loop_is s s.size 0 [] (by omega)]; rfl
theorem toList_inj {a b : ByteArray} (h : a.toList = b.toList) : a = b := by
  rw [toList_data, toList_data] at h
  obtain ⟨a⟩ := a; obtain ⟨b⟩ := b
  congr 1
  exact Array.ext' h
def SmP (b : Bool) (V U : TT) : Prop := b = true ↔ V = U
theorem smp_no {V U : TT} (h : V ≠ U) : SmP false V U := ⟨fun e => (by cases e), fun e => absurd e h⟩
set_option maxRecDepth 100000 in
set_option maxHeartbeats 4000000 in
theorem same_gen : ∀ (d : Nat) (V U : TT) (v u : Value) (q : Int) (w : World), bigT d V = false → bigT d U = false → 0 ≤ q → q + d ≤ 1000 → TIn w any0 V v → TIn w any0 U u → Calls Tryz.prog 73 #[v, u, .int .i64 q] w fun e w' => (∃ b, e = .returned (.bool b) ∧ SmP b V U) ∧ Below w.heap.size w w' := by
  intro d
  induction d with
  | zero => intro V U v u q w h; cases h
  | succ d ih =>
  intro V U v u q w hbg hbg2 hq0 hq1 ⟨A, c, hv, hA⟩ ⟨A2, c2, hu, hA2⟩
  obtain ⟨hl4, -, b3⟩ := bigT_parts hbg
  obtain ⟨hl42, -, b32⟩ := bigT_parts hbg2
  subst hv hu
  have dq : decide (131072 < q) = false := decide_eq_false (by omega)
  have HB : Hid (Below w.heap.size w ((w.alloc (.cells #[.int .i64 V.k, .string V.nm, .int .i64 V.vr, .slice A V.args.length c] 24)).alloc (.cells #[.int .i64 U.k, .string U.nm, .int .i64 U.vr, .slice A2 U.args.length c2] 24))) := Lib.hid (bt (below_alloc w _) (below_alloc _ _))
  by_cases hk : ¬ V.k = U.k
  · have q1 : (V.k == U.k) = false := beq_eq_false_iff_ne.2 hk
    have q2 : (V.k != U.k) = true := by simp [bne, q1]
    have FB := Lib.hid (smp_no (V := V) (U := U) (fun e => hk (by rw [e])))
    unfold tv
    clear ih hbg hbg2 b3 b32 hA hA2 hk
    go_enter Tryz.func73, Tryz.ntmps73
    go_wp2
    go_ret
    exact ⟨⟨false, rfl, FB.out⟩, HB.out⟩
  replace hk := Classical.not_not.1 hk
  have q1 : (V.k == U.k) = true := by rw [hk]; exact beq_self_eq_true _
  have q1' : (V.k != U.k) = false := by simp [bne, q1]
  by_cases hn : ¬ V.nm = U.nm
  · have q2 : (V.nm.toList == U.nm.toList) = false := beq_eq_false_iff_ne.2 (fun e => hn (toList_inj e))
    have FB := Lib.hid (smp_no (V := V) (U := U) (fun e => hn (by rw [e])))
    unfold tv
    clear ih hbg hbg2 b3 b32 hA hA2 hk hn
    go_enter Tryz.func73, Tryz.ntmps73
    go_wp2
    go_ret
    exact ⟨⟨false, rfl, FB.out⟩, HB.out⟩
  replace hn := Classical.not_not.1 hn
  have q2 : (V.nm.toList == U.nm.toList) = true := by rw [hn]; exact beq_self_eq_true _
  by_cases hr : ¬ V.vr = U.vr
  · have q3 : (V.vr == U.vr) = false := beq_eq_false_iff_ne.2 hr
    have q3' : (V.vr != U.vr) = true := by simp [bne, q3]
    have FB := Lib.hid (smp_no (V := V) (U := U) (fun e => hr (by rw [e])))
    unfold tv
    clear ih hbg hbg2 b3 b32 hA hA2 hk hn hr
    go_enter Tryz.func73, Tryz.ntmps73
    go_wp2
    go_ret
    exact ⟨⟨false, rfl, FB.out⟩, HB.out⟩
  replace hr := Classical.not_not.1 hr
  have q3 : (V.vr == U.vr) = true := by rw [hr]; exact beq_self_eq_true _
  have q3' : (V.vr != U.vr) = false := by simp [bne, q3]
  by_cases hl : ¬ V.args.length = U.args.length
  · have q4 : (((V.args.length : Nat) : Int) == ((U.args.length : Nat) : Int)) = false := beq_eq_false_iff_ne.2 (by omega)
    have q4' : (((V.args.length : Nat) : Int) != ((U.args.length : Nat) : Int)) = true := by simp [bne, q4]
    have q5 : (V.args.length == U.args.length) = false := beq_eq_false_iff_ne.2 hl
    have FB := Lib.hid (smp_no (V := V) (U := U) (fun e => hl (by rw [e])))
    unfold tv
    clear ih hbg hbg2 b3 b32 hA hA2 hk hn hr
    go_enter Tryz.func73, Tryz.ntmps73
    go_wp2
    go_ret
    exact ⟨⟨false, rfl, FB.out⟩, HB.out⟩
  replace hl := Classical.not_not.1 hl
  have HI := Lib.hid ih
  have HBG := Lib.hid b3
  have HBG2 := Lib.hid b32
  have HEQ := Lib.hid (show V.args = U.args → V = U from fun h => TT_eq hk hn hr h)
  have HNE := Lib.hid (show V.args ≠ U.args → V ≠ U from fun h e => h (by rw [e]))
  unfold tv
  obtain ⟨args, ha⟩ : ∃ l, l = V.args := ⟨_, rfl⟩
  obtain ⟨brgs, hb9⟩ : ∃ l, l = U.args := ⟨_, rfl⟩
  rw [← ha, ← hb9] at HEQ HNE hl
  rw [← ha] at hA HBG hl4 HB ⊢
  rw [← hb9] at hA2 HBG2 HB ⊢
  obtain ⟨nm, hnm⟩ : ∃ l, l = V.nm := ⟨_, rfl⟩
  rw [← hk, ← hn, ← hr, ← hl]
  rw [← hk, ← hn, ← hr, ← hl] at HB
  have HL := Lib.hid hl
  have HA := Lib.hid hA
  have HA2 := Lib.hid hA2
  have BX := Lib.hid (two_box (w := w) (.cells #[.int .i64 V.k, .string V.nm, .int .i64 V.vr, .slice A args.length c] 24) (.cells #[.int .i64 V.k, .string V.nm, .int .i64 V.vr, .slice A2 args.length c2] 24))
  have hz : ((w.alloc (.cells #[.int .i64 V.k, .string V.nm, .int .i64 V.vr, .slice A args.length c] 24)).alloc (.cells #[.int .i64 V.k, .string V.nm, .int .i64 V.vr, .slice A2 args.length c2] 24)).heap.size = w.heap.size + 2 := by simp
  have HZ := Lib.hid hz
  clear ih hbg hbg2 b3 b32 ha hb9 hA hA2 hz hk hn hr hl q1 q1' q2 q3 q3' hnm nm
  go_enter Tryz.func73, Tryz.ntmps73
  go_wp2
  go_loopw [43] (fun i wr => ∃ k : Nat, k ≤ args.length ∧ i = .int .i64 k ∧ Hid (args.take k = brgs.take k) ∧ Hid (Below w.heap.size w wr) ∧ Hid (w.heap.size + 2 ≤ wr.heap.size ∧ wr.heap[w.heap.size]? = some (.cells #[.int .i64 V.k, .string V.nm, .int .i64 V.vr, .slice A args.length c] 24 (0, 0)) ∧ wr.heap[w.heap.size + 1]? = some (.cells #[.int .i64 V.k, .string V.nm, .int .i64 V.vr, .slice A2 args.length c2] 24 (0, 0)))) (fun i _ => args.length - (intOf i).toNat)
  case atStart => exact ⟨0, by omega, rfl, Lib.hid (by simp), HB, Lib.hid ⟨by rw [HZ.out]; exact Nat.le_refl _, BX.out.1, BX.out.2⟩⟩
  case round =>
    obtain ⟨k, hk, rfl, HTK, HW, HX⟩ := hrel
    by_cases hlt : k < args.length
    · have hlti : (k : Int) < (args.length : Int) := by omega
      obtain ⟨b, o, rfl, hb, hr⟩ := HA.out.at (by omega)
      have hlt2 : k < brgs.length := by rw [← HL.out]; exact hlt
      obtain ⟨b2, o2, rfl, hb2, hr2⟩ := HA2.out.at (by omega)
      obtain ⟨A', c', x0, x1, x2, x3, hin⟩ := hr wr HW.out k hlt
      obtain ⟨A2', c2', y0, y1, y2, y3, hin2⟩ := hr2 wr HW.out k hlt2
      have z0 := (cell4 HX.out.2.1).2.2.2
      have z1 := (cell4 HX.out.2.2).2.2.2
      have hbl : b < wr.heap.size := Nat.lt_of_lt_of_le hb HW.out.size
      have hbl2 : b2 < wr.heap.size := Nat.lt_of_lt_of_le hb2 HW.out.size
      have wq : IntKind.i64.wrap (q + 1) = q + 1 := IntWalk.i64_in _ (by omega)
      have CALL : Hid (∀ W, Below wr.heap.size wr W → Calls Tryz.prog 73 #[.agg #[.int .i64 args[k].k, .string args[k].nm, .int .i64 args[k].vr, .slice A' args[k].args.length c'], .agg #[.int .i64 brgs[k].k, .string brgs[k].nm, .int .i64 brgs[k].vr, .slice A2' brgs[k].args.length c2'], .int .i64 (q + 1)] W fun e w' => (∃ b, e = .returned (.bool b) ∧ SmP b args[k] brgs[k]) ∧ Below W.heap.size W w') := Lib.hid (fun W hW => HI.out args[k] brgs[k] _ _ (q + 1) W (HBG.out _ (List.getElem_mem hlt)) (HBG2.out _ (List.getElem_mem hlt2)) (by omega) (by omega) (hin.later hW) (hin2.later hW))
      clear hr hr2 hin hin2 HI
      go_wp2_with fail
      refine wp_region_held_drew (S := fun w' => w'.cell? ⟨w.heap.size, 3, none⟩ = some (.slice (some ⟨b, o, none⟩) args.length c) ∧ w'.cell? ⟨w.heap.size + 1, 3, none⟩ = some (.slice (some ⟨b2, o2, none⟩) args.length c2) ∧ w'.cell? ⟨b, o + k * 4, none⟩ = some (.int .i64 args[k].k) ∧ w'.cell? ⟨b, o + k * 4 + 1, none⟩ = some (.string args[k].nm) ∧ w'.cell? ⟨b, o + k * 4 + 2, none⟩ = some (.int .i64 args[k].vr) ∧ w'.cell? ⟨b, o + k * 4 + 3, none⟩ = some (.slice A' args[k].args.length c') ∧ w'.cell? ⟨b2, o2 + k * 4, none⟩ = some (.int .i64 brgs[k].k) ∧ w'.cell? ⟨b2, o2 + k * 4 + 1, none⟩ = some (.string brgs[k].nm) ∧ w'.cell? ⟨b2, o2 + k * 4 + 2, none⟩ = some (.int .i64 brgs[k].vr) ∧ w'.cell? ⟨b2, o2 + k * 4 + 3, none⟩ = some (.slice A2' brgs[k].args.length c2')) (by kernel_rfl) ?_ (fun hHeld => ?_)
      · exact ⟨z0, z1, x0, x1, x2, x3, y0, y1, y2, y3⟩
      refine WHt 0 ⟨some 46, .fieldAddr 24 (.tmp 3) 3, 0, _, #[], none⟩ (v := ?va0) rfl (by kernel_rfl) (fun _ _ _ h => h) (Or.inl ⟨by rfl, ?hya0⟩) (by assumption) ?_
      case hya0 => (intro wz hSw; (try dsimp only at hSw); go_simp; try with_reducible rfl)
      (try simp only [putz])
      refine WHt 1 ⟨some 47, .load 22 (.tmp 46), 22, _, #[⟨0, .data⟩], none⟩ (v := ?va1) rfl (by kernel_rfl) (fun _ _ _ h => h) (Or.inl ⟨by rfl, ?hya1⟩) (by assumption) ?_
      case hya1 => (intro wz hSw; (try dsimp only at hSw); go_simp; try with_reducible rfl)
      (try simp only [putz])
      refine WHt 2 ⟨some 48, .move (.tmp 7), 3, _, #[], none⟩ (v := ?va2) rfl (by kernel_rfl) (fun _ _ _ h => h) (Or.inl ⟨by rfl, ?hya2⟩) (by assumption) ?_
      case hya2 => (intro wz hSw; (try dsimp only at hSw); go_simp; try with_reducible rfl)
      (try simp only [putz])
      refine WHt 3 ⟨some 49, .indexAddr 22 (.tmp 47) (.tmp 48), 0, _, #[⟨1, .data⟩, ⟨2, .data⟩], none⟩ (v := ?va3) rfl (by kernel_rfl) (fun _ _ _ h => h) (Or.inl ⟨by rfl, ?hya3⟩) (by assumption) ?_
      case hya3 => (intro wz hSw; (try dsimp only at hSw); go_simp; try with_reducible rfl)
      (try simp only [putz])
      refine WHt 4 ⟨some 50, .load 24 (.tmp 49), 24, _, #[⟨3, .data⟩], none⟩ (v := ?va4) rfl (by kernel_rfl) (fun _ _ _ h => h) (Or.inl ⟨by rfl, ?hya4⟩) (by assumption) ?_
      case hya4 => (intro wz hSw; (try dsimp only at hSw); go_simp; try with_reducible rfl)
      (try simp only [putz])
      refine WHt 5 ⟨some 51, .fieldAddr 24 (.tmp 4) 3, 0, _, #[], none⟩ (v := ?va5) rfl (by kernel_rfl) (fun _ _ _ h => h) (Or.inl ⟨by rfl, ?hya5⟩) (by assumption) ?_
      case hya5 => (intro wz hSw; (try dsimp only at hSw); go_simp; try with_reducible rfl)
      (try simp only [putz])
      refine WHt 6 ⟨some 52, .load 22 (.tmp 51), 22, _, #[⟨5, .data⟩], none⟩ (v := ?va6) rfl (by kernel_rfl) (fun _ _ _ h => h) (Or.inl ⟨by rfl, ?hya6⟩) (by assumption) ?_
      case hya6 => (intro wz hSw; (try dsimp only at hSw); go_simp; try with_reducible rfl)
      (try simp only [putz])
      refine WHt 7 ⟨some 53, .move (.tmp 7), 3, _, #[], none⟩ (v := ?va7) rfl (by kernel_rfl) (fun _ _ _ h => h) (Or.inl ⟨by rfl, ?hya7⟩) (by assumption) ?_
      case hya7 => (intro wz hSw; (try dsimp only at hSw); go_simp; try with_reducible rfl)
      (try simp only [putz])
      refine WHt 8 ⟨some 54, .indexAddr 22 (.tmp 52) (.tmp 53), 0, _, #[⟨6, .data⟩, ⟨7, .data⟩], none⟩ (v := ?va8) rfl (by kernel_rfl) (fun _ _ _ h => h) (Or.inl ⟨by rfl, ?hya8⟩) (by assumption) ?_
      case hya8 => (intro wz hSw; (try dsimp only at hSw); go_simp; try with_reducible rfl)
      (try simp only [putz])
      refine WHt 9 ⟨some 55, .load 24 (.tmp 54), 24, _, #[⟨8, .data⟩], none⟩ (v := ?va9) rfl (by kernel_rfl) (fun _ _ _ h => h) (Or.inl ⟨by rfl, ?hya9⟩) (by assumption) ?_
      case hya9 => (intro wz hSw; (try dsimp only at hSw); go_simp; try with_reducible rfl)
      (try simp only [putz])
      refine WHt 10 ⟨some 56, .move (.tmp 2), 3, _, #[], none⟩ (v := ?va10) rfl (by kernel_rfl) (fun _ _ _ h => h) (Or.inl ⟨by rfl, ?hya10⟩) (by assumption) ?_
      case hya10 => (intro wz hSw; (try dsimp only at hSw); go_simp; try with_reducible rfl)
      (try simp only [putz])
      refine WHt 11 ⟨some 57, .binOp .add 3 (.tmp 56) (.const (.int .i64 1)) 3, 3, _, #[⟨10, .data⟩], none⟩ (v := ?va11) rfl (by kernel_rfl) (fun _ _ _ h => h) (Or.inl ⟨by rfl, ?hya11⟩) (by assumption) ?_
      case hya11 => (intro wz hSw; (try dsimp only at hSw); go_simp; try with_reducible rfl)
      (try simp only [putz])
      refine wpAnyH_ready (rs := [12]) (by kernel_rfl) (by simp) ?_
      refine AllReadyH.cons (o := ⟨some 58, .call { callee := .value (.func 73), args := #[.tmp 50, .tmp 55, .tmp 57], argTypes := #[24, 24, 3] }, 4, _, #[⟨4, .data⟩, ⟨9, .data⟩, ⟨11, .data⟩], none⟩) rfl (fun K hK => ?_) AllReadyH.nil
      go_simp
      refine (CALL.out _ (bdr wr)).mono ?_; rintro e w1 ⟨⟨bb, rfl, hsm⟩, hb1⟩
      have hb1' := bt (bdr wr) hb1
      go_wp2_with fail
      refine hK.out _ _ ?_ (fun hHeld => ?_)
      · exact ⟨(hb1'.cell (p := ⟨w.heap.size, 3, none⟩) (by have := HX.out.1; show w.heap.size < _; omega)).trans z0, (hb1'.cell (p := ⟨w.heap.size + 1, 3, none⟩) (by have := HX.out.1; show w.heap.size + 1 < _; omega)).trans z1, (hb1'.cell (p := ⟨b, _, none⟩) hbl).trans x0, (hb1'.cell (p := ⟨b, _, none⟩) hbl).trans x1, (hb1'.cell (p := ⟨b, _, none⟩) hbl).trans x2, (hb1'.cell (p := ⟨b, _, none⟩) hbl).trans x3, (hb1'.cell (p := ⟨b2, _, none⟩) hbl2).trans y0, (hb1'.cell (p := ⟨b2, _, none⟩) hbl2).trans y1, (hb1'.cell (p := ⟨b2, _, none⟩) hbl2).trans y2, (hb1'.cell (p := ⟨b2, _, none⟩) hbl2).trans y3⟩
      clear hK K
      (try simp only [putz])
      refine WHt 13 ⟨some 59, .unOp .not 4 (.tmp 58), 4, _, #[⟨12, .data⟩], none⟩ (v := ?va13) rfl (by kernel_rfl) (fun _ _ _ h => h) (Or.inl ⟨by rfl, ?hya13⟩) (by assumption) ?_
      case hya13 => (intro wz hSw; (try dsimp only at hSw); go_simp; try with_reducible rfl)
      (try simp only [putz])
      refine wpAnyH_done (by kernel_rfl) ?_ _
      have HW1 := Lib.hid (bt HW.out hb1')
      have HX1 := Lib.hid (And.intro (Nat.le_trans HX.out.1 hb1'.size) (And.intro ((hb1'.block w.heap.size (by have := HX.out.1; omega)).trans HX.out.2.1) ((hb1'.block (w.heap.size + 1) (by have := HX.out.1; omega)).trans HX.out.2.2)))
      clear hb1 hb1' CALL x0 x1 x2 x3 y0 y1 y2 y3 z0 z1 wq hHeld
      cases bb with
      | false =>
        have FB := Lib.hid (smp_no (HNE.out (fun e => by
          have h1 : args[k] = brgs[k] := by simp only [e]
          have := hsm.2 h1; cases this)))
        clear hsm
        go_wp2
        go_ret
        exact ⟨⟨false, rfl, FB.out⟩, HW1.out⟩
      | true =>
        have HTK2 := Lib.hid (show args.take (k + 1) = brgs.take (k + 1) by
          rw [List.take_succ_eq_append_getElem hlt, List.take_succ_eq_append_getElem hlt2, HTK.out, hsm.1 rfl])
        clear hsm
        go_wp2
        go_roundw
        case rel => exact ⟨k + 1, by omega, by go_num, HTK2, HW1, HX1⟩
        case measure => simp [intOf]; omega
    · have hge : ¬ (k : Int) < (args.length : Int) := by omega
      have HTT := Lib.hid (show SmP true V U from ⟨fun _ => HEQ.out (by
        have h1 := HTK.out
        rw [List.take_of_length_le (by omega), List.take_of_length_le (by rw [← HL.out]; omega)] at h1
        exact h1), fun _ => rfl⟩)
      go_wp2
      go_ret
      first | exact ⟨⟨true, rfl, HTT.out⟩, HW.out⟩ | exact ⟨.inr ⟨rfl, HTT.out⟩, HW.out⟩
set_option maxRecDepth 100000 in
set_option maxHeartbeats 1000000 in
theorem Same_gen {d : Nat} {V U : TT} {v u : Value} {w : World} (hd : d ≤ 500) (hbg : bigT d V = false) (hbg2 : bigT d U = false) (h : TIn w any0 V v) (h2 : TIn w any0 U u) : Calls Tryz.prog 58 #[v, u] w fun e w' => (∃ b, e = .returned (.bool b) ∧ SmP b V U) ∧ Below w.heap.size w w' := by
  have SM := Lib.hid (fun W (hW : Below w.heap.size w W) => same_gen d V U v u 0 W hbg hbg2 (by omega) (by omega) (h.later hW) (h2.later hW))
  obtain ⟨A, c, rfl, -⟩ := h
  obtain ⟨A2, c2, rfl, -⟩ := h2
  unfold tv at SM ⊢
  have HB := Lib.hid (bt (below_alloc w (.cells #[.int .i64 V.k, .string V.nm, .int .i64 V.vr, .slice A V.args.length c] 24)) (below_alloc _ (.cells #[.int .i64 U.k, .string U.nm, .int .i64 U.vr, .slice A2 U.args.length c2] 24)))
  clear hbg hbg2
  go_enter Tryz.func58, Tryz.ntmps58
  go_wp2_with fail
  refine (SM.out _ HB.out).mono ?_; rintro e w1 ⟨⟨bb, rfl, hsm⟩, hb1⟩
  have HSM := Lib.hid hsm
  have B1 := Lib.hid (bt HB.out hb1)
  clear hb1 SM hsm
  go_wp2
  go_ret
  exact ⟨⟨bb, rfl, HSM.out⟩, B1.out⟩
end Go.Proofs.YtifopogkbjhkjaaGreatDoor
