import Derived.Test.YtdkfimejabanlaaDoorIn
import Derived.Test.YtdkfimejabanlaaDoorMo
namespace Go.Proofs.YtdkfimejabanlaaDoor
open DR
open Go.ChangeShapes Go.WideShapes Go.ChangeAt Go.RowKit Go.WideMaps
set_option linter.unusedVariables false
set_option linter.unusedSimpArgs false
set_option maxRecDepth 100000 in
set_option maxHeartbeats 8000000 in
theorem odd_any : ∀ (d : Nat) (V : TT) (v : Value) (w : World), bigT d V = false → TIn w any0 V v → Calls Tryd.prog 33 #[v] w fun e w' => e = .returned (.bool (oddT V)) ∧ Below w.heap.size w w' := by
  intro d
  induction d with
  | zero => intro V v w h; cases h
  | succ d ih =>
  intro V v w hbg ⟨A, c, hv, hA⟩
  obtain ⟨hl4, hl60, b3⟩ := bigT_parts hbg
  subst hv
  have HI := Lib.hid ih
  have HBG := Lib.hid b3
  have HOD := Lib.hid (oddT_eq V)
  unfold tv
  obtain ⟨args, ha⟩ : ∃ l, l = V.args := ⟨_, rfl⟩
  obtain ⟨nm, hn⟩ : ∃ l, l = V.nm := ⟨_, rfl⟩
  rw [← ha] at hA HBG hl4 HOD ⊢
  rw [← hn] at HOD hl60 ⊢
  have HA := Lib.hid hA
  obtain ⟨wA, hwA⟩ : ∃ z, z = w.alloc (.cells #[.int .i64 V.k, .string nm, .int .i64 V.vr, .slice A args.length c] 27) := ⟨_, rfl⟩
  have BA := Lib.hid (show Below w.heap.size w wA by rw [hwA]; exact below_alloc w _)
  have HX := Lib.hid (show wA.heap[w.heap.size]? = some (.cells #[.int .i64 V.k, .string nm, .int .i64 V.vr, .slice A args.length c] 27 (0, 0)) by rw [hwA]; exact heap_alloc_new w _)
  have HZ := Lib.hid (show w.heap.size < wA.heap.size by rw [hwA]; simp)
  have HWA := Lib.hid hwA
  obtain ⟨x0, x1, x2, x3⟩ := cells4 HX.out
  clear ih hbg b3 ha hn hA hwA
  go_enter Tryd.func33, Tryd.ntmps33
  go_wp2
  try rw [← HWA.out]
  go_loopw [3] (fun i wr => ∃ k : Nat, k ≤ nm.size ∧ i = .int .i64 k ∧ wr = wA ∧ Hid (∀ b ∈ nm.data.toList.take k, badB b = false)) (fun i _ => nm.size - (intOf i).toNat)
  case atStart => exact ⟨0, by omega, by first | rfl | trivial, by first | rfl | trivial, Lib.hid (by simp)⟩
  case round =>
    obtain ⟨k, hk, rfl, hwr, HB⟩ := hrel
    subst hwr
    by_cases hlt : k < nm.size
    · have hlti : (k : Int) < (nm.size : Int) := by omega
      have hget : nm.data.toList[k]'(by rw [Array.length_toList]; exact hlt) = nm[k]'hlt := by rw [Array.getElem_toList]; rfl
      have hmem : nm[k]'hlt ∈ nm.data.toList := by rw [← hget]; exact List.getElem_mem _
      have HBAD := Lib.hid (show badB (nm[k]'hlt) = true → oddT V = true from fun hb => by
        rw [HOD.out, show nm.data.toList.any badB = true from List.any_eq_true.2 ⟨_, hmem, hb⟩]; rfl)
      have HTK := Lib.hid (show badB (nm[k]'hlt) = false → ∀ b ∈ nm.data.toList.take (k + 1), badB b = false from fun hb b hm => by
        rw [List.take_succ_eq_append_getElem (by rw [Array.length_toList]; exact hlt), List.mem_append, List.mem_singleton] at hm
        rcases hm with hm | hm
        · exact HB.out b hm
        · rw [hm, hget]; exact hb)
      have HBX := Lib.hid (show badB (nm[k]'hlt) = (decide ((nm[k]'hlt).toNat < 97) || decide (122 < (nm[k]'hlt).toNat)) from rfl)
      clear hget hmem
      by_cases h97 : (nm[k]'hlt).toNat < 97
      · have d1 : decide (((nm[k]'hlt).toNat : Int) < 97) = true := decide_eq_true (by omega)
        have RES := Lib.hid (HBAD.out (by rw [HBX.out, decide_eq_true h97]; rfl))
        clear h97 HBX HTK
        go_wp2
        go_ret
        exact ⟨by rw [RES.out]; rfl, BA.out⟩
      · have d1 : decide (((nm[k]'hlt).toNat : Int) < 97) = false := decide_eq_false (by omega)
        by_cases h122 : 122 < (nm[k]'hlt).toNat
        · have d2 : decide ((122 : Int) < ((nm[k]'hlt).toNat : Int)) = true := decide_eq_true (by omega)
          have RES := Lib.hid (HBAD.out (by rw [HBX.out, decide_eq_true h122]; simp))
          clear h97 h122 HBX HTK
          go_wp2
          go_ret
          exact ⟨by rw [RES.out]; rfl, BA.out⟩
        · have d2 : decide ((122 : Int) < ((nm[k]'hlt).toNat : Int)) = false := decide_eq_false (by omega)
          have NX := Lib.hid (HTK.out (by rw [HBX.out, decide_eq_false h97, decide_eq_false h122]; rfl))
          clear h97 h122 HBX HBAD
          go_wp2
          go_roundw
          case rel => exact ⟨k + 1, by omega, by go_num, by first | rfl | trivial, NX⟩
          case measure => simp [intOf]; omega
    · obtain rfl : nm.size = k := by omega
      have hge : ¬ (nm.size : Int) < (nm.size : Int) := by omega
      have HA1 := Lib.hid (show nm.data.toList.any badB = false from List.any_eq_false.2 (fun b hb => by
        have := HB.out b (by rw [List.take_of_length_le (by rw [Array.length_toList]; exact Nat.le_refl _)]; exact hb)
        rw [this]; simp))
      have HR := Lib.hid (show resNm nm = true → oddT V = true from fun h => by rw [HOD.out, h]; simp)
      by_cases r1 : nm.data.toList = [105, 110, 116]
      · have hnm : nm = ⟨#[105, 110, 116]⟩ := by cases nm; exact congrArg ByteArray.mk (Array.ext' r1)
        have RES := Lib.hid (HR.out (by unfold resNm; rw [r1]; rfl))
        subst hnm
        clear r1 HB
        go_wp2
        go_ret
        exact ⟨by rw [RES.out]; rfl, BA.out⟩
      by_cases r2 : nm.data.toList = [98, 111, 111, 108]
      · have hnm : nm = ⟨#[98, 111, 111, 108]⟩ := by cases nm; exact congrArg ByteArray.mk (Array.ext' r2)
        have RES := Lib.hid (HR.out (by unfold resNm; rw [r2]; rfl))
        subst hnm
        clear r1 r2 HB
        go_wp2
        go_ret
        exact ⟨by rw [RES.out]; rfl, BA.out⟩
      by_cases r3 : nm.data.toList = [117, 110, 105, 116]
      · have hnm : nm = ⟨#[117, 110, 105, 116]⟩ := by cases nm; exact congrArg ByteArray.mk (Array.ext' r3)
        have RES := Lib.hid (HR.out (by unfold resNm; rw [r3]; rfl))
        subst hnm
        clear r1 r2 r3 HB
        go_wp2
        go_ret
        exact ⟨by rw [RES.out]; rfl, BA.out⟩
      have p1 : ¬ nm.toList = [105, 110, 116] := fun e => r1 (by rw [toList_data] at e; exact e)
      have q1 : (nm.toList == ([105, 110, 116] : List UInt8)) = false := beq_eq_false_iff_ne.2 p1
      have p2 : ¬ nm.toList = [98, 111, 111, 108] := fun e => r2 (by rw [toList_data] at e; exact e)
      have q2 : (nm.toList == ([98, 111, 111, 108] : List UInt8)) = false := beq_eq_false_iff_ne.2 p2
      have p3 : ¬ nm.toList = [117, 110, 105, 116] := fun e => r3 (by rw [toList_data] at e; exact e)
      have q3 : (nm.toList == ([117, 110, 105, 116] : List UInt8)) = false := beq_eq_false_iff_ne.2 p3
      have HO2 := Lib.hid (show oddT V = oddL args by
        rw [HOD.out, HA1.out]
        unfold resNm
        rw [beq_eq_false_iff_ne.2 r1, beq_eq_false_iff_ne.2 r2, beq_eq_false_iff_ne.2 r3]; rfl)
      clear r1 r2 r3 HB HR HA1 HOD
      go_wp2
      go_loopw [4] (fun i w' => ∃ k : Nat, k ≤ args.length ∧ i = .int .i64 k ∧ Hid (oddL (args.take k) = false) ∧ Hid (Below wr.heap.size wr w')) (fun i _ => args.length - (intOf i).toNat)
      case atStart => exact ⟨0, by omega, by first | rfl | trivial, Lib.hid (by rw [List.take_zero]; rfl), Lib.hid (Below.refl _ _)⟩
      case round =>
        obtain ⟨k, hk, rfl, HL, HW⟩ := hrel
        have HWX := Lib.hid ((HW.out.block w.heap.size HZ.out).trans HX.out)
        have HBW := Lib.hid (bt BA.out HW.out)
        obtain ⟨e0, e1, e2, e3⟩ := cells4 HWX.out
        by_cases hlt : k < args.length
        · have hlti : (k : Int) < (args.length : Int) := by omega
          obtain ⟨b, o, rfl, hb, hr⟩ := HA.out.at (by omega)
          obtain ⟨A', c', y0, y1, y2, y3, hin⟩ := hr _ HBW.out k hlt
          have CALL := Lib.hid (HI.out args[k] _ _ (HBG.out _ (List.getElem_mem hlt)) hin)
          have HN := Lib.hid (show ∀ b, oddT args[k] = b → oddL (args.take (k + 1)) = b ∧ (b = true → oddL args = true) from fun b hb => by
            constructor
            · rw [oddL_any, List.take_succ_eq_append_getElem hlt, List.any_append, ← oddL_any, HL.out]; simp [hb]
            · intro h; rw [oddL_any]; exact List.any_eq_true.2 ⟨_, List.getElem_mem hlt, hb.trans h⟩)
          obtain ⟨E, hE⟩ : ∃ E, E = args[k] := ⟨_, rfl⟩
          rw [← hE] at y0 y1 y2 y3 CALL HN
          unfold tv at CALL
          clear hr hin hb HI hE HL
          cases ho : oddT E with
          | true =>
            rw [ho] at CALL
            have RES := Lib.hid (show oddT V = true by rw [HO2.out]; exact (HN.out true ho).2 rfl)
            clear ho
            go_wp2_with fail
            refine CALL.out.mono ?_; rintro e w5 ⟨rfl, b5⟩
            have B5 := Lib.hid (bt HBW.out b5)
            clear b5 CALL
            go_wp2
            go_ret
            exact ⟨by rw [RES.out]; rfl, B5.out⟩
          | false =>
            rw [ho] at CALL
            have RES := Lib.hid ((HN.out false ho).1)
            clear ho
            go_wp2_with fail
            refine CALL.out.mono ?_; rintro e w5 ⟨rfl, b5⟩
            have B5 := Lib.hid (bt HW.out b5)
            clear b5 CALL e0 e1 e2 e3 y0 y1 y2 y3
            go_wp2
            go_roundw
            case rel => exact ⟨k + 1, by omega, by go_num, RES, B5⟩
            case measure => simp [intOf]; omega
        · obtain rfl : args.length = k := by omega
          have hge : ¬ (args.length : Int) < (args.length : Int) := by omega
          have RES := Lib.hid (show oddT V = false by rw [HO2.out]; have := HL.out; rw [List.take_length] at this; exact this)
          go_wp2
          go_ret
          exact ⟨by rw [RES.out]; rfl, HBW.out⟩
end Go.Proofs.YtdkfimejabanlaaDoor
