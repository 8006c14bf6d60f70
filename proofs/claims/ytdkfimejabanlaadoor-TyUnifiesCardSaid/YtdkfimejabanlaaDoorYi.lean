import Derived.Test.YtdkfimejabanlaaDoorYh
import Derived.Laws.MakeOwn
namespace Go.Proofs.YtdkfimejabanlaaDoor
open DR
open Go.ChangeShapes Go.WideShapes Go.ChangeAt Go.RowKit Go.WideMaps
set_option linter.unusedVariables false
set_option linter.unusedSimpArgs false
theorem infoIn : (Tryd.prog.info? 3).map (fun i => (i.zero, i.size, i.bytes)) = some (some (.int .i64 0), 1, 8) := by kernel_rfl
theorem made_zeros (n : Nat) : madeCells #[Value.int .i64 0] n = ((List.replicate n (0 : Int)).map (fun x => Value.int .i64 x)).toArray := by
  apply Array.ext
  · simp [size_madeCells]
  · intro i h1 h2
    simp [madeCells]
    have : i % 1 = 0 := Nat.mod_one i
    simp [this]
/-- make([]int, n). -/
theorem make_ints (w : World) (n : Nat) (h : n ≤ 2000) : Sem.run Tryd.prog (Instr.makeSlice 38 (.int .i64 (n : Int)) (.int .i64 (n : Int))) w = .ok (.slice (some ⟨w.heap.size, 0, none⟩) n n) (w.alloc (.cells ((List.replicate n (0 : Int)).map (fun x => Value.int .i64 x)).toArray 3)) := by
  obtain ⟨i0, hi0, hz0, hz1, hz2⟩ := info_parts infoIn
  have := run_makeSlice (w := w) 38 3 i0 (.int .i64 0) Tryd.underlying38 hi0 hz0 .i64 .i64 (n : Int) (n : Int) (by omega) (by omega) (by rw [hz1]; omega) (by rw [hz2]; omega) (by omega)
  rw [Int.toNat_natCast, hz1, Nat.mul_one] at this
  rw [← made_zeros]
  exact this
theorem shp_v {k : Nat} (h : k < 2000) : shp (.mk 7 ⟨#[]⟩ (k : Int) []) = true := by
  rw [shp_eq, Bool.and_eq_true]
  refine ⟨?_, rfl⟩
  have e : emptyB (⟨#[]⟩ : ByteArray) = true := by first | kernel_rfl | (unfold emptyB; simp [ByteArray.toList]; unfold ByteArray.toList.loop; simp [ByteArray.size])
  have h2 : (k : Int) ≤ 1999 := by omega
  simp [headOk, TT.k, TT.nm, TT.vr, TT.args, arT, e, h2]
/-- a variable stands for more than 500 nodes. -/
def Great (St : List TT) : Prop := ∃ x : Nat, x < St.length ∧ 500 < msz St (.mk 7 ⟨#[]⟩ (x : Int) [])
open Classical in
set_option maxRecDepth 100000 in
set_option maxHeartbeats 4000000 in
theorem great_ok {St : List TT} {rk : Int → Nat} (hst : StOk St rk) {sb : Nat} {n : Int} {w : World} (hs : SubR w sb n St) :
    Calls Tryd.prog 36 #[.pointer (some ⟨sb, 0, none⟩)] w fun e w' => e = .returned (.bool (decide (Great St))) ∧ Below w.heap.size w w' := by
  have hlen := hst.len
  obtain ⟨SA, sc, hs1, hrow⟩ := id hs
  have hsl := (Array.getElem?_eq_some_iff.1 hs1).1
  obtain ⟨g, hg⟩ : ∃ g, g = w.heap.size := ⟨_, rfl⟩
  obtain ⟨wM, hwM⟩ : ∃ z, z = w.alloc (.cells ((List.replicate St.length (0 : Int)).map (fun x => Value.int .i64 x)).toArray 3) := ⟨_, rfl⟩
  have MK := make_ints w St.length hlen
  rw [← hwM, ← hg] at MK
  have BM := Lib.hid (show Below w.heap.size w wM by rw [hwM]; exact below_alloc w _)
  have KM := Lib.hid (show KnR wM g (List.replicate St.length 0) by rw [hg, hwM]; exact heap_alloc_new w _)
  have SM := Lib.hid (show SubP wM (· ≠ g) sb n St by
    obtain ⟨A1, c1, q1, q2⟩ := hs.low.later BM.out
    exact ⟨A1, c1, q1, q2.weak (fun b _ (hb : b < w.heap.size) => by show b ≠ g; omega)⟩)
  have HSG := Lib.hid (show sb ≠ g by omega)
  have HG := Lib.hid hg
  obtain ⟨s0, s1⟩ := sub_cell hs1
  obtain ⟨m0, m1⟩ := sub_cell ((BM.out.block sb hsl).trans hs1)
  have HST := Lib.hid hst
  have ST := Lib.hid (Frm.refl wM (· = g))
  have KZ := Lib.hid (KOk.zeros St)
  clear hs1 hrow hs hsl hg hwM hst
  go_enter Tryd.func36, Tryd.ntmps36
  go_wp2
  go_loopw [16] (fun i wr => ∃ (k : Nat) (K' : List Int), k ≤ St.length ∧ i = .int .i64 k ∧ Hid (∀ x : Nat, x < k → ¬ 500 < msz St (.mk 7 ⟨#[]⟩ (x : Int) [])) ∧ Hid (KnR wr g K') ∧ Hid (KOk St K') ∧ Hid (Frm wM wr (· = g))) (fun i _ => St.length - (intOf i).toNat)
  case atStart => exact ⟨0, _, by omega, by first | rfl | trivial, Lib.hid (fun x h => by omega), KM, KZ, ST⟩
  case round =>
    obtain ⟨k, K', hk, rfl, HQ, HK, HO, HF⟩ := hrel
    by_cases hlt : k < St.length
    · have hlti : (k : Int) < (St.length : Int) := by omega
      have CALL := Lib.hid (measure_ok HST.out HSG.out (kc := St.length) (n := n) (.mk 7 ⟨#[]⟩ (k : Int) []) (shp_v (by omega)) (tv (.mk 7 ⟨#[]⟩ (k : Int) []) none 0) K' wr ⟨none, 0, rfl, .inl rfl⟩ (SM.out.mv HSG.out HF.out) HK.out HO.out)
      obtain ⟨C, hC⟩ : ∃ C, C = msz St (.mk 7 ⟨#[]⟩ (k : Int) []) := ⟨_, rfl⟩
      rw [← hC] at CALL
      have HC := Lib.hid hC
      clear hC
      by_cases hc : 500 < C
      · have dc := decide_eq_true hc
        have RES : Hid (decide (Great St) = true) := Lib.hid (decide_eq_true ⟨k, hlt, by rw [← HC.out]; exact hc⟩)
        go_wp2_with fail
        refine CALL.out.mono ?_; rintro e w2 ⟨rfl, K2, kn2, ko2, f2⟩
        have F2 := Lib.hid (BM.out.trans ((HF.out.trans f2).below (fun q hq => by have : q = g := hq; have := HG.out; omega) (by have := BM.out.size; omega)))
        clear kn2 ko2 f2 CALL
        go_wp2
        go_ret
        exact ⟨by rw [RES.out]; rfl, F2.out⟩
      · have dc := decide_eq_false hc
        have HN := Lib.hid (show ∀ x : Nat, x < k + 1 → ¬ 500 < msz St (.mk 7 ⟨#[]⟩ (x : Int) []) by
          intro x hx
          by_cases e : x = k
          · subst e; rw [← HC.out]; exact hc
          · exact HQ.out x (by omega))
        go_wp2_with fail
        refine CALL.out.mono ?_; rintro e w2 ⟨rfl, K2, kn2, ko2, f2⟩
        have F2 := Lib.hid (HF.out.trans f2)
        have KN2 := Lib.hid kn2
        have KO2 := Lib.hid ko2
        clear kn2 ko2 f2 CALL
        go_wp2
        go_roundw
        case rel => exact ⟨k + 1, K2, by omega, by go_num, Lib.hid (fun x h => by have := HN.out x h; omega), KN2, KO2, F2⟩
        case measure => simp [intOf]; omega
    · have RES : Hid (decide (Great St) = false) := Lib.hid (decide_eq_false (fun ⟨x, hx, h⟩ => HQ.out x (by omega) h))
      have hge : ¬ (k : Int) < (St.length : Int) := by omega
      have F2 := Lib.hid (BM.out.trans (HF.out.below (fun q hq => by have : q = g := hq; have := HG.out; omega) (by have := BM.out.size; omega)))
      go_wp2
      go_ret
      exact ⟨by rw [RES.out]; rfl, F2.out⟩
end Go.Proofs.YtdkfimejabanlaaDoor
