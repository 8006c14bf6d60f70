/- The law's own run, out of its pieces. -/
import Derived.Test.YtcpghlilbohohaaGreatDoorKg
import Derived.Test.YtcpghlilbohohaaGreatDoorKh
import Derived.Test.YtcpghlilbohohaaGreatDoorKi
import Derived.Test.YtcpghlilbohohaaGreatDoorKj
namespace Go.Proofs.YtcpghlilbohohaaGreatDoor
open Go
set_option linter.unusedVariables false
theorem ndAll : [p0, p1, p2, p3, p4, p5, p6, p7, p8].all ndCode = true := by kernel_rfl
theorem ndR : ndCode r11 = true := by kernel_rfl
theorem ndL : ndCode lb = true := by kernel_rfl
theorem ndT : ndCode tl10 = true := by kernel_rfl
theorem body_eq : Tryz.f3.body = some (seqL [p0, p1, p2, p3, p4, p5, p6, p7, p8] (.seq (.seq r11 (.block 0 (.loop lb))) tl10)) := by kernel_rfl
theorem entry_eq : entryA T1 Tryz.f3 bodyC [] = entryA T1 Tryz.f3 (seqL [p0, p1, p2, p3, p4, p5, p6, p7, p8] (.seq (.seq r11 (.block 0 (.loop lb))) tl10)) [] := by
  have h : bodyC = seqL [p0, p1, p2, p3, p4, p5, p6, p7, p8] (.seq (.seq r11 (.block 0 (.loop lb))) tl10) := by
    unfold bodyC
    rw [body_eq]
  rw [← h]
theorem runAll : OrcOk Tryz.prog 10 tabs 3 [] (.bool true) := by
  obtain ⟨e, A2, H2, hev, he, hres⟩ := isEnd_out cp4
  have hT := good_ev hCD hev ndT
  have hL : LoopGood Tryz.prog lb s1.A (s1.H tabs) (.exit 0) s3.A (s3.H tabs) := rounds_cp hCD ndL (loop_cp hCD cp3 ndL) 25 cp2
  have h9 := CodeGood.seq (good_cp hCD cp1 ndR) (CodeGood.blockE hL.code)
  have hR := CodeGood.seq h9 hT
  have hA := parts_cp hCD hR (l := [p0, p1, p2, p3, p4, p5, p6, p7, p8]) (fun c hc => List.all_eq_true.1 ndAll c hc) (by simp) cp0
  rw [entry_eq] at hA
  exact orc_of_good fitsT Tryz.func3 (by kernel_rfl) body_eq rfl rfl hA he hres
end Go.Proofs.YtcpghlilbohohaaGreatDoor
