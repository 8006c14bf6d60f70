import Derived.Test.YtcbcceghkgajjaaDoorUpper
import Derived.Test.YtcbcceghkgajjaaDoorLine
namespace Go.Proofs.YtcbcceghkgajjaaDoor
open Go.ChangeShapes Go.WideShapes Go.ChangeAt Go.RowKit Go.Shelf Go.Lib CharsMath
def k1 : ByteArray := { data := #[195, 169, 195, 169, 120] }
def k2 : ByteArray := { data := #[97, 98] }
def k3 : ByteArray := { data := #[] }
def k4 : ByteArray := { data := #[97, 10] }
def k5 : ByteArray := { data := #[97] }
def k6 : ByteArray := { data := #[97, 10, 98, 10, 99] }
def k7 : ByteArray := { data := #[195, 137, 97] }
def k8 : ByteArray := { data := #[255, 254] }
theorem kp1 : posGo k1 4 k1.size 0 1 1 = (1, 3) := by decide +kernel
theorem kp2 : posGo k2 2 k2.size 0 1 1 = (1, 3) := by decide +kernel
theorem kp3 : posGo k3 0 k3.size 0 1 1 = (1, 1) := by decide +kernel
theorem kl4 : lineS k4 2 = { data := #[] } ∧ lineB k4 2 = true := by decide +kernel
theorem kl5 : lineB k5 2 = false := by decide +kernel
theorem kl6 : lineS k6 2 = { data := #[98] } ∧ lineB k6 2 = true := by decide +kernel
theorem kc : classV 95 = 1 ∧ classV 39 = 1 ∧ classV 55 = 2 ∧ classV 1635 = 0 ∧ classV 9 = 3 ∧ classV 38 = 0 ∧ classV (-1) = 0 := by decide +kernel
theorem ku : upperV k7 = true ∧ upperV k5 = false ∧ upperV k3 = false := by decide +kernel
theorem kr : runes k8 = 2 := by decide +kernel
set_option maxRecDepth 100000 in
set_option maxHeartbeats 4000000 in
theorem known_walk (w : World) (hT : Tabs w) :
    Calls Tryd.prog 3 #[] w fun e w' => e = .returned (.bool true) ∧ Below w.heap.size w w' := by
  have hp := hT.hp
  have HT := Lib.hid hT; clear hT
  obtain ⟨h0, hc⟩ := hp
  have HC := Lib.hid hc; clear hc
  go_enter Tryd.func3, Tryd.ntmps3
  go_wp2_with fail
  refine (awake _ h0 HC.out).mono ?_; rintro e w1 ⟨rfl, hb1⟩
  have HT1 := Lib.hid (HT.out.below hb1)
  go_wp2_with fail
  refine (pos_any k1 _ 4 _ (by decide) (by decide) (.inl rfl)).mono ?_; rintro e w2 ⟨rfl, hb2⟩
  rw [kp1]
  have HT2 := Lib.hid (HT1.out.below hb2)
  go_wp2_with fail
  refine (pos_any k2 _ 2 _ (by decide) (by decide) (.inr (.inr ⟨by decide, rfl⟩))).mono ?_; rintro e w3 ⟨rfl, hb3⟩
  rw [kp2]
  have HT3 := Lib.hid (HT2.out.below hb3)
  go_wp2_with fail
  refine (pos_any k3 _ 0 _ (by decide) (by decide) (.inr (.inl ⟨by decide, rfl⟩))).mono ?_; rintro e w4 ⟨rfl, hb4⟩
  rw [kp3]
  have HT4 := Lib.hid (HT3.out.below hb4)
  go_wp2_with fail
  refine (line_any k4 _ _ (by decide)).mono ?_; rintro e w5 ⟨rfl, hb5⟩
  rw [kl4.1, kl4.2]
  have HT5 := Lib.hid (HT4.out.below hb5)
  go_wp2_with fail
  refine (line_any k5 _ _ (by decide)).mono ?_; rintro e w6 ⟨rfl, hb6⟩
  rw [kl5]
  have HT6 := Lib.hid (HT5.out.below hb6)
  go_wp2_with fail
  refine (line_any k6 _ _ (by decide)).mono ?_; rintro e w7 ⟨rfl, hb7⟩
  rw [kl6.1, kl6.2]
  have HT7 := Lib.hid (HT6.out.below hb7)
  have B7 : Below w.heap.size w w7 := hb1.trans ((hb2.trans ((hb3.trans ((hb4.trans ((hb5.trans ((hb6.trans (hb7.mono hb6.size)).mono hb5.size)).mono hb4.size)).mono hb3.size)).mono hb2.size)).mono hb1.size)
  clear hb1 hb2 hb3 hb4 hb5 hb6 hb7
  go_wp2_with fail
  refine (class_any 95 _ (by decide) (by decide) HT7.out).mono ?_; rintro e w8 ⟨rfl, hb1⟩
  rw [kc.1]
  have HT8 := Lib.hid (HT7.out.below hb1)
  go_wp2_with fail
  refine (class_any 39 _ (by decide) (by decide) HT8.out).mono ?_; rintro e w9 ⟨rfl, hb2⟩
  rw [kc.2.1]
  have HT9 := Lib.hid (HT8.out.below hb2)
  go_wp2_with fail
  refine (class_any 55 _ (by decide) (by decide) HT9.out).mono ?_; rintro e w10 ⟨rfl, hb3⟩
  rw [kc.2.2.1]
  have HT10 := Lib.hid (HT9.out.below hb3)
  go_wp2_with fail
  refine (class_any 1635 _ (by decide) (by decide) HT10.out).mono ?_; rintro e w11 ⟨rfl, hb4⟩
  rw [kc.2.2.2.1]
  have HT11 := Lib.hid (HT10.out.below hb4)
  go_wp2_with fail
  refine (class_any 9 _ (by decide) (by decide) HT11.out).mono ?_; rintro e w12 ⟨rfl, hb5⟩
  rw [kc.2.2.2.2.1]
  have HT12 := Lib.hid (HT11.out.below hb5)
  go_wp2_with fail
  refine (class_any 38 _ (by decide) (by decide) HT12.out).mono ?_; rintro e w13 ⟨rfl, hb6⟩
  rw [kc.2.2.2.2.2.1]
  have HT13 := Lib.hid (HT12.out.below hb6)
  go_wp2_with fail
  refine (class_any (-1) _ (by decide) (by decide) HT13.out).mono ?_; rintro e w14 ⟨rfl, hb7⟩
  rw [kc.2.2.2.2.2.2]
  have HT14 := Lib.hid (HT13.out.below hb7)
  have B14 : Below w.heap.size w w14 := B7.trans ((hb1.trans ((hb2.trans ((hb3.trans ((hb4.trans ((hb5.trans ((hb6.trans (hb7.mono hb6.size)).mono hb5.size)).mono hb4.size)).mono hb3.size)).mono hb2.size)).mono hb1.size)).mono B7.size)
  clear hb1 hb2 hb3 hb4 hb5 hb6 hb7
  go_wp2_with fail
  refine (upper_any k7 _ HT14.out).mono ?_; rintro e w15 ⟨rfl, hb1⟩
  rw [ku.1]
  have HT15 := Lib.hid (HT14.out.below hb1)
  go_wp2_with fail
  refine (upper_any k5 _ HT15.out).mono ?_; rintro e w16 ⟨rfl, hb2⟩
  rw [ku.2.1]
  have HT16 := Lib.hid (HT15.out.below hb2)
  go_wp2_with fail
  refine (upper_any k3 _ HT16.out).mono ?_; rintro e w17 ⟨rfl, hb3⟩
  rw [ku.2.2]
  go_wp2_with fail
  refine (runes_any k8 _ (by decide)).mono ?_; rintro e w18 ⟨rfl, hb4⟩
  rw [kr]
  go_wp2
  go_ret
  exact ⟨rfl, B14.trans ((hb1.trans ((hb2.trans ((hb3.trans (hb4.mono hb3.size)).mono hb2.size)).mono hb1.size)).mono B14.size)⟩
end Go.Proofs.YtcbcceghkgajjaaDoor
