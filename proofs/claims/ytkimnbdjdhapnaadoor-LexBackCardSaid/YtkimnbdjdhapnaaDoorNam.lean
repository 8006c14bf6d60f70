import Derived.Test.YtkimnbdjdhapnaaDoorKey
namespace Go.Proofs.YtkimnbdjdhapnaaDoor
open Go.ChangeShapes Go.WideShapes Go.ChangeAt Go.RowKit Go.Shelf Go.Lib CharsMath
set_option linter.unusedVariables false
set_option maxHeartbeats 4000000 in
set_option maxRecDepth 100000 in
theorem name_any (t : ByteArray) (w : World) (hs : t.size ≤ 1000000) (hT : Tabs w) : Calls Tryd.prog 15 #[.string t] w fun e w' => e = .returned (.tuple #[.int .i64 (nameT t).1, .int .i64 (nameT t).2]) ∧ Below w.heap.size w w' := by
  have HT := Lib.hid hT
  clear hT
  obtain ⟨E, hE⟩ : ∃ E, E = endV t := ⟨_, rfl⟩
  have hEle : E ≤ t.size := by rw [hE]; exact endGo_le t _ _
  have NT : Hid (nameT t = (if keyV (t.extract 0 E) = true then 4 else if upperV t = true then 3 else 2, E)) := Lib.hid (by unfold nameT; rw [← hE])
  have HE : Hid (endGo t (t.size + 1) 0 = E) := Lib.hid hE.symm
  have KA := Lib.hid (fun W => key_any (t.extract 0 E) W)
  have UA := Lib.hid (fun W (hT : Tabs W) => upper_any t W hT)
  clear hE
  obtain ⟨kv, hkv⟩ : ∃ kv, kv = keyV (t.extract 0 E) := ⟨_, rfl⟩
  obtain ⟨uv, huv⟩ : ∃ uv, uv = upperV t := ⟨_, rfl⟩
  rw [← hkv] at KA NT
  rw [← huv] at UA NT
  clear hkv huv
  have b0 : (0 : Int) ≤ (E : Int) := by omega
  have b1 : (E : Int) ≤ (t.size : Int) := by omega
  go_enter Tryd.func15, Tryd.ntmps15
  go_wp2
  go_loopg [3, 4, 5] (t.size + 1) (fun gk nv _ _ wr => ∃ (pos f : Nat), nv = .int .i64 t.size ∧ Hid (It w wr t pos) ∧ pos ≤ t.size ∧ gk = f + 1 ∧ t.size ≤ pos + f ∧ Hid (endGo t (f + 1) pos = E))
  case atStart => exact ⟨0, t.size, rfl, Lib.hid (It.start w t), by omega, rfl, by omega, HE⟩
  case round =>
    obtain ⟨pos, f, rfl, IT, hp, rfl, hf, hc⟩ := hrel
    by_cases hps : pos < t.size
    · have hnx := fun ty => run_next_any_at (P := Tryd.prog) wr w.heap.size t pos ty IT.out.2 hps
      have hw1 := wd_pos t pos hps
      have hw2 := wd_le t pos hps
      have hr := rn_le t pos hps
      obtain ⟨r, hrr⟩ : ∃ r, r = (Utf8.decode t pos).1 := ⟨_, rfl⟩
      obtain ⟨p2, hp2⟩ : ∃ p2, p2 = pos + (Utf8.decode t pos).2 := ⟨_, rfl⟩
      have er : rn t pos = r := hrr.symm
      have ep : pos + wd t pos = p2 := hp2.symm
      rw [← hrr, ← hp2] at hnx
      rw [er] at hr
      have I2 := Lib.hid (IT.out.move p2)
      have HC : Hid ((if goesV r = true then endGo t f p2 else pos) = E) := Lib.hid (by rw [← hc.out, ← er, ← ep]; simp only [endGo]; rw [if_pos hps])
      have T2 := Lib.hid (HT.out.below I2.out.1)
      have CG := Lib.hid (fun W (hT : Tabs W) => goes_any (r : Int) W (by omega) (by omega) hT)
      have hpl : pos < p2 := by omega
      have hpl2 : p2 ≤ t.size := by omega
      obtain ⟨f, rfl⟩ : ∃ g, f = g + 1 := ⟨f - 1, by omega⟩
      obtain ⟨W2, hW2⟩ : ∃ W2, W2 = wr.iterAt w.heap.size t p2 := ⟨_, rfl⟩
      rw [← hW2] at hnx I2 T2
      clear hrr hp2 er ep IT hc hW2
      cases hgo : goesV r with
      | true =>
        have FV : Hid (endGo t (f + 1) p2 = E) := Lib.hid (by rw [← HC.out, if_pos hgo])
        go_wp2_with fail
        refine (CG.out _ T2.out).mono ?_; rintro e w4 ⟨rfl, hb4⟩
        rw [hgo]
        have I4 := Lib.hid (I2.out.same hb4)
        clear hgo hb4 HC
        go_wp2
        go_roundg (f + 1)
        case measure => omega
        case rel => exact ⟨p2, f, rfl, I4, hpl2, rfl, by omega, FV⟩
      | false =>
        have FV : pos = E := by rw [← HC.out, hgo]; rfl
        subst FV
        cases kv with
        | true =>
          have NV : Hid ((nameT t).1 = 4 ∧ (nameT t).2 = pos) := Lib.hid (by rw [NT.out]; exact ⟨rfl, rfl⟩)
          clear HC NT
          go_wp2_with fail
          refine (CG.out _ T2.out).mono ?_; rintro e w4 ⟨rfl, hb4⟩
          rw [hgo]
          have B4 := Lib.hid (I2.out.same hb4).1
          clear hgo hb4
          go_wp2_with fail
          refine (KA.out _).mono ?_; rintro e w5 ⟨rfl, rfl⟩
          go_wp2_with fail
          go_returns
          exact ⟨by rw [NV.out.1, NV.out.2]; rfl, B4.out⟩
        | false =>
          cases uv with
          | true =>
            have NV : Hid ((nameT t).1 = 3 ∧ (nameT t).2 = pos) := Lib.hid (by rw [NT.out]; exact ⟨rfl, rfl⟩)
            clear HC NT
            go_wp2_with fail
            refine (CG.out _ T2.out).mono ?_; rintro e w4 ⟨rfl, hb4⟩
            rw [hgo]
            have B4 := Lib.hid (I2.out.same hb4).1
            have T4 := Lib.hid (HT.out.below B4.out)
            clear hgo hb4
            go_wp2_with fail
            refine (KA.out _).mono ?_; rintro e w5 ⟨rfl, rfl⟩
            go_wp2_with fail
            refine (UA.out _ T4.out).mono ?_; rintro e w6 ⟨rfl, hb6⟩
            have B6 := Lib.hid (bt B4.out hb6)
            clear hb6
            go_wp2_with fail
            go_returns
            exact ⟨by rw [NV.out.1, NV.out.2]; rfl, B6.out⟩
          | false =>
            have NV : Hid ((nameT t).1 = 2 ∧ (nameT t).2 = pos) := Lib.hid (by rw [NT.out]; exact ⟨rfl, rfl⟩)
            clear HC NT
            go_wp2_with fail
            refine (CG.out _ T2.out).mono ?_; rintro e w4 ⟨rfl, hb4⟩
            rw [hgo]
            have B4 := Lib.hid (I2.out.same hb4).1
            have T4 := Lib.hid (HT.out.below B4.out)
            clear hgo hb4
            go_wp2_with fail
            refine (KA.out _).mono ?_; rintro e w5 ⟨rfl, rfl⟩
            go_wp2_with fail
            refine (UA.out _ T4.out).mono ?_; rintro e w6 ⟨rfl, hb6⟩
            have B6 := Lib.hid (bt B4.out hb6)
            clear hb6
            go_wp2_with fail
            go_returns
            exact ⟨by rw [NV.out.1, NV.out.2]; rfl, B6.out⟩
    · have hnx := fun ty => run_next_end_at (P := Tryd.prog) wr w.heap.size t pos ty IT.out.2 hps
      have FV : t.size = E := by rw [← hc.out]; simp only [endGo]; rw [if_neg hps]
      have HB := Lib.hid IT.out.1
      have T4 := Lib.hid (HT.out.below HB.out)
      rw [← FV] at KA NT b0 b1
      rw [ext_all] at KA
      clear FV
      clear IT hc HE
      cases kv with
      | true =>
        have NV : Hid ((nameT t).1 = 4 ∧ (nameT t).2 = t.size) := Lib.hid (by rw [NT.out]; exact ⟨rfl, rfl⟩)
        clear NT
        go_wp2_with fail
        refine (KA.out _).mono ?_; rintro e w5 ⟨rfl, rfl⟩
        go_wp2_with fail
        go_returns
        exact ⟨by rw [NV.out.1, NV.out.2]; rfl, HB.out⟩
      | false =>
        cases uv with
        | true =>
          have NV : Hid ((nameT t).1 = 3 ∧ (nameT t).2 = t.size) := Lib.hid (by rw [NT.out]; exact ⟨rfl, rfl⟩)
          clear NT
          go_wp2_with fail
          refine (KA.out _).mono ?_; rintro e w5 ⟨rfl, rfl⟩
          go_wp2_with fail
          refine (UA.out _ T4.out).mono ?_; rintro e w6 ⟨rfl, hb6⟩
          have B6 := Lib.hid (bt HB.out hb6)
          clear hb6
          go_wp2_with fail
          go_returns
          exact ⟨by rw [NV.out.1, NV.out.2]; rfl, B6.out⟩
        | false =>
          have NV : Hid ((nameT t).1 = 2 ∧ (nameT t).2 = t.size) := Lib.hid (by rw [NT.out]; exact ⟨rfl, rfl⟩)
          clear NT
          go_wp2_with fail
          refine (KA.out _).mono ?_; rintro e w5 ⟨rfl, rfl⟩
          go_wp2_with fail
          refine (UA.out _ T4.out).mono ?_; rintro e w6 ⟨rfl, hb6⟩
          have B6 := Lib.hid (bt HB.out hb6)
          clear hb6
          go_wp2_with fail
          go_returns
          exact ⟨by rw [NV.out.1, NV.out.2]; rfl, B6.out⟩
end Go.Proofs.YtkimnbdjdhapnaaDoor
