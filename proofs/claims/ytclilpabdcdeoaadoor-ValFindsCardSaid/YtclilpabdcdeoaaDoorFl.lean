import Derived.Test.YtclilpabdcdeoaaDoorNw
import Derived.BigQuiet
namespace Go.Proofs.YtclilpabdcdeoaaDoor
open Go.ChangeShapes Go.WideShapes Go.ChangeAt Go.RowKit Go.WideMaps
set_option linter.unusedVariables false
/-- a slice's row of texts. -/
def SS (w : World) (A : Option Addr) (n : Nat) (l : List ByteArray) : Prop :=
  l.length = n ∧ (0 < n → ∃ b off, A = some ⟨b, off, none⟩ ∧ b < w.heap.size ∧ ∀ j, j < n → w.cell? ⟨b, off + j, none⟩ = some (.string (l.getD j ⟨#[]⟩)))
theorem SS.at {w : World} {A : Option Addr} {n : Nat} {l : List ByteArray} (h : SS w A n l) (hn : 0 < n) : ∃ b off, A = some ⟨b, off, none⟩ ∧ ∀ W j, Below w.heap.size w W → j < n → W.cell? ⟨b, off + j, none⟩ = some (.string (l.getD j ⟨#[]⟩)) := by
  obtain ⟨b, off, e, hb, hc⟩ := h.2 hn
  exact ⟨b, off, e, fun W j hW hj => (hW.cell (p := ⟨b, off + j, none⟩) hb).trans (hc j hj)⟩
theorem ss_own {w : World} {B n cap : Nat} {A : Option Addr} {l : List ByteArray} (h : w.ownsRow B 9 1 (.slice A n cap) n (strs l)) : SS w A n l := by
  have hl : l.length = n := by have := h.1; simp [strs] at this; omega
  refine ⟨hl, fun hn => ?_⟩
  rcases h.2 with ⟨_, e⟩ | ⟨g, cap', cur, e, h1, h2, h3⟩
  · omega
  · injection e with e1 e2 e3
    subst e1
    refine ⟨g, 0, rfl, (Array.getElem?_eq_some_iff.1 h2).1, fun j hj => ?_⟩
    have := h.cellAt j (by omega)
    rw [Nat.zero_add, this]
    simp [strs, List.getD, show j < l.length by omega]
theorem chain_lt {w : World} {c : List Bd} {q : Option Addr} (h : ChainAt w c q) : ∀ b', q = some ⟨b', 0, none⟩ → b' < w.heap.size := by
  intro b' hb'
  cases c with
  | nil => rw [show q = none from h] at hb'; cases hb'
  | cons y r =>
    obtain ⟨y, j⟩ := y
    obtain ⟨b2, u2, e2, hb2, hu2, hr2⟩ := h
    rw [e2] at hb'; injection hb' with hb'; injection hb' with hb'; subst hb'
    exact (Array.getElem?_eq_some_iff.1 hb2).1
theorem chain_cons {wr : World} {l : List ByteArray} {i : Nat} {q : Option Addr} (h : ChainAt wr (chn l i) q) (x : ByteArray) (hx : x = l.getD i ⟨#[]⟩) : ChainAt (wr.alloc (EnvO x i q)) (chn l (i + 1)) (some ⟨wr.heap.size, 0, none⟩) := by
  subst hx
  exact ⟨wr.heap.size, q, rfl, (MapKept.heap_alloc wr _).1, chain_lt h, chain_below ((Below.refl _ wr).alloc (Nat.le_refl _) _) _ _ (Nat.le_refl _) h⟩
theorem chn_small {l : List ByteArray} {i : Nat} (h : ∀ p ∈ chn l i, p.1.size ≤ 60) (x : ByteArray) (hx : x = l.getD i ⟨#[]⟩) (h60 : x.size ≤ 60) : ∀ p ∈ chn l (i + 1), p.1.size ≤ 60 := by
  intro p hp
  rcases List.mem_cons.1 hp with rfl | hp
  · subst hx; exact h60
  · exact h p hp
theorem optV_of (F : Option Int) (z : Int) (h : F = if z < 0 then none else some z) : ∃ kF zF fB, optV F = num kF zF ∧ F.isSome = fB ∧ ((z < 0 ∧ fB = false) ∨ (0 ≤ z ∧ fB = true ∧ zF = z)) := by
  by_cases hz : z < 0
  · rw [if_pos hz] at h; subst h; exact ⟨0, 0, false, rfl, rfl, .inl ⟨hz, rfl⟩⟩
  · rw [if_neg hz] at h; subst h; exact ⟨1, z, true, rfl, rfl, .inr ⟨by omega, rfl, rfl⟩⟩
theorem namesC_apart (c : List Bd) : Apart (namesC c) := namesF_apart c [] trivial
set_option maxRecDepth 100000 in
set_option maxHeartbeats 4000000 in
theorem finds_walk {w : World} {A : Option Addr} {n cap : Nat} {l : List ByteArray} {a : ByteArray} (h : SS w A n l) :
    Calls Tryd.prog 6 #[.slice A n cap, .string a] w fun e w' => e = .returned (.bool true) ∧ Below w.heap.size w w' := by
  have H := Lib.hid h
  clear h
  by_cases hb : (20 : Int) < (n : Int)
  · have d1 := decide_eq_true hb
    have d1' := decide_eq_true (show 20 < n by omega)
    go_enter Tryd.func6, Tryd.ntmps6
    go_wp2_with fail
    refine (awake w).mono ?_; rintro e w1 ⟨rfl, hb1⟩
    have HB := Lib.hid hb1; clear hb1
    go_wp2
    go_ret
    exact ⟨rfl, HB.out⟩
  have d1 := decide_eq_false hb
  have d1' := decide_eq_false (show ¬ 20 < n by omega)
  by_cases hs : (60 : Int) < (a.size : Int)
  · have d2 := decide_eq_true hs
    have d2' := decide_eq_true (show 60 < a.size by omega)
    go_enter Tryd.func6, Tryd.ntmps6
    go_wp2_with fail
    refine (awake w).mono ?_; rintro e w1 ⟨rfl, hb1⟩
    have HB := Lib.hid hb1; clear hb1
    go_wp2
    go_ret
    exact ⟨rfl, HB.out⟩
  have d2 := decide_eq_false hs
  have d2' := decide_eq_false (show ¬ 60 < a.size by omega)
  go_enter Tryd.func6, Tryd.ntmps6
  go_wp2_with fail
  refine (awake w).mono ?_; rintro e w1 ⟨rfl, hb1⟩
  have HB1 := Lib.hid hb1; clear hb1
  go_wp2
  go_loopw [5, 6, 7] (fun ev av iv wr => ∃ (i : Nat) (q : Option Addr), ev = .pointer q ∧ av = .int .i64 (atN l a i) ∧ iv = .int .i64 i ∧ i ≤ n ∧ Hid (ChainAt wr (chn l i) q) ∧ Hid (∀ p ∈ chn l i, p.1.size ≤ 60) ∧ Hid (Below w.heap.size w wr)) (fun _ _ iv _ => n - (intOf iv).toNat)
  case atStart => exact ⟨0, none, rfl, rfl, rfl, by omega, Lib.hid rfl, Lib.hid (fun p hp => by cases hp), HB1⟩
  case round =>
    obtain ⟨i, q, rfl, rfl, rfl, hi, HC, HZ, HB⟩ := hrel
    clear HB1
    obtain ⟨z, hz⟩ : ∃ z, z = atN l a i := ⟨_, rfl⟩
    rw [← hz]
    have HAT := Lib.hid hz
    clear hz
    by_cases hin : i < n
    · have hin' : (i : Int) < (n : Int) := by omega
      obtain ⟨b, o, rfl, k⟩ := H.out.at (by omega)
      have x1 := k wr i HB.out hin
      obtain ⟨x, hx⟩ : ∃ x, x = l.getD i ⟨#[]⟩ := ⟨_, rfl⟩
      have x2 : ∀ O, (wr.alloc O).cell? ⟨b, o + i, none⟩ = some (.string (l.getD i ⟨#[]⟩)) := fun O => k _ i (HB.out.alloc HB.out.size O) hin
      rw [← hx] at x1 x2
      have HX := Lib.hid hx
      clear k hx
      by_cases h60 : (60 : Int) < (x.size : Int)
      · have d3 := decide_eq_true h60
        have d3' := decide_eq_true (show 60 < x.size by omega)
        clear x2
        go_wp2
        go_ret
        exact ⟨rfl, HB.out⟩
      · have d3 := decide_eq_false h60
        have d3' := decide_eq_false (show ¬ 60 < x.size by omega)
        have HC2 : Hid (ChainAt (wr.alloc (EnvO x i q)) (chn l (i + 1)) (some ⟨wr.heap.size, 0, none⟩)) := Lib.hid (chain_cons HC.out x HX.out)
        have HZ2 : Hid (∀ p ∈ chn l (i + 1), p.1.size ≤ 60) := Lib.hid (chn_small HZ.out x HX.out (by omega))
        have HB2 : Hid (Below w.heap.size w (wr.alloc (EnvO x i q))) := Lib.hid (HB.out.alloc HB.out.size _)
        by_cases he : eqB x a = true
        · have d : (x.toList == a.toList) = true := he
          have HAT2 : Hid ((i : Int) = atN l a (i + 1)) := Lib.hid (by unfold atN; rw [← HX.out, if_pos he])
          clear HC HZ HB HAT
          go_wp2
          go_roundw
          case rel => exact ⟨i + 1, _, rfl, by rw [← HAT2.out], by go_num, hin, HC2, HZ2, HB2⟩
          case measure => simp [intOf]; omega
        · have d : (x.toList == a.toList) = false := by unfold eqB at he; simpa using he
          have HAT2 : Hid (z = atN l a (i + 1)) := Lib.hid (by unfold atN; rw [← HX.out, if_neg he]; exact HAT.out)
          clear HC HZ HB HAT
          go_wp2
          go_roundw
          case rel => exact ⟨i + 1, _, rfl, by rw [← HAT2.out], by go_num, hin, HC2, HZ2, HB2⟩
          case measure => simp [intOf]; omega
    · obtain rfl : i = n := by omega
      have hin' : ¬ (i : Int) < (i : Int) := by omega
      have hl20 : (chn l i).length ≤ 20 := by rw [chn_len]; omega
      obtain ⟨F, hF⟩ : ∃ F, F = findC (chn l i) a := ⟨_, rfl⟩
      have FA : Hid (Calls Tryd.prog 11 #[.pointer q, .string a] wr fun e w' => e = .returned (.tuple #[optV F, .bool F.isSome]) ∧ Below wr.heap.size wr w') := Lib.hid (by rw [hF]; exact find_any (chn l i) a HC.out hl20)
      obtain ⟨kF, zF, fB, hv, hfb, hor⟩ := optV_of F z (by rw [hF, find_at, ← HAT.out])
      rw [hv, hfb] at FA
      have HOR := Lib.hid hor
      have HL := Lib.hid hl20
      clear hF hv hfb hor hl20
      unfold num at FA
      go_wp2_with fail
      refine FA.out.mono ?_; rintro e w2 ⟨rfl, hb2⟩
      have HC2 : Hid (ChainAt w2 (chn l i) q) := Lib.hid (chain_below hb2 _ _ (Nat.le_refl _) HC.out)
      have HB2 : Hid (Below w.heap.size w w2) := Lib.hid (HB.out.trans (hb2.mono HB.out.size))
      have A2 : Hid (∀ O, Below w2.heap.size w2 (w2.alloc O)) := Lib.hid (fun O => (Below.refl _ w2).alloc (Nat.le_refl _) O)
      have NA : Hid (∀ O, Calls Tryd.prog 13 #[.pointer q] (w2.alloc O) fun e w' => ∃ A n cap, e = .returned (.slice A n cap) ∧ Hid (n = (namesC (chn l i)).length) ∧ Hid (w'.ownsRow (w2.alloc O).heap.size 9 1 (.slice A n cap) n (strs (namesC (chn l i)))) ∧ Hid (Below (w2.alloc O).heap.size (w2.alloc O) w')) := Lib.hid (fun O => names_any _ (chain_below (A2.out O) _ _ (Nat.le_refl _) HC2.out) HL.out HZ.out)
      clear hb2 HC HB FA
      go_wp2_with fail
      refine (NA.out _).mono ?_; rintro e w3 ⟨A3, n3, cap3, rfl, HN3, OWN3, HB3⟩
      obtain ⟨L, hL⟩ : ∃ L, L = namesC (chn l i) := ⟨_, rfl⟩
      rw [← hL] at HN3 OWN3
      have SS3 : Hid (SS w3 A3 n3 L) := Lib.hid (ss_own OWN3.out)
      have HA2 : ∀ O, (w2.alloc O).heap.size = w2.heap.size + 1 := fun O => by show (w2.heap.push O).size = _; simp
      have HC3 : Hid (ChainAt w3 (chn l i) q) := Lib.hid (chain_below HB3.out _ _ (Nat.le_refl _) (chain_below (A2.out _) _ _ (Nat.le_refl _) HC2.out))
      have HBW : Hid (Below w.heap.size w w3) := Lib.hid (HB2.out.trans (((A2.out _).mono HB2.out.size).trans (HB3.out.mono (Nat.le_trans HB2.out.size (A2.out _).size))))
      have C8 : Hid (w3.cell? ⟨w2.heap.size, 1, none⟩ = some (.int .i64 zF) ∧ w2.heap.size < w3.heap.size) := Lib.hid (by
        refine ⟨(HB3.out.cell (p := ⟨w2.heap.size, 1, none⟩) (by rw [HA2]; show w2.heap.size < w2.heap.size + 1; omega)).trans ?_, ?_⟩
        · unfold World.cell?; rw [(MapKept.heap_alloc w2 _).1]; rfl
        · have := HB3.out.size; rw [HA2] at this; omega)
      have AP : Hid (Apart L) := Lib.hid (by rw [hL]; exact namesC_apart _)
      have FO : Hid (∀ y, y ∈ L → ∃ j, findC (chn l i) y = some j) := Lib.hid (fun y hy => names_found (by rw [← hL]; exact hy))
      have HH : Hid (0 < i → ∃ t, L = l.getD (i - 1) ⟨#[]⟩ :: t) := Lib.hid (fun h0 => by
        obtain ⟨p, rfl⟩ : ∃ p, i = p + 1 := ⟨i - 1, by omega⟩
        rw [hL]; exact names_head _ _ _)
      have hn3 : n3 ≤ 20 := by
        rw [HN3.out, hL]
        have := names_len (chn l i) []
        have h2 := HL.out
        simp only [List.length_nil] at this
        unfold namesC; omega
      clear hL OWN3 HB3 HA2 A2 HC2 HB2 NA HZ
      go_wp2
      go_loopw [11] (fun iv wr => ∃ (m : Nat), iv = .int .i64 m ∧ m ≤ n3 ∧ Hid (Below w3.heap.size w3 wr)) (fun iv _ => n3 - (intOf iv).toNat)
      case atStart => exact ⟨0, rfl, by omega, Lib.hid (Below.refl _ _)⟩
      case round =>
        obtain ⟨m, rfl, hm, HBr⟩ := hrel
        by_cases hmn : m < n3
        · have hmn' : (m : Int) < (n3 : Int) := by omega
          obtain ⟨b, o, rfl, kk⟩ := SS3.out.at (by omega)
          obtain ⟨y, hy⟩ : ∃ y, y = L.getD m ⟨#[]⟩ := ⟨_, rfl⟩
          have YM : Hid (y ∈ L) := Lib.hid (by
            have hml : m < L.length := by rw [← HN3.out]; exact hmn
            rw [hy, List.getD_eq_getElem?_getD, List.getElem?_eq_getElem hml]; exact List.getElem_mem _)
          have y1 : ∀ q', (wr.drewN q').cell? ⟨b, o + m, none⟩ = some (.string y) := fun q' => by rw [hy]; exact kk wr m HBr.out hmn
          have KK := Lib.hid kk
          have HY := Lib.hid hy
          clear kk hy
          go_wp2
          go_loopw [12] (fun jv wr' => ∃ (j q' : Nat), jv = .int .i64 j ∧ j ≤ m ∧ wr' = wr.drewN q') (fun jv _ => m - (intOf jv).toNat)
          case atStart => exact ⟨0, 0, rfl, by omega, rfl⟩
          case round =>
            obtain ⟨j, q', rfl, hj, rfl⟩ := hrel
            by_cases hjm : j < m
            · have hjm' : (j : Int) < (m : Int) := by omega
              have hjn : j < n3 := by omega
              have hjn' : (j : Int) < (n3 : Int) := by omega
              obtain ⟨v, hv⟩ : ∃ v, v = L.getD j ⟨#[]⟩ := ⟨_, rfl⟩
              have yj : wr.cell? ⟨b, o + j, none⟩ = some (.string v) := by rw [hv]; exact KK.out wr j HBr.out hjn
              have ym : wr.cell? ⟨b, o + m, none⟩ = some (.string y) := y1 0
              have d : (v.toList == y.toList) = false := by rw [hv, HY.out]; exact apart_get L m j AP.out hjm (by rw [← HN3.out]; exact hmn)
              clear hv y1
              go_wp2
              go_quiet (fail)
              go_wp2
              go_roundw
              case rel => exact ⟨j + 1, _, by go_num, hjm, by first | rfl | (rw [World.drewN_drewN])⟩
              case measure => simp [intOf]; omega
            · obtain rfl : j = m := by omega
              have hjm' : ¬ (j : Int) < (j : Int) := by omega
              have ym := y1 q'
              have D2 : Hid (Below w3.heap.size w3 (wr.drewN q')) := Lib.hid (HBr.out.trans ⟨rfl, rfl, rfl, Nat.le_refl _, fun _ _ => rfl⟩)
              obtain ⟨kf, hkf⟩ := FO.out y YM.out
              have FA2 : Hid (Calls Tryd.prog 11 #[.pointer q, .string y] (wr.drewN q') fun e w' => e = .returned (.tuple #[num 1 kf, .bool true]) ∧ Below (wr.drewN q').heap.size (wr.drewN q') w') := Lib.hid (by
                have := find_any (chn l i) y (chain_below D2.out _ _ (Nat.le_refl _) HC3.out) HL.out
                rw [hkf] at this; exact this)
              unfold num at FA2
              clear hkf y1
              go_wp2_with fail
              refine FA2.out.mono ?_; rintro e w5 ⟨rfl, hb5⟩
              have HB5 : Hid (Below w3.heap.size w3 w5) := Lib.hid (D2.out.trans (hb5.mono D2.out.size))
              clear hb5 D2 FA2 HBr
              go_wp2
              go_roundw
              case rel => exact ⟨j + 1, by go_num, hmn, Lib.hid (HB5.out.alloc HB5.out.size _)⟩
              case measure => simp [intOf]; omega
        · obtain rfl : m = n3 := by omega
          have hmn' : ¬ (m : Int) < (m : Int) := by omega
          have c8 := (HBr.out.cell (p := ⟨w2.heap.size, 1, none⟩) C8.out.2).trans C8.out.1
          have BE : Hid (∀ W, Below wr.heap.size wr W → Below w.heap.size w W) := Lib.hid (fun W hW => (HBW.out.trans (HBr.out.mono HBW.out.size)).trans (hW.mono (Nat.le_trans HBW.out.size HBr.out.size)))
          rcases Nat.eq_zero_or_pos i with h0 | h0
          · have e0 : ((i : Int) == 0) = true := by rw [h0]; rfl
            have e0' : (i == 0) = true := by rw [h0]; rfl
            clear C8 SS3 HC3 AP FO HH HBr HL HN3 H HAT h0
            rcases HOR.out with ⟨hz, rfl⟩ | ⟨hz, rfl, rfl⟩
            · have d5 : decide (0 ≤ z) = false := decide_eq_false (by omega)
              clear HOR
              go_wp2
              go_quiet (fail)
              go_wp2
              go_ret
              exact ⟨rfl, BE.out _ ⟨rfl, rfl, rfl, Nat.le_refl _, fun _ _ => rfl⟩⟩
            · have d5 : decide (0 ≤ zF) = true := decide_eq_true hz
              clear HOR
              go_wp2
              go_quiet (fail)
              go_wp2
              go_ret
              exact ⟨rfl, BE.out _ ⟨rfl, rfl, rfl, Nat.le_refl _, fun _ _ => rfl⟩⟩
          · have e0 : ((i : Int) == 0) = false := beq_eq_false_iff_ne.2 (by omega)
            have e0' : (i == 0) = false := beq_eq_false_iff_ne.2 (by omega)
            obtain ⟨t, ht⟩ := HH.out h0
            have hm0 : 0 < m := by rw [HN3.out, ht]; simp
            have hm0' : (0 : Int) < (m : Int) := by omega
            obtain ⟨p, hp⟩ : ∃ p, p = i - 1 := ⟨_, rfl⟩
            rw [← hp] at ht
            have ep : (i : Int) - 1 = (p : Int) := by omega
            have hpi : p < i := by omega
            have hpi' : (p : Int) < (i : Int) := by omega
            obtain ⟨v, hv⟩ : ∃ v, v = l.getD p ⟨#[]⟩ := ⟨_, rfl⟩
            obtain ⟨b3, o3, rfl, k3⟩ := SS3.out.at hm0
            have y0 : wr.cell? ⟨b3, o3, none⟩ = some (.string v) := by
              have := k3 wr 0 HBr.out hm0
              rw [ht, List.getD_cons_zero, ← hv] at this
              exact this
            obtain ⟨b1, o1, rfl, k1⟩ := H.out.at (by omega)
            have yp : wr.cell? ⟨b1, o1 + p, none⟩ = some (.string v) := by rw [hv]; exact k1 wr p (BE.out _ (Below.refl _ _)) hpi
            have dm := decide_eq_true hm0'
            have dm2 := decide_eq_true hm0
            clear C8 SS3 HC3 AP FO HH HBr HL HN3 H HAT k1 k3 ht hv hp
            rcases HOR.out with ⟨hz, rfl⟩ | ⟨hz, rfl, rfl⟩
            · have d5 : decide (0 ≤ z) = false := decide_eq_false (by omega)
              clear HOR
              go_wp2
              go_quiet (fail)
              go_wp2
              go_ret
              exact ⟨rfl, BE.out _ ⟨rfl, rfl, rfl, Nat.le_refl _, fun _ _ => rfl⟩⟩
            · have d5 : decide (0 ≤ zF) = true := decide_eq_true hz
              clear HOR
              go_wp2
              go_quiet (fail)
              go_wp2
              go_ret
              exact ⟨rfl, BE.out _ ⟨rfl, rfl, rfl, Nat.le_refl _, fun _ _ => rfl⟩⟩
end Go.Proofs.YtclilpabdcdeoaaDoor
