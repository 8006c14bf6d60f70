import Derived.Test.YtclilpabdcdeoaaDoorVl
namespace Go.Proofs.YtclilpabdcdeoaaDoor
open Go.ChangeShapes Go.WideShapes Go.ChangeAt Go.RowKit
set_option linter.unusedVariables false
def bigT : Nat → TT → Bool
  | 0, _ => true
  | d + 1, V => decide (4 < V.args.length) || decide (60 < V.nm.size) || V.args.any (bigT d)
theorem bigT_parts {d : Nat} {V : TT} (h : bigT (d + 1) V = false) : V.args.length ≤ 4 ∧ V.nm.size ≤ 60 ∧ ∀ a ∈ V.args, bigT d a = false := by
  unfold bigT at h
  simp only [Bool.or_eq_false_iff, decide_eq_false_iff_not] at h
  obtain ⟨⟨h1, h2⟩, h3⟩ := h
  exact ⟨by omega, by omega, fun a ha => by
    cases hx : bigT d a
    · rfl
    · rw [List.any_eq_true.2 ⟨a, ha, hx⟩] at h3; cases h3⟩
theorem okT_in {w : World} {V : TT} {b o : Nat} (h : okT w V b o) : ∃ A c, w.cell? ⟨b, o, none⟩ = some (.int .i64 V.k) ∧ w.cell? ⟨b, o + 1, none⟩ = some (.string V.nm) ∧ w.cell? ⟨b, o + 2, none⟩ = some (.int .i64 V.vr) ∧ w.cell? ⟨b, o + 3, none⟩ = some (.slice A V.args.length c) ∧ TIn w V (.agg #[.int .i64 V.k, .string V.nm, .int .i64 V.vr, .slice A V.args.length c]) := by
  rw [okT_eq] at h
  obtain ⟨hb', c0, c1, c2, ⟨A', c', c3, hA'⟩⟩ := h
  exact ⟨A', c', c0, c1, c2, c3, A', c', rfl, hA'⟩
theorem TRow.later {w w' : World} {A : Option Addr} {l : List TT} (hb : Below w.heap.size w w') (h : TRow w A l) : TRow w' A l := by
  have main : ∀ l b o, okTL w l b o → okTL w' l b o := by
    have hc : ∀ b o v, b < w.heap.size → w.cell? ⟨b, o, none⟩ = some v → w'.cell? ⟨b, o, none⟩ = some v := fun b o v hlt hx => (hb.cell (p := ⟨b, o, none⟩) hlt).trans hx
    have hl := hb.size
    refine fun l => TT.rec_1 (motive_1 := fun v => ∀ b o, okT w v b o → okT w' v b o) (motive_2 := fun l => ∀ b o, okTL w l b o → okTL w' l b o) ?_ ?_ ?_ l
    · intro k nm vr args ih b o h
      rw [okT] at h ⊢
      obtain ⟨hb', c0, c1, c2, ⟨A', c', c3, hA'⟩⟩ := h
      refine ⟨by omega, hc _ _ _ hb' c0, hc _ _ _ hb' c1, hc _ _ _ hb' c2, ⟨A', c', hc _ _ _ hb' c3, ?_⟩⟩
      rcases hA' with h1 | ⟨b', o', h1, h2, h3⟩
      · exact .inl h1
      · exact .inr ⟨b', o', h1, by omega, ih b' o' h3⟩
    · intro b o h; rw [okTL]; trivial
    · intro v l iv il b o h
      rw [okTL] at h ⊢
      exact ⟨iv b o h.1, il b _ h.2⟩
  rcases h with h | ⟨b, o, h1, h2, h3⟩
  · exact .inl h
  · exact .inr ⟨b, o, h1, Nat.lt_of_lt_of_le h2 hb.size, main l b o h3⟩
theorem TIn.later {w w' : World} {V : TT} {v : Value} (h : TIn w V v) (hb : Below w.heap.size w w') : TIn w' V v := by
  obtain ⟨A, c, h1, h2⟩ := h
  exact ⟨A, c, h1, h2.later hb⟩
def BigTI (w wB : World) (args : List TT) (d : Nat) (i : Value) (wr : World) : Prop := ∃ k : Nat, k ≤ args.length ∧ i = .int .i64 k ∧ (args.take k).any (bigT d) = false ∧ Below wB.heap.size wB wr
set_option maxRecDepth 100000 in
set_option maxHeartbeats 4000000 in
theorem small_any : ∀ (d : Nat) (V : TT) (v : Value) (m : Int) (w : World), MostOk d m → TIn w V v → Calls Tryd.prog 22 #[v, .int .i64 m] w fun e w' => e = .returned (.bool (!bigT d V)) ∧ Below w.heap.size w w' := by
  intro d
  induction d with
  | zero =>
    intro V v m w hm ⟨A, c, hv, hA⟩
    have hm : m = 0 := hm
    subst hv hm
    clear hA
    go_enter Tryd.func22, Tryd.ntmps22
    go_wp2
    go_ret
    exact ⟨rfl, below_alloc _ _⟩
  | succ d ih =>
    intro V v m w hm ⟨A, c, hv, hA⟩
    obtain ⟨m1, m2, m3⟩ := hm
    subst hv
    have HI := Lib.hid ih
    have M3 := Lib.hid m3
    have HA := Lib.hid hA
    have dm : decide (m ≤ 0) = false := decide_eq_false (by omega)
    have hbg : bigT (d + 1) V = (decide (4 < V.args.length) || decide (60 < V.nm.size) || V.args.any (bigT d)) := rfl
    obtain ⟨args, ha⟩ : ∃ l, l = V.args := ⟨_, rfl⟩
    obtain ⟨nm, hnm⟩ : ∃ l, l = V.nm := ⟨_, rfl⟩
    rw [hbg]
    rw [← ha] at HA ⊢
    rw [← hnm] at ⊢
    clear ih m3 hA hbg ha hnm
    by_cases h4 : 4 < args.length
    · have d4 := decide_eq_true h4
      have d4i : decide ((4 : Int) < (args.length : Int)) = true := decide_eq_true (by omega)
      go_enter Tryd.func22, Tryd.ntmps22
      go_wp2
      go_ret
      exact ⟨by rw [d4]; rfl, below_alloc _ _⟩
    have d4 := decide_eq_false h4
    have d4i : decide ((4 : Int) < (args.length : Int)) = false := decide_eq_false (by omega)
    by_cases h6 : 60 < nm.size
    · have d6 := decide_eq_true h6
      have d6i : decide ((60 : Int) < (nm.size : Int)) = true := decide_eq_true (by omega)
      go_enter Tryd.func22, Tryd.ntmps22
      go_wp2
      go_ret
      exact ⟨by rw [d4, d6]; rfl, below_alloc _ _⟩
    have d6 := decide_eq_false h6
    have d6i : decide ((60 : Int) < (nm.size : Int)) = false := decide_eq_false (by omega)
    have hsp : (decide (4 < args.length) || decide (60 < nm.size) || args.any (bigT d)) = args.any (bigT d) := by rw [d4, d6]; rfl
    rw [hsp]
    obtain ⟨B, hB⟩ : ∃ B : Obj, B = .cells #[.int .i64 V.k, .string nm, .int .i64 V.vr, .slice A args.length c] 34 := ⟨_, rfl⟩
    obtain ⟨wB, hwB⟩ : ∃ wB, wB = w.alloc B := ⟨_, rfl⟩
    have b3 : wB.cell? ⟨w.heap.size, 3, none⟩ = some (.slice A args.length c) := by
      rw [hwB, hB]; have := (MapKept.heap_alloc w (Obj.cells #[.int .i64 V.k, .string nm, .int .i64 V.vr, .slice A args.length c] 34)).1
      simp only [World.cell?, this]; rfl
    have B3 := Lib.hid b3
    have BL : Hid (Below w.heap.size w wB) := Lib.hid (by rw [hwB]; exact below_alloc _ _)
    have HLT : Hid (w.heap.size < wB.heap.size) := Lib.hid (by rw [hwB]; show _ < (w.heap.push B).size; simp)
    have HWB := Lib.hid hwB
    have HBB := Lib.hid hB
    clear hsp b3 hwB hB d6 h6 d4
    go_enter Tryd.func22, Tryd.ntmps22
    go_wp2
    go_loopw [5] (fun i wr => BigTI w wB args d i wr) (fun i _ => args.length - (intOf i).toNat)
    case atStart => exact ⟨0, by omega, rfl, by simp, by rw [HWB.out, HBB.out]; exact Below.refl _ _⟩
    case round =>
      obtain ⟨k, hk, rfl, hno, hbl⟩ := hrel
      have HNO := Lib.hid hno
      have HBL := Lib.hid hbl
      clear hno hbl
      have c3 := (HBL.out.cell (p := ⟨w.heap.size, 3, none⟩) HLT.out).trans B3.out
      have hBW : Hid (Below w.heap.size w wr) := Lib.hid (BL.out.trans (HBL.out.mono BL.out.size))
      by_cases hlt : k < args.length
      · obtain ⟨b, o, rfl, hb, hr⟩ : ∃ b o, A = some ⟨b, o, none⟩ ∧ b < w.heap.size ∧ okTL w args b o := by
          rcases HA.out with h1 | h1
          · omega
          · exact h1
        have HAW : TRow wr (some ⟨b, o, none⟩) args := HA.out.later hBW.out
        obtain ⟨b', o', hbo, _, hr'⟩ : ∃ b' o', some (⟨b, o, none⟩ : Addr) = some ⟨b', o', none⟩ ∧ b' < wr.heap.size ∧ okTL wr args b' o' := by
          rcases HAW with h1 | h1
          · omega
          · exact h1
        injection hbo with hbo
        injection hbo with e1 e2
        subst e1 e2
        obtain ⟨A', c', x0, x1, x2, x3, hin⟩ := okT_in (okTL_at hr' k hlt)
        have CALL : Hid (∀ q, Calls Tryd.prog 22 #[.agg #[.int .i64 args[k].k, .string args[k].nm, .int .i64 args[k].vr, .slice A' args[k].args.length c'], .int .i64 (m / 2)] (wr.drewN q) fun e w' => e = .returned (.bool (!bigT d args[k])) ∧ Below wr.heap.size wr w') := Lib.hid (fun q =>
          (HI.out args[k] _ (m / 2) (wr.drewN q) M3.out (hin.later ⟨rfl, rfl, rfl, Nat.le_refl _, fun _ _ => rfl⟩)).mono (fun e w' ⟨h1, h2⟩ => ⟨h1, (show Below wr.heap.size wr (wr.drewN q) from ⟨rfl, rfl, rfl, Nat.le_refl _, fun _ _ => rfl⟩).trans h2⟩))
        clear hr hr' HAW hin hb HI HA
        cases hd : bigT d args[k]
        · rw [hd] at CALL
          have HN2 : Hid ((args.take (k + 1)).any (bigT d) = false) := Lib.hid ((any_take hlt HNO.out).trans hd)
          clear hd HNO
          go_wp2_with fail
          refine (CALL.out 0).mono ?_; rintro e w1 ⟨rfl, hb1⟩
          have HB1 := Lib.hid (HBL.out.trans (hb1.mono HBL.out.size))
          clear hb1 CALL
          go_wp2
          go_roundw
          case rel => exact ⟨k + 1, by omega, by go_num, HN2.out, HB1.out⟩
          case measure => simp [intOf]; omega
        · rw [hd] at CALL
          have HN2 : Hid (args.any (bigT d) = true) := Lib.hid (any_yes hlt hd)
          clear hd HNO
          go_wp2_with fail
          refine (CALL.out 0).mono ?_; rintro e w1 ⟨rfl, hb1⟩
          have HB1 := Lib.hid (hBW.out.trans (hb1.mono hBW.out.size))
          clear hb1 CALL
          go_wp2
          go_ret
          exact ⟨by rw [HN2.out]; rfl, HB1.out⟩
      · have HN2 : Hid (args.any (bigT d) = false) := Lib.hid (by have := HNO.out; rwa [List.take_of_length_le (by omega)] at this)
        have hge : ¬ (k : Int) < (args.length : Int) := by omega
        go_wp2
        go_ret
        exact ⟨by rw [HN2.out]; rfl, hBW.out⟩
end Go.Proofs.YtclilpabdcdeoaaDoor
