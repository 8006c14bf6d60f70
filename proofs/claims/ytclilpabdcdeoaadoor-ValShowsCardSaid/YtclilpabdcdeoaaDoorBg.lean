import Derived.Test.YtclilpabdcdeoaaDoorVa
namespace Go.Proofs.YtclilpabdcdeoaaDoor
open Go.ChangeShapes Go.WideShapes Go.ChangeAt Go.RowKit
set_option linter.unusedVariables false
def bigD : Nat → VT → Bool
  | 0, _ => true
  | d + 1, V => decide (4 < V.args.length) || decide (60 < V.nm.size) || V.args.any (bigD d)
def MostOk : Nat → Int → Prop
  | 0, m => m = 0
  | d + 1, m => 1 ≤ m ∧ m ≤ 64 ∧ MostOk d (m / 2)
theorem most64 : MostOk 7 64 := by simp [MostOk]
theorem okV_in {w : World} {V : VT} {b o : Nat} (h : okV w V b o) : ∃ A c e, w.cell? ⟨b, o, none⟩ = some (.int .i64 V.k) ∧ w.cell? ⟨b, o + 1, none⟩ = some (.int .i64 V.n) ∧ w.cell? ⟨b, o + 2, none⟩ = some (.string V.nm) ∧ w.cell? ⟨b, o + 3, none⟩ = some (.slice A V.args.length c) ∧ w.cell? ⟨b, o + 4, none⟩ = some (.int .i64 V.node) ∧ w.cell? ⟨b, o + 5, none⟩ = some e ∧ w.cell? ⟨b, o + 6, none⟩ = some (.int .i64 V.at_) ∧ VIn w V (.agg #[.int .i64 V.k, .int .i64 V.n, .string V.nm, .slice A V.args.length c, .int .i64 V.node, e, .int .i64 V.at_]) := by
  rw [okV_eq] at h
  obtain ⟨hb', hn, c0, c1, c2, ⟨A', c', c3, hA'⟩, c4, ⟨e, c5⟩, c6⟩ := h
  exact ⟨A', c', e, c0, c1, c2, c3, c4, c5, c6, A', c', e, rfl, hn, hA'⟩
theorem VRow.later {w w' : World} {A : Option Addr} {l : List VT} (hb : Below w.heap.size w w') (h : VRow w A l) : VRow w' A l := by
  have main : ∀ l b o, okL w l b o → okL w' l b o := by
    suffices H : (∀ v b o, okV w v b o → okV w' v b o) ∧ ∀ l b o, okL w l b o → okL w' l b o from H.2
    have hc : ∀ b o v, b < w.heap.size → w.cell? ⟨b, o, none⟩ = some v → w'.cell? ⟨b, o, none⟩ = some v := fun b o v hlt hx => (hb.cell (p := ⟨b, o, none⟩) hlt).trans hx
    have hl := hb.size
    refine ⟨fun v => VT.rec (motive_1 := fun v => ∀ b o, okV w v b o → okV w' v b o) (motive_2 := fun l => ∀ b o, okL w l b o → okL w' l b o) ?_ ?_ ?_ v, fun l => VT.rec_1 (motive_1 := fun v => ∀ b o, okV w v b o → okV w' v b o) (motive_2 := fun l => ∀ b o, okL w l b o → okL w' l b o) ?_ ?_ ?_ l⟩
    all_goals first
      | (intro k n nm args node at_ ih b o h
         rw [okV] at h ⊢
         obtain ⟨hb', hn, c0, c1, c2, ⟨A', c', c3, hA'⟩, c4, ⟨e, c5⟩, c6⟩ := h
         refine ⟨by omega, hn, hc _ _ _ hb' c0, hc _ _ _ hb' c1, hc _ _ _ hb' c2, ⟨A', c', hc _ _ _ hb' c3, ?_⟩, hc _ _ _ hb' c4, ⟨e, hc _ _ _ hb' c5⟩, hc _ _ _ hb' c6⟩
         rcases hA' with h1 | ⟨b', o', h1, h2, h3⟩
         · exact .inl h1
         · exact .inr ⟨b', o', h1, by omega, ih b' o' h3⟩)
      | (intro b o h; rw [okL]; trivial)
      | (intro v l iv il b o h
         rw [okL] at h ⊢
         exact ⟨iv b o h.1, il b _ h.2⟩)
  rcases h with h | ⟨b, o, h1, h2, h3⟩
  · exact .inl h
  · exact .inr ⟨b, o, h1, Nat.lt_of_lt_of_le h2 hb.size, main l b o h3⟩
theorem VIn.later {w w' : World} {V : VT} {v : Value} (h : VIn w V v) (hb : Below w.heap.size w w') : VIn w' V v := by
  obtain ⟨A, c, e, h1, h2, h3⟩ := h
  exact ⟨A, c, e, h1, h2, h3.later hb⟩
theorem any_take {α : Type} {p : α → Bool} {l : List α} {k : Nat} (h : k < l.length) (ha : (l.take k).any p = false) : (l.take (k + 1)).any p = p l[k] := by
  rw [List.take_succ_eq_append_getElem h, List.any_append, ha]; simp
theorem any_yes {α : Type} {p : α → Bool} {l : List α} {k : Nat} (h : k < l.length) (ha : p l[k] = true) : l.any p = true := List.any_eq_true.2 ⟨l[k], List.getElem_mem h, ha⟩
def BigI (w wB : World) (args : List VT) (d : Nat) (i : Value) (wr : World) : Prop := ∃ k : Nat, k ≤ args.length ∧ i = .int .i64 k ∧ (args.take k).any (bigD d) = false ∧ Below wB.heap.size wB wr
theorem below_alloc (w : World) (o : Obj) : Below w.heap.size w (w.alloc o) := (Below.refl _ _).alloc (Nat.le_refl _) o
set_option maxRecDepth 100000 in
set_option maxHeartbeats 4000000 in
theorem big_any : ∀ (d : Nat) (V : VT) (v : Value) (m : Int) (w : World), MostOk d m → VIn w V v → Calls Tryd.prog 21 #[v, .int .i64 m] w fun e w' => e = .returned (.bool (bigD d V)) ∧ Below w.heap.size w w' := by
  intro d
  induction d with
  | zero =>
    intro V v m w hm ⟨A, c, e, hv, hn, hA⟩
    have hm : m = 0 := hm
    subst hv hm
    clear hA
    go_enter Tryd.func21, Tryd.ntmps21
    go_wp2
    go_ret
    exact ⟨rfl, below_alloc _ _⟩
  | succ d ih =>
    intro V v m w hm ⟨A, c, e, hv, hn, hA⟩
    obtain ⟨m1, m2, m3⟩ := hm
    subst hv
    have HI := Lib.hid ih
    have M3 := Lib.hid m3
    have HA := Lib.hid hA
    have dm : decide (m ≤ 0) = false := decide_eq_false (by omega)
    have hbg : bigD (d + 1) V = (decide (4 < V.args.length) || decide (60 < V.nm.size) || V.args.any (bigD d)) := rfl
    obtain ⟨args, ha⟩ : ∃ l, l = V.args := ⟨_, rfl⟩
    obtain ⟨nm, hnm⟩ : ∃ l, l = V.nm := ⟨_, rfl⟩
    rw [hbg]
    rw [← ha] at HA ⊢
    rw [← hnm] at ⊢
    clear ih m3 hA hbg hn ha hnm
    by_cases h4 : 4 < args.length
    · have d4 := decide_eq_true h4
      have d4i : decide ((4 : Int) < (args.length : Int)) = true := decide_eq_true (by omega)
      go_enter Tryd.func21, Tryd.ntmps21
      go_wp2
      go_ret
      exact ⟨by rw [d4]; rfl, below_alloc _ _⟩
    have d4 := decide_eq_false h4
    have d4i : decide ((4 : Int) < (args.length : Int)) = false := decide_eq_false (by omega)
    by_cases h6 : 60 < nm.size
    · have d6 := decide_eq_true h6
      have d6i : decide ((60 : Int) < (nm.size : Int)) = true := decide_eq_true (by omega)
      go_enter Tryd.func21, Tryd.ntmps21
      go_wp2
      go_ret
      exact ⟨by rw [d4, d6]; rfl, below_alloc _ _⟩
    have d6 := decide_eq_false h6
    have d6i : decide ((60 : Int) < (nm.size : Int)) = false := decide_eq_false (by omega)
    have hsp : (decide (4 < args.length) || decide (60 < nm.size) || args.any (bigD d)) = args.any (bigD d) := by rw [d4, d6]; rfl
    rw [hsp]
    obtain ⟨B, hB⟩ : ∃ B : Obj, B = .cells #[.int .i64 V.k, .int .i64 V.n, .string nm, .slice A args.length c, .int .i64 V.node, e, .int .i64 V.at_] 26 := ⟨_, rfl⟩
    obtain ⟨wB, hwB⟩ : ∃ wB, wB = w.alloc B := ⟨_, rfl⟩
    have b3 : wB.cell? ⟨w.heap.size, 3, none⟩ = some (.slice A args.length c) := by
      rw [hwB, hB]; have := (MapKept.heap_alloc w (Obj.cells #[.int .i64 V.k, .int .i64 V.n, .string nm, .slice A args.length c, .int .i64 V.node, e, .int .i64 V.at_] 26)).1
      simp only [World.cell?, this]; rfl
    have B3 := Lib.hid b3
    have BL : Hid (Below w.heap.size w wB) := Lib.hid (by rw [hwB]; exact below_alloc _ _)
    have HLT : Hid (w.heap.size < wB.heap.size) := Lib.hid (by rw [hwB]; show _ < (w.heap.push B).size; simp)
    have HWB := Lib.hid hwB
    have HBB := Lib.hid hB
    clear hsp b3 hwB hB d6 h6 d4
    go_enter Tryd.func21, Tryd.ntmps21
    go_wp2
    go_loopw [5] (fun i wr => BigI w wB args d i wr) (fun i _ => args.length - (intOf i).toNat)
    case atStart => exact ⟨0, by omega, rfl, by simp, by rw [HWB.out, HBB.out]; exact Below.refl _ _⟩
    case round =>
      obtain ⟨k, hk, rfl, hno, hbl⟩ := hrel
      have HNO := Lib.hid hno
      have HBL := Lib.hid hbl
      clear hno hbl
      have c3 := (HBL.out.cell (p := ⟨w.heap.size, 3, none⟩) HLT.out).trans B3.out
      have hBW : Hid (Below w.heap.size w wr) := Lib.hid (BL.out.trans (HBL.out.mono BL.out.size))
      by_cases hlt : k < args.length
      · obtain ⟨b, o, rfl, hb, hr⟩ : ∃ b o, A = some ⟨b, o, none⟩ ∧ b < w.heap.size ∧ okL w args b o := by
          rcases HA.out with h1 | h1
          · omega
          · exact h1
        have HAW : VRow wr (some ⟨b, o, none⟩) args := HA.out.later hBW.out
        obtain ⟨b', o', hbo, _, hr'⟩ : ∃ b' o', some (⟨b, o, none⟩ : Addr) = some ⟨b', o', none⟩ ∧ b' < wr.heap.size ∧ okL wr args b' o' := by
          rcases HAW with h1 | h1
          · omega
          · exact h1
        injection hbo with hbo
        injection hbo with e1 e2
        subst e1 e2
        obtain ⟨A', c', e', x0, x1, x2, x3, x4, x5, x6, hin⟩ := okV_in (okL_at hr' k hlt)
        have CALL : Hid (∀ q, Calls Tryd.prog 21 #[.agg #[.int .i64 args[k].k, .int .i64 args[k].n, .string args[k].nm, .slice A' args[k].args.length c', .int .i64 args[k].node, e', .int .i64 args[k].at_], .int .i64 (m / 2)] (wr.drewN q) fun e w' => e = .returned (.bool (bigD d args[k])) ∧ Below wr.heap.size wr w') := Lib.hid (fun q =>
          (HI.out args[k] _ (m / 2) (wr.drewN q) M3.out (hin.later ⟨rfl, rfl, rfl, Nat.le_refl _, fun _ _ => rfl⟩)).mono (fun e w' ⟨h1, h2⟩ => ⟨h1, (show Below wr.heap.size wr (wr.drewN q) from ⟨rfl, rfl, rfl, Nat.le_refl _, fun _ _ => rfl⟩).trans h2⟩))
        clear hr hr' HAW hin hb HI HA
        cases hd : bigD d args[k]
        · rw [hd] at CALL
          have HN2 : Hid ((args.take (k + 1)).any (bigD d) = false) := Lib.hid ((any_take hlt HNO.out).trans hd)
          clear hd HNO
          go_wp2_with fail
          refine (CALL.out 0).mono ?_; rintro e w1 ⟨rfl, hb1⟩
          have HB1 := Lib.hid (HBL.out.trans (hb1.mono HBL.out.size))
          clear hb1 CALL
          go_wp2
          go_roundw
          case rel => exact ⟨k + 1, by omega, by go_num, HN2.out, HB1.out⟩
          case measure => simp [intOf]; omega
        · rw [hd] at CALL
          have HN2 : Hid (args.any (bigD d) = true) := Lib.hid (any_yes hlt hd)
          clear hd HNO
          go_wp2_with fail
          refine (CALL.out 0).mono ?_; rintro e w1 ⟨rfl, hb1⟩
          have HB1 := Lib.hid (hBW.out.trans (hb1.mono hBW.out.size))
          clear hb1 CALL
          go_wp2
          go_ret
          exact ⟨by rw [HN2.out]; rfl, HB1.out⟩
      · have HN2 : Hid (args.any (bigD d) = false) := Lib.hid (by have := HNO.out; rwa [List.take_of_length_le (by omega)] at this)
        have hge : ¬ (k : Int) < (args.length : Int) := by omega
        go_wp2
        go_ret
        exact ⟨by rw [HN2.out]; rfl, hBW.out⟩
end Go.Proofs.YtclilpabdcdeoaaDoor
