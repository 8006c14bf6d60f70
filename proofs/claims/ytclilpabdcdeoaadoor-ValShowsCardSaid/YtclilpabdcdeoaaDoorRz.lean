import Derived.Test.YtclilpabdcdeoaaDoorDg
namespace Go.Proofs.YtclilpabdcdeoaaDoor
open Go.ChangeShapes Go.WideShapes Go.ChangeAt Go.RowKit
set_option linter.unusedVariables false
def RV (w : World) (V : VT) (v : Value) : Prop := ∃ A c, v = .agg #[.int .i64 V.k, .int .i64 V.n, .string V.nm, .slice A V.args.length c, .int .i64 V.node, .pointer none, .int .i64 V.at_, .int .i64 0] ∧ (-9223372036854775808 ≤ V.n ∧ V.n ≤ 9223372036854775807) ∧ RRow w (fun _ => True) A V.args
def RT (w : World) (V : TT) (v : Value) : Prop := ∃ A c, v = .agg #[.int .i64 V.k, .string V.nm, .int .i64 V.vr, .slice A V.args.length c] ∧ RTRow w (fun _ => True) A V.args
theorem RRow.later {w w' : World} {A : Option Addr} {l : List VT} (h : RRow w (fun _ => True) A l) (hb : Below w.heap.size w w') : RRow w' (fun _ => True) A l := h.move (fun b hlt _ => ⟨hb.block b hlt, trivial⟩) hb.size
theorem RTRow.later {w w' : World} {A : Option Addr} {l : List TT} (h : RTRow w (fun _ => True) A l) (hb : Below w.heap.size w w') : RTRow w' (fun _ => True) A l := h.move (fun b hlt _ => ⟨hb.block b hlt, trivial⟩) hb.size
theorem RRow.any {w : World} {P : Nat → Prop} {A : Option Addr} {l : List VT} (h : RRow w P A l) : RRow w (fun _ => True) A l := h.move (fun _ _ _ => ⟨rfl, trivial⟩) (Nat.le_refl _)
theorem RTRow.any {w : World} {P : Nat → Prop} {A : Option Addr} {l : List TT} (h : RTRow w P A l) : RTRow w (fun _ => True) A l := h.move (fun _ _ _ => ⟨rfl, trivial⟩) (Nat.le_refl _)
theorem RV.later {w w' : World} {V : VT} {v : Value} (h : RV w V v) (hb : Below w.heap.size w w') : RV w' V v := by obtain ⟨A, c, h1, h2, h3⟩ := h; exact ⟨A, c, h1, h2, h3.later hb⟩
theorem RT.later {w w' : World} {V : TT} {v : Value} (h : RT w V v) (hb : Below w.heap.size w w') : RT w' V v := by obtain ⟨A, c, h1, h3⟩ := h; exact ⟨A, c, h1, h3.later hb⟩
theorem RRow.at {w : World} {A : Option Addr} {l : List VT} (h : RRow w (fun _ => True) A l) (k : Nat) (hk : k < l.length) : ∃ b A' c', A = some ⟨b, 0, none⟩ ∧ b < w.heap.size ∧ w.cell? ⟨b, k * 8, none⟩ = some (.int .i64 l[k].k) ∧ w.cell? ⟨b, k * 8 + 1, none⟩ = some (.int .i64 l[k].n) ∧ w.cell? ⟨b, k * 8 + 2, none⟩ = some (.string l[k].nm) ∧ w.cell? ⟨b, k * 8 + 3, none⟩ = some (.slice A' l[k].args.length c') ∧ w.cell? ⟨b, k * 8 + 4, none⟩ = some (.int .i64 l[k].node) ∧ w.cell? ⟨b, k * 8 + 5, none⟩ = some (.pointer none) ∧ w.cell? ⟨b, k * 8 + 6, none⟩ = some (.int .i64 l[k].at_) ∧ w.cell? ⟨b, k * 8 + 7, none⟩ = some (.int .i64 0) ∧
    RV w l[k] (.agg #[.int .i64 l[k].k, .int .i64 l[k].n, .string l[k].nm, .slice A' l[k].args.length c', .int .i64 l[k].node, .pointer none, .int .i64 l[k].at_, .int .i64 0]) := by
  rcases h with h | ⟨b, rfl, hb, _, hl⟩
  · omega
  · have := okRL_at hl k hk
    rw [okR_eq, Nat.zero_add] at this
    obtain ⟨hn, c0, c1, c2, c4, c5, c6, c7, A', c', c3, hr⟩ := this
    exact ⟨b, A', c', rfl, hb, c0, c1, c2, c3, c4, c5, c6, c7, A', c', rfl, hn, hr⟩
theorem RTRow.at {w : World} {A : Option Addr} {l : List TT} (h : RTRow w (fun _ => True) A l) (k : Nat) (hk : k < l.length) : ∃ b A' c', A = some ⟨b, 0, none⟩ ∧ b < w.heap.size ∧ w.cell? ⟨b, k * 4, none⟩ = some (.int .i64 l[k].k) ∧ w.cell? ⟨b, k * 4 + 1, none⟩ = some (.string l[k].nm) ∧ w.cell? ⟨b, k * 4 + 2, none⟩ = some (.int .i64 l[k].vr) ∧ w.cell? ⟨b, k * 4 + 3, none⟩ = some (.slice A' l[k].args.length c') ∧
    RT w l[k] (.agg #[.int .i64 l[k].k, .string l[k].nm, .int .i64 l[k].vr, .slice A' l[k].args.length c']) := by
  rcases h with h | ⟨b, rfl, hb, _, hl⟩
  · omega
  · have := okRTL_at hl k hk
    rw [okRT_eq, Nat.zero_add] at this
    obtain ⟨c0, c1, c2, A', c', c3, hr⟩ := this
    exact ⟨b, A', c', rfl, hb, c0, c1, c2, c3, A', c', rfl, hr⟩
set_option maxRecDepth 100000 in
set_option maxHeartbeats 4000000 in
theorem rsize_any : ∀ (d : Nat) (V : TT) (v : Value) (w : World), bigT d V = false → RT w V v → Calls Tryd.prog 26 #[v] w fun e w' => (∃ n : Int, e = .returned (.int .i64 n) ∧ 1 ≤ n ∧ n ≤ 501) ∧ Below w.heap.size w w' := by
  intro d
  induction d with
  | zero => intro V v w h; cases h
  | succ d ih =>
    intro V v w hbg ⟨A, c, hv, hA⟩
    obtain ⟨b1, b2, b3⟩ := bigT_parts hbg
    subst hv
    have HI := Lib.hid ih
    have HA := Lib.hid hA
    have HBG := Lib.hid b3
    obtain ⟨args, ha⟩ : ∃ l, l = V.args := ⟨_, rfl⟩
    rw [← ha] at HA HBG b1 ⊢
    clear ih hA hbg b2 b3 ha
    obtain ⟨wB, hwB⟩ : ∃ wB, wB = w.alloc (.cells #[.int .i64 V.k, .string V.nm, .int .i64 V.vr, .slice A args.length c] 60) := ⟨_, rfl⟩
    have B3 : Hid (wB.cell? ⟨w.heap.size, 3, none⟩ = some (.slice A args.length c)) := Lib.hid (by
      rw [hwB]; have := (MapKept.heap_alloc w (Obj.cells #[.int .i64 V.k, .string V.nm, .int .i64 V.vr, .slice A args.length c] 60)).1
      simp only [World.cell?, this]; rfl)
    have BL : Hid (Below w.heap.size w wB) := Lib.hid (by rw [hwB]; exact below_alloc _ _)
    have HLT : Hid (w.heap.size < wB.heap.size) := Lib.hid (by rw [hwB]; show _ < (w.heap.push _).size; simp)
    have HWB := Lib.hid hwB
    clear hwB
    go_enter Tryd.func26, Tryd.ntmps26
    go_wp2
    go_loopw [3, 4] (fun n i wr => ∃ (k : Nat) (m : Int), k ≤ args.length ∧ i = .int .i64 k ∧ n = .int .i64 m ∧ 1 ≤ m ∧ m ≤ 1001 ∧ Below wB.heap.size wB wr) (fun _ i _ => args.length - (intOf i).toNat)
    case atStart => exact ⟨0, 1, by omega, rfl, rfl, by omega, by omega, by rw [HWB.out]; exact Below.refl _ _⟩
    case round =>
      obtain ⟨k, m, hk, rfl, rfl, hm0, hm1, hbl⟩ := hrel
      have HBL := Lib.hid hbl
      clear hbl
      have c3 := (HBL.out.cell (p := ⟨w.heap.size, 3, none⟩) HLT.out).trans B3.out
      have hBW : Hid (Below w.heap.size w wr) := Lib.hid (BL.out.trans (HBL.out.mono BL.out.size))
      by_cases hlt : k < args.length
      · have hli : (k : Int) < (args.length : Int) := by omega
        by_cases h5 : m ≤ 500
        · have d5 := decide_eq_true h5
          obtain ⟨b, A1, c1, rfl, hb, x0, x1, x2, x3, hin⟩ := (HA.out.later hBW.out).at k hlt
          have CALL := Lib.hid (HI.out args[k] _ wr (HBG.out args[k] (List.getElem_mem hlt)) hin)
          clear hin hb HI HA
          go_wp2_with fail
          refine Calls.mono CALL.out ?_; rintro e2 w2 ⟨⟨m2, rfl, hm2, hm3⟩, hb2⟩
          have HB1 := Lib.hid (HBL.out.trans (hb2.mono HBL.out.size))
          clear hb2 CALL
          have hwr : IntKind.i64.wrap (m + m2) = m + m2 := IntWalk.i64_in _ (by omega)
          go_wp2
          clear hwr
          go_roundw
          case rel => exact ⟨k + 1, m + m2, by omega, by go_num, rfl, by omega, by omega, HB1.out⟩
          case measure => simp [intOf]; omega
        · have d5 := decide_eq_false h5
          by_cases h6 : 501 < m
          · have d6 := decide_eq_true h6
            go_wp2
            go_ret
            exact ⟨⟨_, rfl, by omega, by omega⟩, hBW.out⟩
          · have d6 := decide_eq_false h6
            go_wp2
            go_ret
            exact ⟨⟨_, rfl, by omega, by omega⟩, hBW.out⟩
      · have hge : ¬ (k : Int) < (args.length : Int) := by omega
        by_cases h6 : 501 < m
        · have d6 := decide_eq_true h6
          go_wp2
          go_ret
          exact ⟨⟨_, rfl, by omega, by omega⟩, hBW.out⟩
        · have d6 := decide_eq_false h6
          go_wp2
          go_ret
          exact ⟨⟨_, rfl, by omega, by omega⟩, hBW.out⟩
end Go.Proofs.YtclilpabdcdeoaaDoor
