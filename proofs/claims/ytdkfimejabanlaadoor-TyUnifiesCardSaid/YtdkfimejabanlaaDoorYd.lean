import Derived.Test.YtdkfimejabanlaaDoorYc
namespace Go.Proofs.YtdkfimejabanlaaDoor
open DR
open Go.ChangeShapes Go.WideShapes Go.ChangeAt Go.RowKit Go.WideMaps
set_option linter.unusedVariables false
set_option linter.unusedSimpArgs false
theorem res_bnd {St : List TT} {rk : Int → Nat} (hst : StOk St rk) {t T : TT} (h : Res St t T) (hb : bnd St t) : rkT rk T < rkT rk t := by
  cases h with
  | stop hb' => exact absurd hb hb'
  | step _ h' => exact Nat.lt_of_le_of_lt (res_rk hst h') (rk_step hst hb)
theorem nodes_arg {V a : TT} (h : a ∈ V.args) : nodes a < nodes V := by
  have h1 := nodes_eq V
  have h2 : ∀ l : List TT, a ∈ l → nodes a ≤ nodesL l := by
    intro l
    induction l with
    | nil => intro h; cases h
    | cons b r ih =>
      intro h
      rw [nodesL]
      rcases List.mem_cons.1 h with rfl | h
      · omega
      · have := ih h; omega
  have := h2 _ h
  omega
/-- what holds of a type if it holds of the arguments of what it stands for. -/
theorem res_ind {St : List TT} {rk : Int → Nat} (hst : StOk St rk) {P : TT → Prop} (step : ∀ t, shp t = true → (∀ a ∈ (resF St t).args, P a) → P t) : ∀ t, shp t = true → P t := by
  have main : ∀ (r : Nat) (m : Nat) (t : TT), rkT rk t < r → nodes t < m → shp t = true → P t := by
    intro r
    induction r with
    | zero => intro m t h; omega
    | succ r ihr =>
      intro m
      induction m with
      | zero => intro t _ h; omega
      | succ m ihm =>
        intro t hr hm hsh
        refine step t hsh fun a ha => ?_
        have hR := resF_res hst t
        have hsa := (shp_head (res_shp hst hR hsh)).2.2 a ha
        have hra := rkT_arg rk ha
        by_cases hb : bnd St t
        · have h1 := res_bnd hst hR hb
          exact ihr (nodes a + 1) a (by omega) (by omega) hsa
        · have e : resF St t = t := (res_fun hR (.stop hb))
          rw [e] at ha hra
          have := nodes_arg ha
          exact ihm a (by omega) (by omega) hsa
  exact fun t h => main _ _ t (Nat.lt_succ_self _) (Nat.lt_succ_self _) h
theorem occ_res {St : List TT} {v : Int} {t T : TT} (h : Res St t T) : Occ St v t ↔ Occ St v T := by
  induction h with
  | stop hb => exact Iff.rfl
  | step hb _ ih =>
    refine Iff.trans ⟨fun ho => ?_, fun ho => .step hb ho⟩ ih
    cases ho with
    | here _ hb' _ => exact absurd hb hb'
    | step _ ho => exact ho
    | arg h7 _ _ => exact absurd hb.1 h7
theorem occ_var {St : List TT} {v : Int} {T : TT} (hb : ¬ bnd St T) (h7 : T.k = 7) : Occ St v T ↔ T.vr = v := by
  refine ⟨fun ho => ?_, fun h => .here h7 hb h⟩
  cases ho with
  | here _ _ h => exact h
  | step hb' _ => exact absurd hb' hb
  | arg h7' _ _ => exact absurd h7 h7'
theorem occ_args {St : List TT} {v : Int} {T : TT} (h7 : T.k ≠ 7) : Occ St v T ↔ ∃ a ∈ T.args, Occ St v a := by
  refine ⟨fun ho => ?_, fun ⟨a, ha, h⟩ => .arg h7 ha h⟩
  cases ho with
  | here h _ _ => exact absurd h h7
  | step hb _ => exact absurd hb.1 h7
  | arg _ ha h => exact ⟨_, ha, h⟩
/-- the one that unifies, in memory. -/
def UniR (w : World) (ub sb : Nat) (n : Int) (St : List TT) : Prop := (∃ x, w.heap[ub]? = some (.cells #[.pointer (some ⟨sb, 0, none⟩), x] 65 (0, 0))) ∧ SubR w sb n St
theorem UniR.later {w w' : World} {ub S : Nat} {n : Int} {St : List TT} (h : UniR w ub S n St) (hb : Below w.heap.size w w') : UniR w' ub S n St := by
  obtain ⟨⟨x, h1⟩, h2⟩ := h
  exact ⟨⟨x, (hb.block ub (Array.getElem?_eq_some_iff.1 h1).1).trans h1⟩, h2.later hb⟩
open Classical in
set_option maxRecDepth 100000 in
set_option maxHeartbeats 4000000 in
theorem occurs_ok {St : List TT} {rk : Int → Nat} (hst : StOk St rk) {ub sb : Nat} {n v : Int} : ∀ V : TT, shp V = true → ∀ (x : Value) (w : World), TIn w any0 V x → UniR w ub sb n St → Calls Tryd.prog 63 #[.pointer (some ⟨ub, 0, none⟩), .int .i64 v, x] w fun e w' => e = .returned (.bool (decide (Occ St v V))) ∧ Below w.heap.size w w' := by
  refine res_ind hst ?_
  intro V hsh ih x w ⟨A, c, hv, hA⟩ hu
  subst hv
  have hR := resF_res hst V
  have OR := Lib.hid (show Occ St v V ↔ Occ St v (resF St V) from occ_res hR)
  have NB := Lib.hid (res_stop hR)
  have RS := Lib.hid (fun W (hW : Below w.heap.size w W) => resolve_ok hst (P := (· < w.heap.size)) (c := c) hsh ((hA.weak fun b hb _ => hb).later hW) (hu.2.low.later hW))
  have HSH := Lib.hid (shp_head (res_shp hst hR hsh)).2.2
  have hl2 := (shp_head (res_shp hst hR hsh)).2.1
  have HI := Lib.hid ih
  obtain ⟨T, hT⟩ : ∃ T, T = resF St V := ⟨_, rfl⟩
  rw [← hT] at RS HSH hl2 OR NB HI
  have HU := Lib.hid hu
  obtain ⟨⟨ux, hu1⟩, -⟩ := hu
  have hul := (Array.getElem?_eq_some_iff.1 hu1).1
  unfold tv at RS ⊢
  obtain ⟨wA, hwA⟩ : ∃ z, z = w.alloc (.cells #[.int .i64 V.k, .string V.nm, .int .i64 V.vr, .slice A V.args.length c] 27) := ⟨_, rfl⟩
  have BA := Lib.hid (show Below w.heap.size w wA by rw [hwA]; exact below_alloc w _)
  have HX := Lib.hid (show wA.heap[w.heap.size]? = some (.cells #[.int .i64 V.k, .string V.nm, .int .i64 V.vr, .slice A V.args.length c] 27 (0, 0)) by rw [hwA]; exact heap_alloc_new w _)
  have HZ := Lib.hid (show wA.heap.size = w.heap.size + 1 by rw [hwA]; simp)
  have KU := Lib.hid (sub_cell ((BA.out.block ub hul).trans hu1)).1
  have HUL := Lib.hid hul
  have HWA := Lib.hid hwA
  clear ih hT hA hsh hR hu1 hul hwA hst
  go_enter Tryd.func63, Tryd.ntmps63
  go_wp2_with fail
  try rw [← HWA.out]
  refine wp_region_D [6] (fun w' => Below wA.heap.size wA w') (by kernel_rfl) (bdr wA) (fun hHeld => ?_)
  refine WDt 0 { dst := some 9, op := .move (.tmp 0), type := 73, pos := _, after := #[], guard := none } (v := ?va0) rfl (by kernel_rfl) (fun _ _ _ h => h) (Or.inl ⟨by rfl, ?hya0⟩) hHeld ?_
  case hya0 => (intro wz hSw; (try dsimp only at hSw); go_simp; try with_reducible rfl)
  (try simp only [putz])
  refine WDt 1 { dst := some 10, op := .nilCheck (.tmp 9), type := 0, pos := _, after := #[{ on := 0, ground := .data }], guard := none } (v := ?va1) rfl (by kernel_rfl) (fun _ _ _ h => h) (Or.inl ⟨by rfl, ?hya1⟩) hHeld ?_
  case hya1 => (intro wz hSw; (try dsimp only at hSw); go_simp; try with_reducible rfl)
  (try simp only [putz])
  refine WDt 2 { dst := some 11, op := .fieldAddr 65 (.tmp 10) 0, type := 0, pos := _, after := #[{ on := 1, ground := .data }], guard := none } (v := ?va2) rfl (by kernel_rfl) (fun _ _ _ h => h) (Or.inl ⟨by rfl, ?hya2⟩) hHeld ?_
  case hya2 => (intro wz hSw; (try dsimp only at hSw); go_simp; try with_reducible rfl)
  (try simp only [putz])
  refine WDt 3 { dst := some 12, op := .load 23 (.tmp 11), type := 23, pos := _, after := #[{ on := 2, ground := .data }], guard := none } (v := ?va3) rfl (by kernel_rfl) (fun _ _ _ h => h) (Or.inl ⟨by rfl, ?hya3⟩) hHeld ?_
  case hya3 => (intro wz hSw; (try dsimp only at hSw); have q0 := (hSw.cell (p := ⟨ub, 0, none⟩) (by have := HZ.out; have := HUL.out; show ub < _; omega)).trans KU.out; go_simp; try with_reducible rfl)
  (try simp only [putz])
  refine WDt 4 { dst := some 13, op := .load 27 (.tmp 5), type := 27, pos := _, after := #[], guard := none } (v := ?va4) rfl (by kernel_rfl) (fun _ _ _ h => h) (Or.inl ⟨by rfl, ?hya4⟩) hHeld ?_
  case hya4 => (intro wz hSw; (try dsimp only at hSw); obtain ⟨z0, z1, z2, z3⟩ := cells4 ((hSw.block w.heap.size (by have := HZ.out; omega)).trans HX.out); go_simp; try with_reducible rfl)
  (try simp only [putz])
  refine WD_ready (rs := [5]) (by kernel_rfl) (by simp) ?_
  refine AllD.cons (o := _) rfl (fun K hK => ?_) AllD.nil
  rw [if_pos (by rfl)]
  go_simp
  refine (RS.out _ (bt BA.out hHeld)).mono ?_; rintro e w1 ⟨A1, c1, rfl, hr1, hb1⟩
  try go_wp2_with fail
  refine hK.out _ _ (bt hHeld hb1) (fun hHeld => ?_)
  clear hK K
  (try simp only [putz])
  have H1 := Lib.hid hHeld
  have R1 := Lib.hid (hr1.later hb1)
  have X1 := Lib.hid ((hHeld.block w.heap.size (by have := HZ.out; omega)).trans HX.out)
  obtain ⟨f0, f1, f2, f3⟩ := froz4 X1.out
  obtain ⟨g0, g1, g2, g3⟩ := cells4 X1.out
  clear hHeld hr1 hb1
  refine WD_ready (rs := [6]) (by kernel_rfl) (by simp) ?_
  refine AllD.last (o := _) rfl (by kernel_rfl) (fun K hK => ?_) AllD.nil
  rw [if_pos (by rfl)]
  go_simp
  refine hK.out _ _ ?_
  clear hK K
  (try simp only [putz])
  refine WD_done (by kernel_rfl) ?_ _
  obtain ⟨wS, hwS⟩ : ∃ z, z = (((w1.setCell ⟨w.heap.size, 0, none⟩ (.int .i64 T.k)).setCell ⟨w.heap.size, 1, none⟩ (.string T.nm)).setCell ⟨w.heap.size, 2, none⟩ (.int .i64 T.vr)).setCell ⟨w.heap.size, 3, none⟩ (.slice A1 T.args.length c1) := ⟨_, rfl⟩
  have FS := Lib.hid (show Frm w1 wS (· = w.heap.size) by rw [hwS]; exact frm4 w1 w.heap.size _ _ _ _)
  have XS := Lib.hid (show wS.heap[w.heap.size]? = some (.cells #[.int .i64 T.k, .string T.nm, .int .i64 T.vr, .slice A1 T.args.length c1] 27 (0, 0)) by rw [hwS]; exact cells_all _ _ _ _ X1.out)
  rw [← hwS]
  clear hwS g0 g1 g2 g3 f0 f1 f2 f3
  have BS : Hid (Below w.heap.size w wS) := Lib.hid ((bt BA.out H1.out).trans (FS.out.below (fun q hq => by have : q = w.heap.size := hq; omega) (by have := H1.out.size; have := HZ.out; omega)))
  have HA := Lib.hid (R1.out.move (w' := wS) (P' := any0) (fun b hb (hp : b < w.heap.size) => ⟨FS.out.block b hb (by show ¬ b = w.heap.size; omega), trivial⟩) FS.out.size)
  obtain ⟨g0, g1, g2, g3⟩ := cells4 XS.out
  by_cases h7 : T.k = 7
  · have q7 : (T.k == 7) = true := by rw [h7]; rfl
    have RES : Hid (decide (Occ St v V) = (T.vr == v)) := Lib.hid (by rw [decide_eq_decide.2 (OR.out.trans (occ_var NB.out h7))]; rfl)
    clear h7
    go_wp2
    go_ret
    exact ⟨by rw [RES.out]; rfl, BS.out⟩
  · have q7 : (T.k == 7) = false := beq_eq_false_iff_ne.2 h7
    have OA := Lib.hid (OR.out.trans (occ_args (v := v) h7))
    clear h7
    have ST := Lib.hid (Below.refl wS.heap.size wS)
    go_wp2
    go_loopw [25] (fun i wr => ∃ k : Nat, k ≤ T.args.length ∧ i = .int .i64 k ∧ Hid (∀ a ∈ T.args.take k, ¬ Occ St v a) ∧ Hid (Below wS.heap.size wS wr)) (fun i _ => T.args.length - (intOf i).toNat)
    case atStart => exact ⟨0, by omega, by first | rfl | trivial, Lib.hid (by simp), ST⟩
    case round =>
      obtain ⟨k, hk, rfl, HQ, HW⟩ := hrel
      by_cases hlt : k < T.args.length
      · have hlti : (k : Int) < (T.args.length : Int) := by omega
        obtain ⟨b, o, rfl, hb, hr⟩ := HA.out.at (by omega)
        obtain ⟨A', c', x0, x1, x2, x3, hin⟩ := hr wr HW.out k hlt
        have CALL := Lib.hid (fun W (hW : Below wr.heap.size wr W) => HI.out T.args[k] (List.getElem_mem hlt) _ W (hin.later hW) (HU.out.later (bt BS.out (bt HW.out hW))))
        have HTK : Hid (T.args.take (k + 1) = T.args.take k ++ [T.args[k]]) := Lib.hid (List.take_succ_eq_append_getElem hlt)
        have HMEM := Lib.hid (List.getElem_mem hlt)
        obtain ⟨E, hE⟩ : ∃ E, E = T.args[k] := ⟨_, rfl⟩
        rw [← hE] at x0 x1 x2 x3 CALL HTK HMEM
        unfold tv at CALL
        clear hr hin hb HI hE
        by_cases ho : Occ St v E
        · have HO := Lib.hid ho
          rw [decide_eq_true ho] at CALL
          have RES : Hid (decide (Occ St v V) = true) := Lib.hid (decide_eq_true (OA.out.2 ⟨E, HMEM.out, ho⟩))
          clear ho
          go_wp2_with fail
          refine (CALL.out _ (below_alloc wr _)).mono ?_; rintro e w2 ⟨rfl, hb2⟩
          have HW1 := Lib.hid (bt BS.out (bt HW.out (bt (below_alloc wr (.cells #[.int .i64 E.k, .string E.nm, .int .i64 E.vr, .slice A' E.args.length c'] 27)) hb2)))
          clear hb2 CALL x0 x1 x2 x3
          go_wp2
          go_ret
          exact ⟨by rw [RES.out]; rfl, HW1.out⟩
        · have HO := Lib.hid (show ∀ a ∈ T.args.take (k + 1), ¬ Occ St v a by
            intro a ha
            rw [HTK.out, List.mem_append] at ha
            rcases ha with ha | ha
            · exact HQ.out a ha
            · rw [List.mem_singleton] at ha; rw [ha]; exact ho)
          rw [decide_eq_false ho] at CALL
          clear ho
          go_wp2_with fail
          refine (CALL.out _ (below_alloc wr _)).mono ?_; rintro e w2 ⟨rfl, hb2⟩
          have HW1 := Lib.hid (bt HW.out (bt (below_alloc wr (.cells #[.int .i64 E.k, .string E.nm, .int .i64 E.vr, .slice A' E.args.length c'] 27)) hb2))
          clear hb2 CALL x0 x1 x2 x3
          go_wp2
          go_roundw
          case rel => exact ⟨k + 1, by omega, by go_num, HO, HW1⟩
          case measure => simp [intOf]; omega
      · have RES : Hid (decide (Occ St v V) = false) := Lib.hid (decide_eq_false (fun h => by
          obtain ⟨a, ha, ho⟩ := OA.out.1 h
          have := HQ.out
          rw [List.take_of_length_le (by omega)] at this
          exact this a ha ho))
        have hge : ¬ (k : Int) < (T.args.length : Int) := by omega
        have HW1 := Lib.hid (bt BS.out HW.out)
        go_wp2
        go_ret
        exact ⟨by rw [RES.out]; rfl, HW1.out⟩
end Go.Proofs.YtdkfimejabanlaaDoor
