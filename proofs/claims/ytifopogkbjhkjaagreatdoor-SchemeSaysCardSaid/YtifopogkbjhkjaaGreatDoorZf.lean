import Derived.Test.YtifopogkbjhkjaaGreatDoorZd
import Derived.Test.YtifopogkbjhkjaaGreatDoorRg
import Derived.Test.YtifopogkbjhkjaaGreatDoorYq
import Derived.Deep.Cut
import Derived.Deep.WholeRow
import Derived.Laws.CopyRow
namespace Go.Proofs.YtifopogkbjhkjaaGreatDoor
open DR
open Go.ChangeShapes Go.WideShapes Go.ChangeAt Go.RowKit Go.WideMaps
set_option linter.unusedVariables false
set_option linter.unusedSimpArgs false
variable {nx : Int}
theorem msz_free {St : List TT} {rk : Int → Nat} (hst : StOk St rk) {x : Nat} (hx : x < 2000) (h0 : (stA St x).k = 0) : msz St (.mk 7 ⟨#[]⟩ (x : Int) []) = 1 := by
  have hs := shp_v hx
  have hb : ¬ bnd St (.mk 7 ⟨#[]⟩ (x : Int) []) := fun h => h.2 h0
  rw [msz_stop hst hs hb]; rfl
theorem msz_held {St : List TT} {rk : Int → Nat} (hst : StOk St rk) {x : Nat} (hx : x < 2000) (h0 : (stA St x).k ≠ 0) : msz St (.mk 7 ⟨#[]⟩ (x : Int) []) = min (fsz St (stA St x) : Int) 501 := by
  have hs := shp_v hx
  rw [msz_bnd hst hs ⟨rfl, h0⟩]; rfl
open Classical in
set_option maxRecDepth 100000 in
set_option maxHeartbeats 4000000 in
theorem rgreat_ok {P : Nat → Prop} {St : List TT} {rk : Int → Nat} (hst : StOk St rk) {rb : Nat} {w : World} (hs : RSub nx w P rb St) :
    Calls Tryz.prog 31 #[.pointer (some ⟨rb, 0, none⟩)] w fun e w' => e = .returned (.bool (decide (Great St))) ∧ Below w.heap.size w w' := by
  have hlen : St.length = 2000 := by obtain ⟨_, _, _, h⟩ := hs; exact h
  have HLEN := Lib.hid hlen
  have HS := Lib.hid hs
  have HST := Lib.hid hst
  have ST := Lib.hid (Below.refl w.heap.size w)
  clear hlen hs hst
  go_enter Tryz.func31, Tryz.ntmps31
  go_wp2
  go_loopw [3] (fun i wr => ∃ (k : Nat), k ≤ 2000 ∧ i = .int .i64 k ∧ Hid (∀ x : Nat, x < k → ¬ 500 < msz St (.mk 7 ⟨#[]⟩ (x : Int) [])) ∧ Hid (Below w.heap.size w wr)) (fun i _ => 2000 - (intOf i).toNat)
  case atStart => exact ⟨0, by omega, by first | rfl | trivial, Lib.hid (fun x h => by omega), ST⟩
  case round =>
    obtain ⟨k, hk, rfl, HQ, HW⟩ := hrel
    by_cases hlt : k < 2000
    · have hlti : (k : Int) < 2000 := by omega
      obtain ⟨A, c, e0, e1, e2, e3, hin⟩ := (HS.out.later HW.out).at hlt
      have NX := Lib.hid (show ¬ 500 < msz St (.mk 7 ⟨#[]⟩ (k : Int) []) → ∀ x : Nat, x < k + 1 → ¬ 500 < msz St (.mk 7 ⟨#[]⟩ (x : Int) []) by
          intro hc x hx
          by_cases e : x = k
          · subst e; exact hc
          · exact HQ.out x (by omega))
      have HM0 := Lib.hid (fun h0 => msz_free HST.out (x := k) hlt h0)
      have HM1 := Lib.hid (fun h0 => msz_held HST.out (x := k) hlt h0)
      have SH := Lib.hid (HST.out.shp k)
      obtain ⟨E, hE⟩ : ∃ E, E = stA St k := ⟨_, rfl⟩
      rw [← hE] at e0 e1 e2 e3 hin HM0 HM1 SH
      have HIN := Lib.hid hin
      clear hE hin
      by_cases hk0 : E.k = 0
      · have qk : (E.k == 0) = true := by rw [hk0]; rfl
        have qk2 : (E.k != 0) = false := by rw [hk0]; rfl
        have HN := Lib.hid (NX.out (by rw [HM0.out hk0]; decide))
        clear hk0
        go_wp2
        go_roundw
        case rel => exact ⟨k + 1, by omega, by go_num, Lib.hid (fun x h => by have := HN.out x h; omega), HW⟩
        case measure => simp [intOf]; omega
      · have qk : (E.k == 0) = false := beq_eq_false_iff_ne.2 hk0
        have qk2 : (E.k != 0) = true := by simp [bne, qk]
        have CALL := Lib.hid (rsz_ok HST.out (rb := rb) (P := P) E (SH.out hk0) (tv E A c) wr ⟨A, c, rfl, HIN.out.weak (fun _ _ _ => trivial)⟩ (HS.out.later HW.out))
        have hm1 := HM1.out hk0
        obtain ⟨C, hC⟩ : ∃ z, z = min (fsz St E : Int) 501 := ⟨_, rfl⟩
        rw [← hC] at hm1 CALL
        unfold tv at CALL
        clear hC hk0
        by_cases hc : 500 < C
        · have dc := decide_eq_true hc
          have RES : Hid (decide (Great St) = true) := Lib.hid (decide_eq_true ⟨k, by rw [HLEN.out]; exact hlt, by rw [hm1]; exact hc⟩)
          clear hm1
          go_wp2_with fail
          refine CALL.out.mono ?_; rintro e w2 ⟨rfl, b2⟩
          have B2 := Lib.hid (bt HW.out b2)
          clear b2 CALL
          go_wp2
          go_ret
          exact ⟨by rw [RES.out]; rfl, B2.out⟩
        · have dc := decide_eq_false hc
          have HN := Lib.hid (NX.out (by rw [hm1]; exact hc))
          clear hm1
          go_wp2_with fail
          refine CALL.out.mono ?_; rintro e w2 ⟨rfl, b2⟩
          have B2 := Lib.hid (bt HW.out b2)
          clear b2 CALL
          go_wp2
          go_roundw
          case rel => exact ⟨k + 1, by omega, by go_num, Lib.hid (fun x h => by have := HN.out x h; omega), B2⟩
          case measure => simp [intOf]; omega
    · have RES : Hid (decide (Great St) = false) := Lib.hid (decide_eq_false (fun ⟨x, hx, h⟩ => HQ.out x (by have := HLEN.out; omega) h))
      have hge : ¬ (k : Int) < 2000 := by omega
      go_wp2
      go_ret
      exact ⟨by rw [RES.out]; rfl, HW.out⟩
end Go.Proofs.YtifopogkbjhkjaaGreatDoor
namespace Go.Proofs.YtifopogkbjhkjaaGreatDoor
open DR
open Go.ChangeShapes Go.WideShapes Go.ChangeAt Go.RowKit Go.WideMaps
set_option linter.unusedVariables false
set_option linter.unusedSimpArgs false
variable {nx : Int}
abbrev RAy : TypeId := 37
def z4 : List Value := [Value.int .i64 0, .string .empty, .int .i64 0, .slice none 0 0]
def zarr : List Value := (List.replicate 2000 z4).flatten
set_option maxRecDepth 100000 in
theorem infoZA : (Tryz.prog.info? RAy).map (fun i => (i.zero, i.size)) = some (some (.agg zarr.toArray), 8000) := by kernel_rfl
theorem zarr_len : zarr.length = 8000 := by unfold zarr; rw [List.length_flatten, List.map_replicate, List.sum_replicate_nat]; rfl
theorem kids_one {w : World} {P : Nat → Prop} : ∀ {l : List TT} {xs : List Value}, KidsT w P l xs → ∀ v ∈ xs, v.oneCell' = true
  | [], _, h, v, hv => by rw [show _ = _ from h] at hv; cases hv
  | u :: l, _, ⟨A, c, ys, h1, _, h4⟩, v, hv => by
    subst h1
    rcases List.mem_append.1 hv with hv | hv
    · exact kid_one _ _ _ v hv
    · exact kids_one h4 v hv
theorem arr_load {W : World} {g : Nat} {xs ys : List Value} {t : TypeId} (h : W.heap[g]? = some (.cells (xs ++ ys).toArray t (0, 0))) (hl : xs.length = 8000) : (loadVar RAy ⟨g, 0, none⟩).run Tryz.prog W = .ok (.agg xs.toArray) W := by
  have hu := Tryz.underlying37
  have hz := (zero_of_info infoZA).2
  have hr := run_loadCells_list (P := Tryz.prog) W ⟨g, 0, none⟩ xs (fun j v hv => by
    have hadd : (⟨g, 0, none⟩ : Addr).add j = ⟨g, j, none⟩ := by unfold Addr.add; split <;> simp_all
    have hj : j < xs.length := (List.getElem?_eq_some_iff.1 hv).1
    rw [hadd, cell_of_row _ _ j _ t (0, 0) h]
    simpa [List.getElem?_append_left hj] using hv)
  rw [hl] at hr
  cases hq : Tryz.prog.info? RAy with
  | none => simp [hq] at hz
  | some i =>
    have hs : i.size = 8000 := by simpa [hq] using hz
    simp [loadVar, isAgg, run_underlying hu, sizeOf, typeInfo, hq, hs, hr]
theorem arr_store {W : World} {g : Nat} {xs old ys : List Value} {t : TypeId} (h : W.heap[g]? = some (.cells (old ++ ys).toArray t (0, 0))) (hl : xs.length = 8000) (ho : old.length = 8000) (h1 : ∀ v ∈ xs, v.oneCell' = true) :
    (storeVar RAy ⟨g, 0, none⟩ (.agg xs.toArray)).run Tryz.prog W = .ok () (W.setRow g (xs ++ ys).toArray) := by
  have hz := (zero_of_info infoZA).2
  have hr := run_storeCells_at Tryz.prog g 0 t xs 0 (old ++ ys).toArray W h (by simp; omega) h1
  have e : ((old ++ ys).toArray.toList.take (0 + 0) ++ xs ++ (old ++ ys).toArray.toList.drop (0 + 0 + xs.length)) = xs ++ ys := by
    simp [hl, ← ho]
  rw [e] at hr
  cases hq : Tryz.prog.info? RAy with
  | none => simp [hq] at hz
  | some i =>
    have hs : i.size = 8000 := by simpa [hq] using hz
    simp [storeVar, sizeOf, typeInfo, hq, hs, Value.cells, hl, hr]
theorem arr_new {W : World} {xs : List Value} (hl : xs.length = 8000) (h1 : ∀ v ∈ xs, v.oneCell' = true) :
    (storeVar RAy ⟨W.heap.size, 0, none⟩ (.agg xs.toArray)).run Tryz.prog (W.alloc (.cells zarr.toArray RAy)) = .ok () (W.alloc (.cells xs.toArray RAy)) := by
  have h := arr_store (W := W.alloc (.cells zarr.toArray RAy)) (g := W.heap.size) (xs := xs) (old := zarr) (ys := []) (t := RAy) (by rw [List.append_nil]; exact heap_alloc_last W _) hl zarr_len h1
  rw [List.append_nil, World.setRow_alloc_new] at h
  exact h
theorem wp_load_lit {P : Program} {o : Oper} {a : Act} {w : World} {K : Act → World → Prop} {Q : Exit → Act → World → Prop} {t : TypeId} {x : Operand} {A : Addr} {v : Value} (ho : o.op = Op.load t x) (hx : a.eval x = .pointer (some A)) (h : (loadVar t A).run P w = .ok v w) (hK : K (a.put o.dst v) w) : o.wp P a w K Q := by
  unfold Oper.wp
  simp [execOp, ho, hx, Instr.loadAt, Instr.sureAddr, h, Result.andThen]
  exact hK
theorem wp_alloc_lit {P : Program} {o : Oper} {a : Act} {w : World} {K : Act → World → Prop} {Q : Exit → Act → World → Prop} {t : TypeId} {z : Array Value} (ho : o.op = Op.alloc t) (h : (zeroValue t).run P w = .ok (.agg z) w) (hK : K (a.put o.dst (.pointer (some ⟨w.heap.size, 0, none⟩))) (w.alloc (.cells z t))) : o.wp P a w K Q := by
  unfold Oper.wp
  simp [execOp, ho, Instr.alloc, h, Result.andThen, newVar, newRow, Value.cells]
  exact hK
theorem wp_store_lit {P : Program} {o : Oper} {a : Act} {w w' : World} {K : Act → World → Prop} {Q : Exit → Act → World → Prop} {t : TypeId} {x y : Operand} {A : Addr} {v : Value} (ho : o.op = Op.store t x y) (hd : o.dst = none) (hx : a.eval x = .pointer (some A)) (hv : a.eval y = v) (h : (storeVar t A v).run P w = .ok () w') (hK : K a w') : o.wp P a w K Q := by
  unfold Oper.wp
  simp [execOp, ho, hx, hv, Instr.storeAt, Instr.sureAddr, h, Result.andThen]
  show K (a.put o.dst undef) w'
  rw [hd]
  exact hK

theorem frm_row {W : World} {g : Nat} (c : Array Value) : Frm W (W.setRow g c) (· = g) :=
  ⟨rfl, rfl, rfl, by simp [World.setRow], fun i hi hr => by
    have hn : ¬ g = i := fun e => hr e.symm
    simp [World.setRow, Array.getElem?_modify, hn]⟩
open Classical in
/-- what the reference's Unify answers, and what is left. -/
noncomputable def runiG (St : List TT) (a b : TT) : Int × List TT :=
  if goodT a = true ∧ goodT b = true then
    if (uniQ St a b).1 = 0 then
      if Great (uniQ St a b).2.st then (2, St) else (0, (uniQ St a b).2.st)
    else ((uniQ St a b).1, St)
  else (1, St)
def RuPost (nx : Int) (P : Nat → Prop) (rb : Nat) (w : World) (q : Int × List TT) (e : Ending) (w' : World) : Prop := e = .returned (.int .i64 q.1) ∧ RSub nx w' P rb q.2 ∧ Frm w w' (· = rb)
open Classical in
set_option maxRecDepth 100000 in
set_option maxHeartbeats 16000000 in
theorem runify {P : Nat → Prop} {d rb : Nat} (hP : ∀ b, P b → b ≠ rb) {St : List TT} {a b : TT} {va vb : Value} {w : World} (hst : SInv St) (hS : RSub nx w P rb St) (hba : bigT d a = false) (hbb : bigT d b = false) (hia : TIn w P a va) (hib : TIn w P b vb) :
    Calls Tryz.prog 10 #[.pointer (some ⟨rb, 0, none⟩), va, vb] w (RuPost nx P rb w (runiG St a b)) := by
  have HP := Lib.hid hP
  obtain ⟨Aa, ca, hva, hAa⟩ := hia
  obtain ⟨Ab, cb, hvb, hAb⟩ := hib
  subst hva hvb
  have GA := Lib.hid (fun W (hW : Below w.heap.size w W) => rgood_any (v := tv a Aa ca) hba ⟨Aa, ca, rfl, (hAa.weak (P' := any0) (fun _ _ _ => trivial)).later hW⟩)
  have GB := Lib.hid (fun W (hW : Below w.heap.size w W) => rgood_any (v := tv b Ab cb) hbb ⟨Ab, cb, rfl, (hAb.weak (P' := any0) (fun _ _ _ => trivial)).later hW⟩)
  have HAA := Lib.hid hAa
  have HAB := Lib.hid hAb
  have HS := Lib.hid hS
  have HST := Lib.hid hst
  have HRL := Lib.hid hS.lt
  obtain ⟨Q, hQ⟩ : ∃ Q, Q = runiG St a b := ⟨_, rfl⟩
  rw [← hQ]
  have HQ := Lib.hid hQ
  unfold tv at GA GB ⊢
  obtain ⟨wB, hwB⟩ : ∃ z, z = (w.alloc (.cells #[.int .i64 a.k, .string a.nm, .int .i64 a.vr, .slice Aa a.args.length ca] 36)).alloc (.cells #[.int .i64 b.k, .string b.nm, .int .i64 b.vr, .slice Ab b.args.length cb] 36) := ⟨_, rfl⟩
  have BX := two_box (w := w) (.cells #[.int .i64 a.k, .string a.nm, .int .i64 a.vr, .slice Aa a.args.length ca] 36) (.cells #[.int .i64 b.k, .string b.nm, .int .i64 b.vr, .slice Ab b.args.length cb] 36)
  have BB := Lib.hid (show Below w.heap.size w wB by rw [hwB]; exact bt (below_alloc w _) (below_alloc _ _))
  have HZ := Lib.hid (show wB.heap.size = w.heap.size + 2 by rw [hwB]; simp)
  rw [← hwB] at BX
  have HX := Lib.hid BX.1
  have HY := Lib.hid BX.2
  have HWB := Lib.hid hwB
  obtain ⟨x0, x1, x2, x3⟩ := cells4 BX.1
  clear BX hwB hst hS hba hbb hAa hAb hQ
  by_cases ga : goodT a = true
  case neg =>
    have ga' : goodT a = false := by simpa using ga
    have EQ := Lib.hid (show Q = (1, St) by rw [HQ.out]; unfold runiG; rw [if_neg (fun e => ga e.1)])
    rw [ga'] at GA
    clear ga ga' GB
    go_enter Tryz.func10, Tryz.ntmps10
    go_wp2_with fail
    try rw [← HWB.out]
    refine (GA.out _ BB.out).mono ?_; rintro e w1 ⟨rfl, hb1⟩
    have B1 := Lib.hid (bt BB.out hb1)
    clear hb1 x0 x1 x2 x3
    go_wp2
    go_ret
    rw [EQ.out]
    exact ⟨rfl, HS.out.later B1.out, Frm.of_below B1.out (Nat.le_refl _) _⟩
  rw [ga] at GA
  by_cases gb : goodT b = true
  case neg =>
    have gb' : goodT b = false := by simpa using gb
    have EQ := Lib.hid (show Q = (1, St) by rw [HQ.out]; unfold runiG; rw [if_neg (fun e => gb e.2)])
    rw [gb'] at GB
    clear ga gb gb'
    go_enter Tryz.func10, Tryz.ntmps10
    go_wp2_with fail
    try rw [← HWB.out]
    refine (GA.out _ BB.out).mono ?_; rintro e w1 ⟨rfl, hb1⟩
    have B1 := Lib.hid (bt BB.out hb1)
    obtain ⟨y0, y1, y2, y3⟩ := cells4 ((hb1.block (w.heap.size + 1) (by have := HZ.out; omega)).trans HY.out)
    clear hb1 x0 x1 x2 x3 GA
    go_wp2_with fail
    refine (GB.out _ B1.out).mono ?_; rintro e w2 ⟨rfl, hb2⟩
    have B2 := Lib.hid (bt B1.out hb2)
    clear hb2 GB y0 y1 y2 y3
    go_wp2
    go_ret
    rw [EQ.out]
    exact ⟨rfl, HS.out.later B2.out, Frm.of_below B2.out (Nat.le_refl _) _⟩
  rw [gb] at GB
  have HQ2 := Lib.hid (show Q = if (uniQ St a b).1 = 0 then if Great (uniQ St a b).2.st then (2, St) else (0, (uniQ St a b).2.st) else ((uniQ St a b).1, St) by
    rw [HQ.out]; unfold runiG; rw [if_pos ⟨ga, gb⟩])
  have SHA := Lib.hid (good_shp ga)
  have SHB := Lib.hid (good_shp gb)
  have HINV := Lib.hid (uniQ_ext HST.out (good_shp ga) (good_shp gb)).1
  clear ga gb HQ
  go_enter Tryz.func10, Tryz.ntmps10
  go_wp2_with fail
  try rw [← HWB.out]
  refine (GA.out _ BB.out).mono ?_; rintro e w1 ⟨rfl, hb1⟩
  have B1 := Lib.hid (bt BB.out hb1)
  have X1 := Lib.hid ((hb1.block w.heap.size (by have := HZ.out; omega)).trans HX.out)
  have Y1 := Lib.hid ((hb1.block (w.heap.size + 1) (by have := HZ.out; omega)).trans HY.out)
  have S1 := Lib.hid (show w.heap.size + 2 ≤ w1.heap.size by have := hb1.size; have := HZ.out; omega)
  obtain ⟨y0, y1, y2, y3⟩ := cells4 Y1.out
  clear hb1 x0 x1 x2 x3 GA HX HY
  go_wp2_with fail
  refine (GB.out _ B1.out).mono ?_; rintro e w2 ⟨rfl, hb2⟩
  have B2 := Lib.hid (bt B1.out hb2)
  have X2 := Lib.hid ((hb2.block w.heap.size (by have := S1.out; omega)).trans X1.out)
  have Y2 := Lib.hid ((hb2.block (w.heap.size + 1) (by have := S1.out; omega)).trans Y1.out)
  have S2 := Lib.hid (show w.heap.size + 2 ≤ w2.heap.size by have := hb2.size; have := S1.out; omega)
  clear hb2 GB y0 y1 y2 y3 X1 Y1
  -- the array as it was
  obtain ⟨xs, hxs, hkid, hl0⟩ := HS.out.later B2.out
  have hxl : xs.length = 8000 := by rw [kids_len hkid, hl0]
  have h1c := kids_one hkid
  have LV := arr_load hxs hxl
  have ZV := (zero_of_info infoZA).1
  have SV := arr_new (W := w2) hxl h1c
  obtain ⟨za, hza⟩ : ∃ z, z = zarr.toArray := ⟨_, rfl⟩
  rw [← hza] at ZV SV
  obtain ⟨xa, hxa⟩ : ∃ z, z = xs.toArray := ⟨_, rfl⟩
  rw [← hxa] at LV SV
  obtain ⟨wO, hwO⟩ : ∃ z, z = w2.alloc (.cells xa RAy) := ⟨_, rfl⟩
  rw [← hwO] at SV
  have BO := Lib.hid (show Below w.heap.size w wO by rw [hwO]; exact bt B2.out (below_alloc _ _))
  have ZO := Lib.hid (show wO.heap[w2.heap.size]? = some (.cells (xs ++ []).toArray RAy (0, 0)) by rw [hwO, List.append_nil, hxa]; exact heap_alloc_last w2 _)
  have SO := Lib.hid (show wO.heap.size = w2.heap.size + 1 by rw [hwO]; simp)
  have XO := Lib.hid (show wO.heap[w.heap.size]? = some (.cells #[.int .i64 a.k, .string a.nm, .int .i64 a.vr, .slice Aa a.args.length ca] 36 (0, 0)) by rw [hwO]; exact ((below_alloc w2 _).block w.heap.size (by have := S2.out; omega)).trans X2.out)
  have YO := Lib.hid (show wO.heap[w.heap.size + 1]? = some (.cells #[.int .i64 b.k, .string b.nm, .int .i64 b.vr, .slice Ab b.args.length cb] 36 (0, 0)) by rw [hwO]; exact ((below_alloc w2 _).block (w.heap.size + 1) (by have := S2.out; omega)).trans Y2.out)
  have HXL := Lib.hid hxl
  have H1C := Lib.hid h1c
  have HXA := Lib.hid hxa
  have HRS := Lib.hid (show ∀ W : World, W.heap[rb]? = some (.cells (xs ++ [Value.int .i64 nx]).toArray RSy (0, 0)) → Frm w2 W (· = rb) → RSub nx W P rb St from fun W h f => ⟨xs, h, hkid.move (fun q hq hp => ⟨f.block q hq (HP.out q hp), hp⟩) f.size, hl0⟩)
  have HWO := Lib.hid hwO
  have FO := Lib.hid (show Frm w2 wO (· = rb) by rw [hwO]; exact Frm.of_below (below_alloc _ _) (Nat.le_refl _) _)
  clear hxs hkid hl0 hxl h1c hza hxa hwO X2 Y2
  go_upto_region 3 with (fail)
  refine wp_region_lit ?_
  refine wpList_step (fun K hK => ?_)
  rw [if_pos (by rfl)]
  go_simp
  refine hK _ _ ?_
  clear hK K
  (try simp only [putz])
  refine wpList_step (fun K hK => ?_)
  rw [if_pos (by rfl)]
  go_simp
  refine hK _ _ ?_
  clear hK K
  (try simp only [putz])
  refine wpList_step (fun K hK => ?_)
  rw [if_pos (by rfl)]
  go_simp
  refine hK _ _ ?_
  clear hK K
  (try simp only [putz])
  refine wpList_step (fun K hK => ?_)
  rw [if_pos (by rfl)]
  refine wp_load_lit rfl rfl LV ?_
  refine hK _ _ ?_
  clear hK K
  (try simp only [putz])
  refine wpList_step (fun K hK => ?_)
  rw [if_pos (by rfl)]
  refine wp_alloc_lit rfl (ZV w2) ?_
  refine hK _ _ ?_
  clear hK K
  (try simp only [putz])
  refine wpList_step (fun K hK => ?_)
  rw [if_pos (by rfl)]
  refine wp_store_lit rfl rfl rfl rfl SV ?_
  refine hK _ _ ?_
  clear hK K
  (try simp only [putz])
  clear LV ZV SV
  obtain ⟨⟨ei, uq⟩, hq⟩ : ∃ q, q = uniQ St a b := ⟨_, rfl⟩
  have CL := Lib.hid (one_any HP.out (2001 * 502) ⟨St, []⟩ a b (tv a Aa ca) (tv b Ab cb) wO (mu_lt _ _) HST.out.u SHA.out SHB.out (HS.out.later BO.out) ⟨Aa, ca, rfl, HAA.out.later BO.out⟩ ⟨Ab, cb, rfl, HAB.out.later BO.out⟩)
  rw [show uniF (2001 * 502) ⟨St, []⟩ a b = (ei, uq) from hq.symm] at CL
  unfold tv at CL
  rw [← hq] at HQ2 HINV
  have HOG := Lib.hid (show w2.heap.size ≠ rb by have := HRL.out; have := S2.out; omega)
  clear hq
  obtain ⟨x0, x1, x2, x3⟩ := cells4 XO.out
  obtain ⟨y0, y1, y2, y3⟩ := cells4 YO.out
  go_wp2_with fail
  refine CL.out.mono ?_; rintro e w5 ⟨rfl, hr5, f5⟩
  have R5 := Lib.hid hr5
  have F5 := Lib.hid f5
  clear hr5 f5 CL x0 x1 x2 x3 y0 y1 y2 y3
  have HQ3 := Lib.hid (show Q = if ei = 0 then if Great uq.st then (2, St) else (0, uq.st) else (ei, St) from HQ2.out)
  have FW5 := Lib.hid ((Frm.of_below BO.out (Nat.le_refl _) (· = rb)).trans F5.out)
  have ZO5 := Lib.hid ((F5.out.block w2.heap.size (by have := SO.out; omega) (by show ¬ w2.heap.size = rb; exact HOG.out)).trans ZO.out)
  have FO5 := Lib.hid (FO.out.trans F5.out)
  clear HQ2 XO YO ZO FO BO
  by_cases he : ei = 0
  case neg =>
    have EQ := Lib.hid (show Q = (ei, St) by rw [HQ3.out, if_neg he])
    have q0 : (ei == 0) = false := beq_eq_false_iff_ne.2 he
    have q1 : (ei != 0) = true := by simp [bne, q0]
    clear he HQ3
    as_aux_lemma =>
    obtain ⟨old, hold, hkold, hlold⟩ := R5.out
    have LV := arr_load ZO5.out HXL.out
    have SV := arr_store hold HXL.out (by rw [kids_len hkold, hlold]) H1C.out
    rw [← HXA.out] at LV SV
    have FIN := Lib.hid (show RSub nx (w5.setRow rb (xs ++ [Value.int .i64 nx]).toArray) P rb St ∧ Frm w (w5.setRow rb (xs ++ [Value.int .i64 nx]).toArray) (· = rb) from ⟨HRS.out _ (by simp [World.setRow, Array.getElem?_modify, hold]) (FO5.out.trans (frm_row _)), FW5.out.trans (frm_row _)⟩)
    obtain ⟨wF, hwF⟩ : ∃ z, z = w5.setRow rb (xs ++ [Value.int .i64 nx]).toArray := ⟨_, rfl⟩
    rw [← hwF] at SV FIN
    clear hold hkold hlold hwF
    go_upto_region 8 with (fail)
    refine wp_region_lit ?_
    refine wpList_step (fun K hK => ?_)
    rw [if_pos (by rfl)]
    go_simp
    refine hK _ _ ?_
    clear hK K
    (try simp only [putz])
    refine wpList_step (fun K hK => ?_)
    rw [if_pos (by rfl)]
    refine wp_load_lit rfl rfl LV ?_
    refine hK _ _ ?_
    clear hK K
    (try simp only [putz])
    refine wpList_step (fun K hK => ?_)
    rw [if_pos (by rfl)]
    go_simp
    refine hK _ _ ?_
    clear hK K
    (try simp only [putz])
    refine wpList_step (fun K hK => ?_)
    rw [if_pos (by rfl)]
    go_simp
    refine hK _ _ ?_
    clear hK K
    (try simp only [putz])
    refine wpList_step (fun K hK => ?_)
    rw [if_pos (by rfl)]
    refine wp_store_lit rfl rfl rfl rfl SV ?_
    refine hK _ _ ?_
    clear hK K
    (try simp only [putz])
    clear LV SV
    go_wp2
    go_ret
    rw [EQ.out]
    exact ⟨rfl, FIN.out.1, FIN.out.2⟩
  subst he
  have HQ4 := Lib.hid (HQ3.out.trans (if_pos rfl))
  have GR := Lib.hid (by obtain ⟨rk, hrk⟩ := HINV.out.ok; exact rgreat_ok hrk R5.out)
  clear HQ3
  by_cases hg : Great uq.st
  case pos =>
    have EQ := Lib.hid (show Q = (2, St) by rw [HQ4.out, if_pos hg])
    have GR2 := Lib.hid (show Calls Tryz.prog 31 #[.pointer (some ⟨rb, 0, none⟩)] w5 fun e w' => e = .returned (.bool true) ∧ Below w5.heap.size w5 w' by have h := GR.out; rw [decide_eq_true hg] at h; exact h)
    clear hg HQ4 GR
    as_aux_lemma =>
    go_wp2_with fail
    refine GR2.out.mono ?_; rintro e w6 ⟨rfl, hb6⟩
    have R6 := Lib.hid (R5.out.later hb6)
    have F6 := Lib.hid (Frm.of_below hb6 (Nat.le_refl _) (· = rb))
    have ZO6 := Lib.hid ((hb6.block w2.heap.size (Array.getElem?_eq_some_iff.1 ZO5.out).1).trans ZO5.out)
    have FO6 := Lib.hid (FO5.out.trans F6.out)
    have FW6 := Lib.hid (FW5.out.trans F6.out)
    clear hb6 GR2
    obtain ⟨old, hold, hkold, hlold⟩ := R6.out
    have LV := arr_load ZO6.out HXL.out
    have SV := arr_store hold HXL.out (by rw [kids_len hkold, hlold]) H1C.out
    rw [← HXA.out] at LV SV
    have FIN := Lib.hid (show RSub nx (w6.setRow rb (xs ++ [Value.int .i64 nx]).toArray) P rb St ∧ Frm w (w6.setRow rb (xs ++ [Value.int .i64 nx]).toArray) (· = rb) from ⟨HRS.out _ (by simp [World.setRow, Array.getElem?_modify, hold]) (FO6.out.trans (frm_row _)), FW6.out.trans (frm_row _)⟩)
    obtain ⟨wF, hwF⟩ : ∃ z, z = w6.setRow rb (xs ++ [Value.int .i64 nx]).toArray := ⟨_, rfl⟩
    rw [← hwF] at SV FIN
    clear hold hkold hlold hwF
    go_upto_region 8 with (fail)
    refine wp_region_lit ?_
    refine wpList_step (fun K hK => ?_)
    rw [if_pos (by rfl)]
    go_simp
    refine hK _ _ ?_
    clear hK K
    (try simp only [putz])
    refine wpList_step (fun K hK => ?_)
    rw [if_pos (by rfl)]
    refine wp_load_lit rfl rfl LV ?_
    refine hK _ _ ?_
    clear hK K
    (try simp only [putz])
    refine wpList_step (fun K hK => ?_)
    rw [if_pos (by rfl)]
    go_simp
    refine hK _ _ ?_
    clear hK K
    (try simp only [putz])
    refine wpList_step (fun K hK => ?_)
    rw [if_pos (by rfl)]
    go_simp
    refine hK _ _ ?_
    clear hK K
    (try simp only [putz])
    refine wpList_step (fun K hK => ?_)
    rw [if_pos (by rfl)]
    refine wp_store_lit rfl rfl rfl rfl SV ?_
    refine hK _ _ ?_
    clear hK K
    (try simp only [putz])
    clear LV SV
    go_wp2
    go_ret
    rw [EQ.out]
    exact ⟨rfl, FIN.out.1, FIN.out.2⟩
  have EQ := Lib.hid (show Q = (0, uq.st) by rw [HQ4.out, if_neg hg])
  have GR2 := Lib.hid (show Calls Tryz.prog 31 #[.pointer (some ⟨rb, 0, none⟩)] w5 fun e w' => e = .returned (.bool false) ∧ Below w5.heap.size w5 w' by have h := GR.out; rw [decide_eq_false hg] at h; exact h)
  clear hg HQ4 GR
  go_wp2_with fail
  refine GR2.out.mono ?_; rintro e w6 ⟨rfl, hb6⟩
  have R6 := Lib.hid (R5.out.later hb6)
  have FW6 := Lib.hid (FW5.out.trans (Frm.of_below hb6 (Nat.le_refl _) (· = rb)))
  clear hb6 GR2
  go_wp2
  go_ret
  rw [EQ.out]
  exact ⟨rfl, R6.out, FW6.out⟩
end Go.Proofs.YtifopogkbjhkjaaGreatDoor
