import Derived.Test.YtifopogkbjhkjaaDoorRa
import Derived.Test.YtifopogkbjhkjaaDoorSh
namespace Go.Proofs.YtifopogkbjhkjaaDoor
open DR
open Go.ChangeShapes Go.WideShapes Go.ChangeAt Go.RowKit Go.WideMaps
open Go.Sort
set_option linter.unusedVariables false
set_option linter.unusedSimpArgs false
/-- a row of one's own is sorted: it stays one's own, and as long. -/
theorem sort_gen {w : World} {B n c : Nat} {A : Option Addr} {l : List Int} (hl : l.length ≤ 100000) (h : w.ownsRow B TI 1 (.slice A n c) n (ivs l)) :
    Calls Tryd.prog 29 #[.slice A n c] w fun e w' => e = .returned (.tuple #[]) ∧ w.grownBy w' (Value.ownBlock (.slice A n c)) ∧ w'.ownsRow B TI 1 (.slice A n c) n (ivs (l.mergeSort fun x y => decide (x ≤ y))) := by
  have hn : n = l.length := by have := h.1; rw [ivs_len] at this; omega
  by_cases h0 : n = 0
  · subst h0
    refine (Tryd.slices_Sort_int_none A c w).mono ?_
    rintro e w' ⟨rfl, rfl⟩
    have hl0 : l = [] := List.length_eq_zero_iff.1 (by omega)
    subst hl0
    refine ⟨rfl, ⟨rfl, rfl, rfl, Nat.le_refl _, fun _ _ _ => rfl⟩, ?_⟩
    rw [List.mergeSort_nil]; exact h
  · rcases h.2 with ⟨q1, q2⟩ | ⟨g, cap, cur, q1, q2, q3, q4, q5, q6, q7⟩
    · exact absurd q2 h0
    · injection q1 with q1 _ q1c
      subst q1 q1c
      have hh := holds_of_blockI (ss := l) q3 (by rw [Nat.mul_one, hn] at q7; exact q7)
      have hS := Tryd.slices_Sort_int g 0 c l w hh (Array.getElem?_eq_some_iff.1 q3).1 (by omega)
      rw [← hn] at hS
      refine hS.mono ?_
      rintro e w' ⟨rfl, m, os, rfl⟩
      refine ⟨rfl, grownBy_sortedI _, ?_⟩
      have := ownsRow_sortedI (w := w) (n := m) (os := os) (ss := l) (ts := l.mergeSort fun x y => decide (x ≤ y)) (by simp) q2 q3 (by omega) q5 q6
      rw [← hn] at this
      exact this

/-- what stands in a row once. -/
theorem addV_nodup {l : List Int} {x : Int} (h : l.Nodup) : (addV l x).Nodup := by
  unfold addV; split
  · exact h
  · rename_i hx
    rw [List.nodup_append]
    exact ⟨h, by simp, fun a ha b hb e => hx (by rw [List.mem_singleton] at hb; subst hb; exact e ▸ ha)⟩
mutual
theorem varsT_nodup : ∀ (V : TT) (l : List Int), l.Nodup → (varsT V l).Nodup
  | .mk k nm vr args, l, h => by
    rw [varsT_eq]
    refine varsL_nodup args _ ?_
    show (if k = 7 then addV l vr else l).Nodup
    split
    · exact addV_nodup h
    · exact h
theorem varsL_nodup : ∀ (args : List TT) (l : List Int), l.Nodup → (varsL args l).Nodup
  | [], l, h => by rw [varsL]; exact h
  | a :: r, l, h => by rw [varsL]; exact varsL_nodup r _ (varsT_nodup a l h)
end
/-- the variables that are not taken, in order. -/
def freeS (V : TT) (tk : List Int) : List Int := ((varsOf V).filter fun x => decide (x ∉ tk)).mergeSort fun x y => decide (x ≤ y)
theorem freeS_perm (V : TT) (tk : List Int) : (freeS V tk).Perm ((varsOf V).filter fun x => decide (x ∉ tk)) := List.mergeSort_perm _ _
theorem freeS_mem {V : TT} {tk : List Int} {x : Int} : x ∈ freeS V tk ↔ x ∈ varsOf V ∧ x ∉ tk := by
  rw [(freeS_perm V tk).mem_iff, List.mem_filter, decide_eq_true_eq]
theorem freeS_len (V : TT) (tk : List Int) : (freeS V tk).length ≤ (varsOf V).length := by
  rw [(freeS_perm V tk).length_eq]; exact List.length_filter_le _ _
theorem freeS_lt (V : TT) (tk : List Int) : (freeS V tk).Pairwise (· < ·) := by
  have h1 : (freeS V tk).Pairwise (fun x y => decide (x ≤ y) = true) := List.pairwise_mergeSort (le := fun x y : Int => decide (x ≤ y)) (fun a b c h1 h2 => by simp at *; omega) (fun a b => by simp; omega) _
  have h2 : (freeS V tk).Nodup := (freeS_perm V tk).nodup_iff.2 ((varsT_nodup V [] (by simp)).filter _)
  exact (h1.and h2).imp fun ⟨a, b⟩ => by have := of_decide_eq_true a; omega
theorem freeS_good {V : TT} (tk : List Int) (hg : goodT V = true) : sgoodT V (freeS V tk) = true := by
  refine sgood_yes hg fun i hi => ?_
  have e : (freeS V tk).getD i 0 = (freeS V tk)[i] := by simp [List.getD_eq_getElem?_getD, hi]
  unfold badAt
  rw [e]
  rintro (⟨h0, h1⟩ | h1)
  · have e1 : (freeS V tk).getD (i - 1) 0 = (freeS V tk)[i - 1]'(by omega) := by simp [List.getD_eq_getElem?_getD, show i - 1 < (freeS V tk).length by omega]
    rw [e1] at h1
    have := List.pairwise_iff_getElem.1 (freeS_lt V tk) (i - 1) i (by omega) hi (by omega)
    omega
  · exact h1 (freeS_mem.1 (List.getElem_mem hi)).1
set_option maxRecDepth 100000 in
set_option maxHeartbeats 8000000 in
/-- free, of a scheme in which nothing may be anything. -/
theorem free_gen {V : TT} {Al A : Option Addr} {ca c sb : Nat} {n : Int} {w : World} (hbg : bigT 7 V = false) (hsh : shp V = true) (hs : SubE w sb n) (h : TRow w any0 A V.args) :
    Calls Tryd.prog 27 #[.pointer (some ⟨sb, 0, none⟩), scv Al 0 ca V A c] w (RowPost w (varsOf V)) := by
  obtain ⟨i0, hi0, hz0, hz1, hz2⟩ := info_parts infoI
  have CV := Lib.hid (fun W (hW : Below w.heap.size w W) => vars_any (Nat.le_refl 7) hbg hsh (tv_in (c := c) h hW))
  have HRG := Lib.hid (vars_in V [] hsh (fun _ h => by cases h))
  have hvf : (varsOf V).length ≤ 99 := by have := vars_few 6 V [] hbg hsh; unfold varsOf; simp at this; omega
  have HS := Lib.hid hs
  obtain ⟨vs, hvs⟩ : ∃ vs, vs = varsOf V := ⟨_, rfl⟩
  have HRG : Hid (∀ x ∈ vs, 0 ≤ x ∧ x ≤ 1999) := Lib.hid (by rw [hvs]; exact HRG.out)
  rw [← hvs] at hvf CV ⊢
  unfold tv at CV
  unfold scv
  obtain ⟨wA, hwA⟩ : ∃ z, z = w.alloc (.cells #[.slice Al 0 ca, .int .i64 V.k, .string V.nm, .int .i64 V.vr, .slice A V.args.length c] SchT) := ⟨_, rfl⟩
  have HA := Lib.hid (show Below w.heap.size w wA by rw [hwA]; exact below_alloc w _)
  have hx := heap_alloc_new w (.cells #[.slice Al 0 ca, .int .i64 V.k, .string V.nm, .int .i64 V.vr, .slice A V.args.length c] SchT)
  rw [← hwA] at hx
  have HZ := Lib.hid (show w.heap.size < wA.heap.size by rw [hwA]; simp)
  obtain ⟨⟨x0, x1, x2, x3, x4⟩, -⟩ := five_cells hx
  have HX := Lib.hid hx; have HWA := Lib.hid hwA
  clear hbg hsh h hwA hx hs hvs
  go_enter Tryd.func27, Tryd.ntmps27
  go_wp2_with fail
  rw [← HWA.out]
  try go_wp2_with fail
  refine (CV.out _ HA.out).mono ?_; rintro e w2 ⟨A2, c2, rfl, o2, b2⟩
  have B2 := Lib.hid (bt HA.out b2.out)
  have RV := Lib.hid (own_irow o2.out rfl)
  have HX2 := Lib.hid ((b2.out.block w.heap.size HZ.out).trans HX.out)
  have Q2 := Lib.hid (show w.heap.size < w2.heap.size from Nat.lt_of_lt_of_le HZ.out b2.out.size)
  obtain ⟨N, hN⟩ : ∃ N, N = vs.length := ⟨_, rfl⟩
  rw [← hN] at hvf ⊢
  have HN := Lib.hid hN
  clear o2 b2 CV x0 x1 x2 x3 x4 hN
  go_wp2
  go_loopw [5, 13] (fun lv i wr => ∃ (k : Nat) (v : Value), v = lv ∧ k ≤ N ∧ i = .int .i64 k ∧ Hid (Below w2.heap.size w2 wr) ∧ Hid (wr.ownsRow w2.heap.size TI 1 v k (ivs (vs.take k)))) (fun _ i _ => N - (intOf i).toNat)
  case atStart => exact ⟨0, _, rfl, by omega, by first | rfl | trivial, Lib.hid (Below.refl _ _), Lib.hid (World.ownsRow_nil _ _ _ _)⟩
  case round =>
    obtain ⟨k, v, rfl, hk, rfl, HB, HO⟩ := hrel
    obtain ⟨⟨z0, z1, z2, z3, z4⟩, -⟩ := five_cells ((HB.out.block w.heap.size Q2.out).trans HX2.out)
    obtain ⟨Ar, cr, rfl⟩ := vform HO.out
    by_cases hlt : k < N
    · have hlti : (k : Int) < (N : Int) := by omega
      have hlt' : k < vs.length := by rw [← HN.out]; exact hlt
      obtain ⟨b, o, rfl, hb, hr⟩ : ∃ b o, A2 = some ⟨b, o, none⟩ ∧ b < wr.heap.size ∧ ∀ j (h : j < vs.length), wr.cell? ⟨b, o + j, none⟩ = some (.int .i64 vs[j]) := (RV.out.later HB.out).resolve_left (by rw [← HN.out]; omega)
      have x0 := hr k hlt'
      have hrange := HRG.out _ (List.getElem_mem hlt')
      have HT := Lib.hid (ivs_take hlt')
      obtain ⟨x, hx⟩ : ∃ x, x = vs[k] := ⟨_, rfl⟩
      rw [← hx] at x0 hrange HT
      have CA := Lib.hid (fun W (hW : Below wr.heap.size wr W) (v : Value) (hv : TIn W any0 (varT x) v) => apply_any (d := 7) (Nat.le_refl 7) (show bigT 7 (varT x) = false from rfl) (good_varT hrange.1 hrange.2) ((HS.out.below (bt B2.out HB.out)).below hW) hv)
      clear hr hb hx
      go_wp2_with fail
      refine (variable_any x _).mono ?_; rintro e w3 ⟨rfl, b3⟩
      have B3 := Lib.hid b3
      clear b3
      go_wp2_with fail
      refine (CA.out _ B3.out _ (varT_in _ _ x)).mono ?_; rintro e w4 ⟨A4, c4, rfl, r4, b4⟩
      have B4 := Lib.hid (B3.out.trans (b4.mono B3.out.size))
      obtain ⟨wC, hwC⟩ : ∃ z, z = w4.alloc (.cells #[.int .i64 7, .string ⟨#[]⟩, .int .i64 x, .slice A4 0 c4] 24) := ⟨_, rfl⟩
      have BC := Lib.hid (show Below wr.heap.size wr wC by rw [hwC]; exact bt B4.out (below_alloc w4 _))
      have TC := Lib.hid (show wC.heap[w4.heap.size]? = some (.cells #[.int .i64 7, .string ⟨#[]⟩, .int .i64 x, .slice A4 0 c4] 24 (0, 0)) by rw [hwC]; exact heap_alloc_new w4 _)
      have QC := Lib.hid (show w4.heap.size < wC.heap.size by rw [hwC]; simp)
      have QX := Lib.hid (show w.heap.size < wC.heap.size from Nat.lt_of_lt_of_le (Nat.lt_of_lt_of_le Q2.out HB.out.size) BC.out.size)
      have XC := Lib.hid (((HB.out.trans (BC.out.mono HB.out.size)).block w.heap.size Q2.out).trans HX2.out)
      have HWC := Lib.hid hwC
      rw [show tv (varT x) A4 c4 = .agg #[.int .i64 7, .string ⟨#[]⟩, .int .i64 x, .slice A4 0 c4] from rfl]
      clear r4 b4 hwC z0 z1 z2 z3 z4 x0 CA
      go_wp2_with fail
      rw [← HWC.out]
      refine wp_region_D [8] (fun w' => Below wC.heap.size wC w') (by kernel_rfl) (bdr wC) (fun hHeld => ?_)
      refine WD_take (i := 0) (oi := { dst := some 21, op := Go.Op.load 24 (Go.Operand.tmp 8), type := 24, pos := _, after := #[], guard := none }) (v := ?va0) rfl (by kernel_rfl) (by kernel_rfl) (by kernel_rfl) (by kernel_rfl) (fun _ _ _ h => h) (Or.inl ⟨by rfl, ?hya0⟩) hHeld ?_
      case hya0 => (intro wz hSw; (try dsimp only at hSw); have zc := zero_cells ((hSw.block _ QC.out).trans TC.out); have z0 := zc.1.1; have z1 := zc.1.2.1; have z2 := zc.1.2.2.1; have z3 := zc.1.2.2.2; clear zc; go_simp; try with_reducible rfl)
      (try simp only [Act.put, List.setIfInBounds_toArray, List.set_cons_zero, List.set_cons_succ])
      refine WD_take (i := 1) (oi := { dst := some 22, op := Go.Op.move (Go.Operand.tmp 7), type := 3, pos := _, after := #[], guard := none }) (v := ?va1) rfl (by kernel_rfl) (by kernel_rfl) (by kernel_rfl) (by kernel_rfl) (fun _ _ _ h => h) (Or.inl ⟨by rfl, ?hya1⟩) hHeld ?_
      case hya1 => (intro wz hSw; (try dsimp only at hSw); go_simp; try with_reducible rfl)
      (try simp only [Act.put, List.setIfInBounds_toArray, List.set_cons_zero, List.set_cons_succ])
      refine WD_ready (rs := [2]) (by kernel_rfl) (by simp) ?_
      refine AllD.cons (o := { dst := some 23, op := Go.Op.call { callee := Go.Callee.value (Go.Operand.func 38), args := #[Go.Operand.tmp 22], argTypes := #[3] }, type := 24, pos := _, after := #[{ on := 1, ground := Go.Ground.data }], guard := none }) rfl (fun K hK => ?_) AllD.nil
      rw [if_pos (by rfl)]
      go_simp
      refine (variable_any x _).mono ?_; rintro e w6 ⟨rfl, b6⟩
      try go_wp2_with fail
      refine hK.out _ _ (bt hHeld b6) (fun hHeld => ?_)
      clear hK K
      (try simp only [Act.put, List.setIfInBounds_toArray, List.set_cons_zero, List.set_cons_succ])
      clear b6
      refine WD_ready (rs := [3]) (by kernel_rfl) (by simp) ?_
      refine AllD.cons (o := { dst := some 24, op := Go.Op.call { callee := Go.Callee.value (Go.Operand.func 18), args := #[Go.Operand.tmp 21, Go.Operand.tmp 23], argTypes := #[24, 24] }, type := 4, pos := _, after := #[{ on := 0, ground := Go.Ground.data }, { on := 2, ground := Go.Ground.data }, { on := 2, ground := Go.Ground.chain }], guard := none }) rfl (fun K hK => ?_) AllD.nil
      rw [if_pos (by rfl)]
      go_simp
      refine (Same_self (d := 1) (V := varT x) (by omega) (by rfl) (⟨A4, c4, rfl, .inl rfl⟩) (varT_in _ _ x)).mono ?_; rintro e w7 ⟨rfl, b7⟩
      try go_wp2_with fail
      refine hK.out _ _ (bt hHeld b7) (fun hHeld => ?_)
      clear hK K
      (try simp only [Act.put, List.setIfInBounds_toArray, List.set_cons_zero, List.set_cons_succ])
      clear b7
      refine WD_take (i := 4) (oi := { dst := some 25, op := Go.Op.move (Go.Operand.tmp 24), type := 4, pos := _, after := #[{ on := 3, ground := Go.Ground.data }, { on := 3, ground := Go.Ground.chain }], guard := none }) (v := ?va4) rfl (by kernel_rfl) (by kernel_rfl) (by kernel_rfl) (by kernel_rfl) (fun _ _ _ h => h) (Or.inl ⟨by rfl, ?hya4⟩) hHeld ?_
      case hya4 => (intro wz hSw; (try dsimp only at hSw); go_simp; try with_reducible rfl)
      (try simp only [Act.put, List.setIfInBounds_toArray, List.set_cons_zero, List.set_cons_succ])
      refine WD_take (i := 5) (oi := { dst := some 26, op := Go.Op.fieldAddr 34 (Go.Operand.tmp 3) 0, type := 0, pos := _, after := #[{ on := 4, ground := Go.Ground.guard }], guard := some (4, true) }) (v := ?va5) rfl (by kernel_rfl) (by kernel_rfl) (by kernel_rfl) (by kernel_rfl) (fun _ _ _ h => h) (Or.inl ⟨by rfl, ?hya5⟩) hHeld ?_
      case hya5 => (intro wz hSw; (try dsimp only at hSw); go_simp; try with_reducible rfl)
      (try simp only [Act.put, List.setIfInBounds_toArray, List.set_cons_zero, List.set_cons_succ])
      refine WD_take (i := 6) (oi := { dst := some 27, op := Go.Op.load 32 (Go.Operand.tmp 26), type := 32, pos := _, after := #[{ on := 5, ground := Go.Ground.data }, { on := 4, ground := Go.Ground.guard }], guard := some (4, true) }) (v := ?va6) rfl (by kernel_rfl) (by kernel_rfl) (by kernel_rfl) (by kernel_rfl) (fun _ _ _ h => h) (Or.inl ⟨by rfl, ?hya6⟩) hHeld ?_
      case hya6 => (intro wz hSw; (try dsimp only at hSw); have zc := (five_cells ((hSw.block _ QX.out).trans XC.out)).1; have z0 := zc.1; clear zc; go_simp; try with_reducible rfl)
      (try simp only [Act.put, List.setIfInBounds_toArray, List.set_cons_zero, List.set_cons_succ])
      refine WD_take (i := 7) (oi := { dst := some 28, op := Go.Op.move (Go.Operand.tmp 7), type := 3, pos := _, after := #[{ on := 4, ground := Go.Ground.guard }], guard := some (4, true) }) (v := ?va7) rfl (by kernel_rfl) (by kernel_rfl) (by kernel_rfl) (by kernel_rfl) (fun _ _ _ h => h) (Or.inl ⟨by rfl, ?hya7⟩) hHeld ?_
      case hya7 => (intro wz hSw; (try dsimp only at hSw); go_simp; try with_reducible rfl)
      (try simp only [Act.put, List.setIfInBounds_toArray, List.set_cons_zero, List.set_cons_succ])
      refine WD_ready (rs := [8]) (by kernel_rfl) (by simp) ?_
      refine AllD.last (o := { dst := some 29, op := Go.Op.call { callee := Go.Callee.value (Go.Operand.func 25), args := #[Go.Operand.tmp 27, Go.Operand.tmp 28], argTypes := #[32, 3] }, type := 4, pos := _, after := #[{ on := 6, ground := Go.Ground.data }, { on := 7, ground := Go.Ground.data }, { on := 4, ground := Go.Ground.chain }, { on := 4, ground := Go.Ground.guard }], guard := some (4, true) }) rfl (by kernel_rfl) (fun K hK => ?_) AllD.nil
      rw [if_pos (by rfl)]
      go_simp
      refine (contains_any (l := []) (A := Al) (c := ca) x (by simp) (.inl rfl)).mono ?_; rintro e w8 ⟨rfl, b8⟩
      try go_wp2_with fail
      refine hK.out _ _ ?_
      clear hK K
      (try simp only [Act.put, List.setIfInBounds_toArray, List.set_cons_zero, List.set_cons_succ])
      refine WD_takeAny (i := 9) (oi := { dst := some 30, op := Go.Op.pick (Go.Operand.tmp 25) (Go.Operand.tmp 29) (Go.Operand.const (Go.Value.bool false)), type := 4, pos := _, after := #[{ on := 4, ground := Go.Ground.data }, { on := 8, ground := Go.Ground.data }], guard := none }) (v := ?va9) rfl (by kernel_rfl) (by kernel_rfl) (by kernel_rfl) (by kernel_rfl) (fun _ _ _ h => h) (Or.inl ⟨by rfl, ?hya9⟩) ?_
      case hya9 => (intro wz _; go_simp; try with_reducible rfl)
      (try simp only [Act.put, List.setIfInBounds_toArray, List.set_cons_zero, List.set_cons_succ])
      refine WD_done (by kernel_rfl) ?_ _
      have hb8 : Below wC.heap.size wC w8 := bt hHeld b8
      have BR8 := Lib.hid (bt BC.out hb8)
      have t8 := (hb8.block _ QC.out).trans TC.out
      obtain ⟨⟨y0, y1, y2, y3⟩, -⟩ := zero_cells t8
      have VV := vars_any (d := 7) (V := varT x) (w := w8) (Nat.le_refl 7) (by rfl) (by have := good_varT hrange.1 hrange.2; unfold goodT at this; rw [Bool.and_eq_true] at this; exact this.2) (⟨A4, c4, rfl, .inl rfl⟩ : TIn w8 any0 (varT x) (.agg #[.int .i64 7, .string ⟨#[]⟩, .int .i64 x, .slice A4 0 c4]))
      rw [vars_varT] at VV
      have HVV := Lib.hid VV
      clear b8 hHeld hb8 t8 VV
      go_wp2_with fail
      refine HVV.out.mono ?_; rintro e w9 ⟨A9, c9, rfl, o9, b9⟩
      have BR9 := Lib.hid (bt BR8.out b9.out)
      have OW := Lib.hid (own_bl HO.out BR9.out)
      obtain ⟨g9, rfl⟩ : ∃ g, A9 = some ⟨g, 0, none⟩ := by
        rcases o9.out.2 with ⟨q1, q2⟩ | ⟨g, cap, cur, q1, _⟩
        · cases q2
        · injection q1 with q1; exact ⟨g, q1⟩
      have N9 := Lib.hid (fun j u (hj : [Value.int .i64 x][j]? = some u) => o9.out.cells (g := g9) rfl j u hj)
      have hb0 := HB.out.size
      have hb9 := BR9.out.size
      clear o9 b9 HVV y0 y1 y2 y3
      go_wp2_with (at_builtin; refine wpList_append_lies _ rfl (.tmp 31) (.tmp 33) 32 rfl w2.heap.size TI i0 (.int .i64 0) 1 8 Tryd.underlying32 hi0 hz0 hz1 hz2 rfl (by decide) (.slice Ar k cr) k (ivs (vs.take k)) rfl OW.out ⟨g9, 0, none⟩ 1 c9 [.int .i64 x] rfl rfl N9.out (by simp [Value.oneCell']) (by omega) (by unfold maxLen; omega) (by omega) (by omega) _ rfl ?_; intro g cap w10 own10 gr10 at10 hlt10)
      have O10 : Hid (w10.ownsRow w2.heap.size TI 1 (.slice (some ⟨g, 0, none⟩) (k + 1) cap) (k + 1) (ivs (vs.take (k + 1)))) := Lib.hid (by rw [HT.out]; exact own10)
      have B10 := Lib.hid ((HB.out.trans (BR9.out.mono HB.out.size)).grown gr10 (Nat.le_trans hb0 hb9) (fun q hq => (OW.out.lt q hq).1))
      clear own10 gr10 at10 OW
      go_wp2
      go_roundw
      case rel => exact ⟨k + 1, _, rfl, by omega, by go_num, B10, O10⟩
      case measure => simp [intOf]; omega
    · obtain rfl : k = N := by omega
      have hge : ¬ (k : Int) < (k : Int) := by omega
      have e9 : vs.take k = vs := by rw [HN.out]; exact List.take_length
      have h9 := HO.out
      rw [e9] at h9
      have OF := Lib.hid (own_irow h9 HN.out)
      clear e9 h9
      go_wp2
      go_ret
      exact ⟨Ar, cr, by rw [← HN.out]; rfl, OF.out, bt B2.out HB.out⟩
end Go.Proofs.YtifopogkbjhkjaaDoor
