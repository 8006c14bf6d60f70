import Derived.Test.YtdkfimejabanlaaDoorRy
import Derived.Test.YtdkfimejabanlaaDoorSf
namespace Go.Proofs.YtdkfimejabanlaaDoor
open DR
open Go.ChangeShapes Go.WideShapes Go.ChangeAt Go.RowKit Go.WideMaps
set_option linter.unusedVariables false
set_option linter.unusedSimpArgs false
set_option maxRecDepth 100000 in
set_option maxHeartbeats 4000000 in
theorem rShow_any {V : TT} {v : Value} {w : World} (hbg : bigT 7 V = false) (hsh : shp V = true) (h : TIn w any0 V v) : Calls Tryd.prog 28 #[v] w fun e w' => e = .returned (.string (showT V)) ∧ Below w.heap.size w w' := by
  have hvf : (varsOf V).length ≤ 99 := by have := vars_few 6 V [] hbg hsh; unfold varsOf; simp at this; omega
  have CV := Lib.hid (fun W (hW : Below w.heap.size w W) => rVars_any hbg hsh (h.later hW))
  have CS := Lib.hid (fun W Al ca (hW : Below w.heap.size w W) (hi : IRow W Al (varsOf V)) => rshow_any 7 V v [] (varsOf V) Al ca W (Nat.le_refl 7) hbg hsh (fun x hx => hx) hvf (h.later hW) hi)
  rw [rtxt_show hsh] at CS
  obtain ⟨T, hT⟩ : ∃ t, t = showT V := ⟨_, rfl⟩
  rw [← hT] at CS ⊢
  obtain ⟨A, c, rfl, -⟩ := h
  unfold tv at CV CS ⊢
  obtain ⟨wA, hwA⟩ : ∃ z, z = w.alloc (.cells #[.int .i64 V.k, .string V.nm, .int .i64 V.vr, .slice A V.args.length c] 44) := ⟨_, rfl⟩
  have BA := Lib.hid (show Below w.heap.size w wA by rw [hwA]; exact below_alloc w _)
  have HX := Lib.hid (show wA.heap[w.heap.size]? = some (.cells #[.int .i64 V.k, .string V.nm, .int .i64 V.vr, .slice A V.args.length c] 44 (0, 0)) by rw [hwA]; exact heap_alloc_new w _)
  have HZ := Lib.hid (show w.heap.size < wA.heap.size by rw [hwA]; simp)
  have HWA := Lib.hid hwA
  clear hbg hsh hvf hT hwA
  go_enter Tryd.func28, Tryd.ntmps28
  go_wp2_with fail
  rw [← HWA.out]
  try go_wp2_with fail
  refine wp_region_D [3] (fun w' => Below wA.heap.size wA w') (by kernel_rfl) (bdr wA) (fun hHeld => ?_)
  refine WD_take (i := 0) (oi := { dst := some 3, op := Go.Op.load 44 (Go.Operand.tmp 1), type := 44, pos := _, after := #[], guard := none }) (v := ?va0) rfl (by kernel_rfl) (by kernel_rfl) (by kernel_rfl) (by kernel_rfl) (fun _ _ _ h => h) (Or.inl ⟨by rfl, ?hya0⟩) hHeld ?_
  case hya0 => (intro wz hSw; (try dsimp only at hSw); have zc := cells4 ((hSw.block _ HZ.out).trans HX.out); have z0 := zc.1; have z1 := zc.2.1; have z2 := zc.2.2.1; have z3 := zc.2.2.2; clear zc; go_simp; try with_reducible rfl)
  (try simp only [Act.put, List.setIfInBounds_toArray, List.set_cons_zero, List.set_cons_succ])
  refine WD_take (i := 1) (oi := { dst := some 4, op := Go.Op.load 44 (Go.Operand.tmp 1), type := 44, pos := _, after := #[], guard := none }) (v := ?va1) rfl (by kernel_rfl) (by kernel_rfl) (by kernel_rfl) (by kernel_rfl) (fun _ _ _ h => h) (Or.inl ⟨by rfl, ?hya1⟩) hHeld ?_
  case hya1 => (intro wz hSw; (try dsimp only at hSw); have zc := cells4 ((hSw.block _ HZ.out).trans HX.out); have z0 := zc.1; have z1 := zc.2.1; have z2 := zc.2.2.1; have z3 := zc.2.2.2; clear zc; go_simp; try with_reducible rfl)
  (try simp only [Act.put, List.setIfInBounds_toArray, List.set_cons_zero, List.set_cons_succ])
  refine WD_ready (rs := [2]) (by kernel_rfl) (by simp) ?_
  refine AllD.cons (o := _) rfl (fun K hK => ?_) AllD.nil
  rw [if_pos (by rfl)]
  go_simp
  refine (CV.out _ (bt BA.out hHeld)).mono ?_; rintro e w5 ⟨A5, c5, rfl, ir5, nl5, b5⟩
  try go_wp2_with fail
  refine hK.out _ _ (bt hHeld b5) (fun hHeld => ?_)
  clear hK K
  (try simp only [Act.put, List.setIfInBounds_toArray, List.set_cons_zero, List.set_cons_succ])
  have H3 := Lib.hid hHeld
  clear hHeld b5 nl5
  refine WD_ready (rs := [3]) (by kernel_rfl) (by simp) ?_
  refine AllD.last (o := _) rfl (by kernel_rfl) (fun K hK => ?_) AllD.nil
  rw [if_pos (by rfl)]
  go_simp
  refine (CS.out _ A5 c5 (bt BA.out H3.out) ir5).mono ?_; rintro e w6 ⟨rfl, b6⟩
  try go_wp2_with fail
  refine hK.out _ _ ?_
  clear hK K
  (try simp only [Act.put, List.setIfInBounds_toArray, List.set_cons_zero, List.set_cons_succ])
  refine WD_takeAny (i := 4) (oi := { dst := some 2, op := Go.Op.assign (Go.Operand.tmp 6), type := 9, pos := _, after := #[{ on := 3, ground := Go.Ground.data }, { on := 3, ground := Go.Ground.chain }, { on := 0, ground := Go.Ground.phase }, { on := 1, ground := Go.Ground.phase }, { on := 2, ground := Go.Ground.phase }, { on := 3, ground := Go.Ground.phase }], guard := none }) (v := ?va4) rfl (by kernel_rfl) (by kernel_rfl) (by kernel_rfl) (by kernel_rfl) (fun _ _ _ h => h) (Or.inl ⟨by rfl, ?hya4⟩) ?_
  case hya4 => (intro wz _; go_simp; try with_reducible rfl)
  (try simp only [Act.put, List.setIfInBounds_toArray, List.set_cons_zero, List.set_cons_succ])
  refine WD_done (by kernel_rfl) ?_ _
  have FIN := Lib.hid (bt BA.out (bt H3.out b6))
  clear b6 H3 ir5
  go_wp2
  go_ret
  exact ⟨rfl, FIN.out⟩
set_option maxRecDepth 100000 in
set_option maxHeartbeats 2000000 in
theorem ints_same {l : List Int} {A B : Option Addr} {c c2 : Nat} {w : World} (hl : l.length ≤ 2000000) (h : IRow w A l) (h2 : IRow w B l) : Calls Tryd.prog 20 #[.slice A l.length c, .slice B l.length c2] w fun e w' => e = .returned (.bool true) ∧ Below w.heap.size w w' := by
  have HR := Lib.hid h; have HR2 := Lib.hid h2
  obtain ⟨N, hN⟩ : ∃ N, N = l.length := ⟨_, rfl⟩
  have HN := Lib.hid hN
  rw [← hN] at hl ⊢
  clear h h2 hN
  go_enter Tryd.func20, Tryd.ntmps20
  go_wp2
  go_loopw [5] (fun i wr => ∃ k : Nat, k ≤ N ∧ i = .int .i64 k ∧ Hid (Below w.heap.size w wr)) (fun i _ => N - (intOf i).toNat)
  case atStart => exact ⟨0, by omega, by first | rfl | trivial, Lib.hid (Below.refl _ _)⟩
  case round =>
    obtain ⟨k, hk, rfl, HW⟩ := hrel
    by_cases hlt : k < N
    · have hlti : (k : Int) < (N : Int) := by omega
      have hlt' : k < l.length := by rw [← HN.out]; exact hlt
      obtain ⟨b, o, rfl, hb, hr⟩ : ∃ b o, A = some ⟨b, o, none⟩ ∧ b < w.heap.size ∧ ∀ j (h : j < l.length), w.cell? ⟨b, o + j, none⟩ = some (.int .i64 l[j]) := HR.out.resolve_left (by rw [← HN.out]; omega)
      obtain ⟨b2, o2, rfl, hb2, hr2⟩ : ∃ b o, B = some ⟨b, o, none⟩ ∧ b < w.heap.size ∧ ∀ j (h : j < l.length), w.cell? ⟨b, o + j, none⟩ = some (.int .i64 l[j]) := HR2.out.resolve_left (by rw [← HN.out]; omega)
      have DRN := Lib.hid (fun n => bt HW.out (bdn wr n))
      obtain ⟨x, hx⟩ : ∃ x, x = l[k] := ⟨_, rfl⟩
      have c1 : ∀ n, (wr.drewN n).cell? ⟨b, o + k, none⟩ = some (.int .i64 x) := fun n => by rw [hx]; exact ((DRN.out n).cell (p := ⟨b, o + k, none⟩) hb).trans (hr k hlt')
      have d1 : ∀ n, (wr.drewN n).cell? ⟨b2, o2 + k, none⟩ = some (.int .i64 x) := fun n => by rw [hx]; exact ((DRN.out n).cell (p := ⟨b2, o2 + k, none⟩) hb2).trans (hr2 k hlt')
      have c0 := c1 0
      have d0 := d1 0
      have qx : (x == x) = true := beq_self_eq_true x
      clear hr hr2 hx hb hb2
      go_wp2
      go_quiet (fail)
      go_wp2
      go_roundw
      case rel => exact ⟨k + 1, by omega, by go_num, Lib.hid (by first | exact DRN.out _ | exact HW.out | exact bt HW.out (bdr _))⟩
      case measure => simp [intOf]; omega
    · obtain rfl : N = k := by omega
      have hge : ¬ (N : Int) < (N : Int) := by omega
      go_wp2
      go_ret
      exact ⟨rfl, HW.out⟩
structure TyJ (wC w' : World) (V U : TT) (X Y : Nat) (A1 : Option Addr) (c1 : Nat) (A2 : Option Addr) (c2 : Nat) : Prop where
  x : w'.heap[X]? = some (.cells #[.int .i64 V.k, .string V.nm, .int .i64 V.vr, .slice A1 V.args.length c1] 44 (0, 0))
  y : w'.heap[Y]? = some (.cells #[.int .i64 U.k, .string U.nm, .int .i64 U.vr, .slice A2 U.args.length c2] 44 (0, 0))
  rx : TRow w' any0 A1 V.args
  ry : TRow w' any0 A2 U.args
  bel : Below wC.heap.size wC w'
theorem notin_ge {L : List Nat} {n b : Nat} (h : ∀ x ∈ L, x < n) (hb : n ≤ b) : b ∉ L := fun hx => by have := h b hx; omega
end Go.Proofs.YtdkfimejabanlaaDoor
