import Derived.Test.YtkecnhogooaccaaRh
namespace Go.Proofs.Ytkecnhogooaccaa
open Go.ChangeShapes Go.WideShapes Go.ChangeAt Go.RowKit
set_option linter.unusedVariables false
theorem cells4 {W : World} {b : Nat} {x y z u : Value} {t : TypeId} {fr : Nat × Nat} (h : W.heap[b]? = some (.cells #[x, y, z, u] t fr)) : W.cell? ⟨b, 0, none⟩ = some x ∧ W.cell? ⟨b, 1, none⟩ = some y ∧ W.cell? ⟨b, 2, none⟩ = some z ∧ W.cell? ⟨b, 3, none⟩ = some u := by simp [World.cell?, h]
set_option maxRecDepth 100000 in
set_option maxHeartbeats 8000000 in
theorem rpush_ok {w : World} {B g room : Nat} {fv : Value} {fl : List RX} (bk cl : Int) (sl : Nat) (h : used (fl.map (·.f)) + 2 + sl ≤ room) (t : RS w B g room fv fl) :
    Calls Try.prog 20 #[.pointer (some ⟨g, 0, none⟩), .int .i64 bk, .int .i64 cl, .int .i64 sl] w fun e w' => ∃ fv' sv, e = .returned (.int .i64 0) ∧ Hid (RS w' B g room fv' (fl ++ [⟨⟨bk, cl, List.replicate sl 1, []⟩, sv, .slice none 0 0⟩])) ∧ Hid (Frm w w' (Own g fv fl)) ∧ Hid (∀ k', Own g fv' (fl ++ [⟨⟨bk, cl, List.replicate sl 1, []⟩, sv, .slice none 0 0⟩]) k' → Own g fv fl k' ∨ w.heap.size ≤ k') := by
  obtain ⟨i0, hi0, hz0, hz1, hz2⟩ := info_parts info29
  obtain ⟨j0, hj0, hy0, hy1, hy2⟩ := info_parts info80
  have T := Lib.hid t
  have HR := Lib.hid h
  have c0 := t.c0
  have c1x := t.c1
  have f1x := t.fz1 1
  have glt := t.glt
  have hsm := t.small
  have hft := t.fits
  have hlen := t.len.1
  have US := Lib.hid (fun W (hW : Below w.heap.size w W) => rused_any (t.below hW))
  obtain ⟨FA, fc, rfl, hfc, hfA⟩ := t.shape
  obtain ⟨N, hN⟩ : ∃ N, N = fl.length := ⟨_, rfl⟩
  have HN := Lib.hid hN
  have HROW : Hid (Rw w B 80 4 (.slice FA N fc) N (frc fl)) := Lib.hid (by rw [hN]; exact t.rf)
  rw [← hN] at c1x T hlen ⊢
  have C1 := Lib.hid c1x
  obtain ⟨U, hU⟩ : ∃ U, U = used (fl.map (·.f)) := ⟨_, rfl⟩
  rw [← hU] at US h hft
  have d0 := decide_eq_false (show ¬ (sl : Int) < 0 by omega)
  have d1 := decide_eq_false (show ¬ room < sl by omega)
  obtain ⟨D, hD⟩ : ∃ D : Nat, (room : Int) - (U : Int) = (D : Int) := ⟨room - U, by omega⟩
  obtain ⟨E, hE⟩ : ∃ E : Nat, (2 : Int) + (sl : Int) = (E : Int) := ⟨2 + sl, by omega⟩
  have d2 := decide_eq_false (show ¬ D < E by omega)
  have w1e : IntKind.i64.wrap ((2 : Int) + (sl : Int)) = (E : Int) := by rw [IntWalk.i64_in _ (by omega)]; exact hE
  have w2e : IntKind.i64.wrap ((room : Int) - (U : Int)) = (D : Int) := by rw [IntWalk.i64_in _ (by omega)]; exact hD
  have hsl : sl ≤ 4096 := by omega
  have HSL := Lib.hid hsl
  clear t h hU hD hE hft hsm hN hfA hfc c1x
  go_enter Try.func20, Try.ntmps20
  go_wp2_with fail
  refine wp_region_held_drew (S := fun w' => w'.cell? ⟨g, 0, none⟩ = some (.int .i64 room)) (by kernel_rfl) ?_ (fun hHeld => ?_)
  · (try dsimp only); go_keep
  refine wpAnyH_take (i := 0) (oi := { dst := some 13, op := Go.Op.move (Go.Operand.tmp 3), type := 3, pos := _, after := #[], guard := none }) (v := ?va0) rfl (by kernel_rfl) (by kernel_rfl) (by kernel_rfl) (fun _ _ _ h => h) (Or.inl ⟨by rfl, ?hya0⟩) (by assumption) ?_
  case hya0 => (intro wz hSw; (try dsimp only at hSw); go_simp; try with_reducible rfl)
  (try simp only [Act.put, List.setIfInBounds_toArray, List.set_cons_zero, List.set_cons_succ])
  refine wpAnyH_take (i := 1) (oi := { dst := some 14, op := Go.Op.move (Go.Operand.tmp 0), type := 44, pos := _, after := #[], guard := none }) (v := ?va1) rfl (by kernel_rfl) (by kernel_rfl) (by kernel_rfl) (fun _ _ _ h => h) (Or.inl ⟨by rfl, ?hya1⟩) (by assumption) ?_
  case hya1 => (intro wz hSw; (try dsimp only at hSw); go_simp; try with_reducible rfl)
  (try simp only [Act.put, List.setIfInBounds_toArray, List.set_cons_zero, List.set_cons_succ])
  refine wpAnyH_take (i := 2) (oi := { dst := some 15, op := Go.Op.nilCheck (Go.Operand.tmp 14), type := 0, pos := _, after := #[{ on := 1, ground := Go.Ground.data }], guard := none }) (v := ?va2) rfl (by kernel_rfl) (by kernel_rfl) (by kernel_rfl) (fun _ _ _ h => h) (Or.inl ⟨by rfl, ?hya2⟩) (by assumption) ?_
  case hya2 => (intro wz hSw; (try dsimp only at hSw); go_simp; try with_reducible rfl)
  (try simp only [Act.put, List.setIfInBounds_toArray, List.set_cons_zero, List.set_cons_succ])
  refine wpAnyH_take (i := 3) (oi := { dst := some 16, op := Go.Op.fieldAddr 47 (Go.Operand.tmp 15) 0, type := 0, pos := _, after := #[{ on := 2, ground := Go.Ground.data }], guard := none }) (v := ?va3) rfl (by kernel_rfl) (by kernel_rfl) (by kernel_rfl) (fun _ _ _ h => h) (Or.inl ⟨by rfl, ?hya3⟩) (by assumption) ?_
  case hya3 => (intro wz hSw; (try dsimp only at hSw); go_simp; try with_reducible rfl)
  (try simp only [Act.put, List.setIfInBounds_toArray, List.set_cons_zero, List.set_cons_succ])
  refine wpAnyH_take (i := 4) (oi := { dst := some 17, op := Go.Op.load 3 (Go.Operand.tmp 16), type := 3, pos := _, after := #[{ on := 3, ground := Go.Ground.data }], guard := none }) (v := ?va4) rfl (by kernel_rfl) (by kernel_rfl) (by kernel_rfl) (fun _ _ _ h => h) (Or.inl ⟨by rfl, ?hya4⟩) (by assumption) ?_
  case hya4 => (intro wz hSw; (try dsimp only at hSw); go_simp; try with_reducible rfl)
  (try simp only [Act.put, List.setIfInBounds_toArray, List.set_cons_zero, List.set_cons_succ])
  refine wpAnyH_take (i := 5) (oi := { dst := some 18, op := Go.Op.binOp Go.BinOp.gtr 3 (Go.Operand.tmp 13) (Go.Operand.tmp 17) 3, type := 4, pos := _, after := #[{ on := 0, ground := Go.Ground.data }, { on := 4, ground := Go.Ground.data }], guard := none }) (v := ?va5) rfl (by kernel_rfl) (by kernel_rfl) (by kernel_rfl) (fun _ _ _ h => h) (Or.inl ⟨by rfl, ?hya5⟩) (by assumption) ?_
  case hya5 => (intro wz hSw; (try dsimp only at hSw); go_simp; try with_reducible rfl)
  (try simp only [Act.put, List.setIfInBounds_toArray, List.set_cons_zero, List.set_cons_succ])
  refine wpAnyH_take (i := 6) (oi := { dst := some 19, op := Go.Op.move (Go.Operand.tmp 18), type := 4, pos := _, after := #[{ on := 5, ground := Go.Ground.data }], guard := none }) (v := ?va6) rfl (by kernel_rfl) (by kernel_rfl) (by kernel_rfl) (fun _ _ _ h => h) (Or.inl ⟨by rfl, ?hya6⟩) (by assumption) ?_
  case hya6 => (intro wz hSw; (try dsimp only at hSw); go_simp; try with_reducible rfl)
  (try simp only [Act.put, List.setIfInBounds_toArray, List.set_cons_zero, List.set_cons_succ])
  refine wpAnyH_take (i := 7) (oi := { dst := some 20, op := Go.Op.move (Go.Operand.tmp 3), type := 3, pos := _, after := #[{ on := 6, ground := Go.Ground.guard }], guard := some (6, false) }) (v := ?va7) rfl (by kernel_rfl) (by kernel_rfl) (by kernel_rfl) (fun _ _ _ h => h) (Or.inl ⟨by rfl, ?hya7⟩) (by assumption) ?_
  case hya7 => (intro wz hSw; (try dsimp only at hSw); go_simp; try with_reducible rfl)
  (try simp only [Act.put, List.setIfInBounds_toArray, List.set_cons_zero, List.set_cons_succ])
  refine wpAnyH_take (i := 8) (oi := { dst := some 21, op := Go.Op.binOp Go.BinOp.add 3 (Go.Operand.const (Go.Value.int Go.IntKind.i64 2)) (Go.Operand.tmp 20) 3, type := 3, pos := _, after := #[{ on := 7, ground := Go.Ground.data }, { on := 6, ground := Go.Ground.guard }], guard := some (6, false) }) (v := ?va8) rfl (by kernel_rfl) (by kernel_rfl) (by kernel_rfl) (fun _ _ _ h => h) (Or.inl ⟨by rfl, ?hya8⟩) (by assumption) ?_
  case hya8 => (intro wz hSw; (try dsimp only at hSw); go_simp; try with_reducible rfl)
  (try simp only [Act.put, List.setIfInBounds_toArray, List.set_cons_zero, List.set_cons_succ])
  refine wpAnyH_take (i := 9) (oi := { dst := some 22, op := Go.Op.move (Go.Operand.tmp 0), type := 44, pos := _, after := #[{ on := 6, ground := Go.Ground.guard }], guard := some (6, false) }) (v := ?va9) rfl (by kernel_rfl) (by kernel_rfl) (by kernel_rfl) (fun _ _ _ h => h) (Or.inl ⟨by rfl, ?hya9⟩) (by assumption) ?_
  case hya9 => (intro wz hSw; (try dsimp only at hSw); go_simp; try with_reducible rfl)
  (try simp only [Act.put, List.setIfInBounds_toArray, List.set_cons_zero, List.set_cons_succ])
  refine wpAnyH_take (i := 10) (oi := { dst := some 23, op := Go.Op.nilCheck (Go.Operand.tmp 22), type := 0, pos := _, after := #[{ on := 9, ground := Go.Ground.data }, { on := 6, ground := Go.Ground.guard }], guard := some (6, false) }) (v := ?va10) rfl (by kernel_rfl) (by kernel_rfl) (by kernel_rfl) (fun _ _ _ h => h) (Or.inl ⟨by rfl, ?hya10⟩) (by assumption) ?_
  case hya10 => (intro wz hSw; (try dsimp only at hSw); go_simp; try with_reducible rfl)
  (try simp only [Act.put, List.setIfInBounds_toArray, List.set_cons_zero, List.set_cons_succ])
  refine wpAnyH_take (i := 11) (oi := { dst := some 24, op := Go.Op.fieldAddr 47 (Go.Operand.tmp 23) 0, type := 0, pos := _, after := #[{ on := 10, ground := Go.Ground.data }, { on := 6, ground := Go.Ground.guard }], guard := some (6, false) }) (v := ?va11) rfl (by kernel_rfl) (by kernel_rfl) (by kernel_rfl) (fun _ _ _ h => h) (Or.inl ⟨by rfl, ?hya11⟩) (by assumption) ?_
  case hya11 => (intro wz hSw; (try dsimp only at hSw); go_simp; try with_reducible rfl)
  (try simp only [Act.put, List.setIfInBounds_toArray, List.set_cons_zero, List.set_cons_succ])
  refine wpAnyH_take (i := 12) (oi := { dst := some 25, op := Go.Op.load 3 (Go.Operand.tmp 24), type := 3, pos := _, after := #[{ on := 11, ground := Go.Ground.data }, { on := 6, ground := Go.Ground.guard }], guard := some (6, false) }) (v := ?va12) rfl (by kernel_rfl) (by kernel_rfl) (by kernel_rfl) (fun _ _ _ h => h) (Or.inl ⟨by rfl, ?hya12⟩) (by assumption) ?_
  case hya12 => (intro wz hSw; (try dsimp only at hSw); go_simp; try with_reducible rfl)
  (try simp only [Act.put, List.setIfInBounds_toArray, List.set_cons_zero, List.set_cons_succ])
  refine wpAnyH_take (i := 13) (oi := { dst := some 26, op := Go.Op.move (Go.Operand.tmp 0), type := 44, pos := _, after := #[{ on := 6, ground := Go.Ground.guard }], guard := some (6, false) }) (v := ?va13) rfl (by kernel_rfl) (by kernel_rfl) (by kernel_rfl) (fun _ _ _ h => h) (Or.inl ⟨by rfl, ?hya13⟩) (by assumption) ?_
  case hya13 => (intro wz hSw; (try dsimp only at hSw); go_simp; try with_reducible rfl)
  (try simp only [Act.put, List.setIfInBounds_toArray, List.set_cons_zero, List.set_cons_succ])
  refine wpAnyH_ready (rs := [14]) (by kernel_rfl) (by simp) ?_
  refine AllReadyH.cons (o := { dst := some 27, op := Go.Op.call { callee := Go.Callee.value (Go.Operand.func 42), args := #[Go.Operand.tmp 26], argTypes := #[44] }, type := 3, pos := _, after := #[{ on := 13, ground := Go.Ground.data }, { on := 6, ground := Go.Ground.chain }, { on := 6, ground := Go.Ground.guard }], guard := some (6, false) }) rfl (fun K hK => ?_) AllReadyH.nil
  go_simp
  refine (US.out _ (below_drew w)).mono ?_; rintro e w1 ⟨rfl, hb0⟩
  have hb1 := bt (below_drew w) hb0
  clear hb0
  have c0b := (hb1.cell (p := ⟨g, 0, none⟩) glt).trans c0
  go_wp2_with fail
  refine hK.out _ _ ?_ (fun hHeld => ?_)
  · (try dsimp only); go_keep
  clear hK K
  (try simp only [Act.put, List.setIfInBounds_toArray, List.set_cons_zero, List.set_cons_succ])
  refine wpAnyH_take (i := 15) (oi := { dst := some 28, op := Go.Op.binOp Go.BinOp.sub 3 (Go.Operand.tmp 25) (Go.Operand.tmp 27) 3, type := 3, pos := _, after := #[{ on := 12, ground := Go.Ground.data }, { on := 14, ground := Go.Ground.data }, { on := 6, ground := Go.Ground.guard }], guard := some (6, false) }) (v := ?va15) rfl (by kernel_rfl) (by kernel_rfl) (by kernel_rfl) (fun _ _ _ h => h) (Or.inl ⟨by rfl, ?hya15⟩) (by assumption) ?_
  case hya15 => (intro wz hSw; (try dsimp only at hSw); go_simp; try with_reducible rfl)
  (try simp only [Act.put, List.setIfInBounds_toArray, List.set_cons_zero, List.set_cons_succ])
  refine wpAnyH_take (i := 16) (oi := { dst := some 29, op := Go.Op.binOp Go.BinOp.gtr 3 (Go.Operand.tmp 21) (Go.Operand.tmp 28) 3, type := 4, pos := _, after := #[{ on := 8, ground := Go.Ground.data }, { on := 15, ground := Go.Ground.data }, { on := 6, ground := Go.Ground.guard }], guard := some (6, false) }) (v := ?va16) rfl (by kernel_rfl) (by kernel_rfl) (by kernel_rfl) (fun _ _ _ h => h) (Or.inl ⟨by rfl, ?hya16⟩) (by assumption) ?_
  case hya16 => (intro wz hSw; (try dsimp only at hSw); go_simp; try with_reducible rfl)
  (try simp only [Act.put, List.setIfInBounds_toArray, List.set_cons_zero, List.set_cons_succ])
  refine wpAnyH_take (i := 17) (oi := { dst := some 30, op := Go.Op.pick (Go.Operand.tmp 19) (Go.Operand.const (Go.Value.bool true)) (Go.Operand.tmp 29), type := 4, pos := _, after := #[{ on := 6, ground := Go.Ground.data }, { on := 16, ground := Go.Ground.data }], guard := none }) (v := ?va17) rfl (by kernel_rfl) (by kernel_rfl) (by kernel_rfl) (fun _ _ _ h => h) (Or.inl ⟨by rfl, ?hya17⟩) (by assumption) ?_
  case hya17 => (intro wz hSw; (try dsimp only at hSw); go_simp; try with_reducible rfl)
  (try simp only [Act.put, List.setIfInBounds_toArray, List.set_cons_zero, List.set_cons_succ])
  refine wpAnyH_done (by kernel_rfl) ?_ _
  have ST : Hid (PL w B w1.heap.size bk cl 0 (w1.alloc (.cells #[.int .i64 bk, .int .i64 cl, .slice none 0 0, .slice none 0 0] 80))) := Lib.hid (pl_first hb1)
  obtain ⟨fb, hfb⟩ : ∃ z, z = w1.heap.size := ⟨_, rfl⟩
  rw [← hfb] at ST
  have HFB := Lib.hid hfb
  clear w1e w2e d0 d1 d2 c0 c0b hHeld US hb1 hfb
  go_wp2
  rw [← HFB.out]
  go_loopw [10] (fun i wr => ∃ k : Nat, i = .int .i64 k ∧ k ≤ sl ∧ Hid (PL w B fb bk cl k wr)) (fun i _ => sl - (intOf i).toNat)
  case atStart => exact ⟨0, rfl, by omega, ST⟩
  case round =>
    obtain ⟨k, rfl, hk, PK⟩ := hrel
    clear ST
    obtain ⟨A, sc, h1, h2, h3, h4, h5⟩ := PK.out
    have H1 := Lib.hid h1; have H2 := Lib.hid h2; have H3 := Lib.hid h3; have H4 := Lib.hid h4
    have hfbl := h5
    obtain ⟨x0, x1, x2, x3⟩ := cells4 h1
    clear h1 h2 h3 h4 h5 PK
    by_cases hks : k < sl
    · have hks' : (k : Int) < (sl : Int) := by omega
      have hk9 : k ≤ 4096 := by omega
      have y2 := (below_alloc wr (.cells #[.int .u64 1] 29)).cell (p := ⟨fb, 2, none⟩) hfbl |>.trans x2
      go_wp2_with (refine wpList_append_lies _ rfl (.tmp 40) (.tmp 41) 48 rfl (fb + 1) 29 i0 (.int .u64 0) 1 8 Try.underlying48 hi0 hz0 hz1 hz2 rfl (by decide) (.slice A k sc) k (wds (List.replicate k 1)) rfl (H2.out.alloc _) ⟨wr.heap.size, 0, none⟩ 1 1 [.int .u64 1] rfl rfl (World.news_of_block (cs := #[.int .u64 1]) (t := 29) (fr := (0, 0)) (heap_alloc_new _ _)) (by simp [Value.oneCell']) (by omega) (by unfold maxLen; omega) (by omega) (by simp; omega) (wr.heap.size + 1) (by simp) ?_; intro gg cap w2 own2 gr2 at2 hlt2; have PM := pl_more (B := B) H1.out H2.out H3.out H4.out own2 gr2; have z2 := (cells4 PM.1).2.2.1; have f2 : w2.frozen? ⟨fb, 2, none⟩ = false := (by simp [World.frozen?, PM.1]); have PN := Lib.hid PM.2; clear PM own2 gr2 at2)
      go_roundw
      case rel => exact ⟨k + 1, by go_num, hks, PN⟩
      case measure => simp [intOf]; omega
    · obtain rfl : k = sl := by omega
      have glt1 : g < wr.heap.size := Nat.lt_of_lt_of_le glt H3.out.size
      have d1 := (H3.out.cell (p := ⟨g, 1, none⟩) glt).trans C1.out
      have zf1 := (H3.out.frozen (p := ⟨g, 1, none⟩) glt).trans f1x
      have hrow1 : Hid (Rw wr B 80 4 (.slice FA N fc) N (frc fl)) := Lib.hid (HROW.out.frm (R := fun _ => False) (Frm.of_below H3.out (Nat.le_refl _) _) (fun _ _ h => h))
      clear x0 x1 x2 x3 hks
      go_wp2
      refine wp_region_D [12] (fun w' => Below wr.heap.size wr w') (by kernel_rfl) (below_drew wr) (fun hHeld => ?_)
      obtain ⟨w_0, hw_0⟩ : ∃ z, z = wr.drew := ⟨_, rfl⟩
      have BD : Hid (Below wr.heap.size wr w_0) := Lib.hid (by rw [hw_0]; exact below_drew wr)
      rw [← hw_0] at hHeld ⊢
      clear hw_0
      refine WD_take (i := 0) (oi := { dst := some 44, op := Go.Op.move (Go.Operand.tmp 0), type := 44, pos := _, after := #[], guard := none }) (v := ?vb0) rfl (by kernel_rfl) (by kernel_rfl) (by kernel_rfl) (by kernel_rfl) (fun _ _ _ h => h) (Or.inl ⟨by rfl, ?hyb0⟩) hHeld ?_
      case hyb0 => (intro wz hSw; (try dsimp only at hSw); have z1 := (hSw.cell (p := ⟨g, 1, none⟩) glt1).trans d1; have zc := cells4 ((hSw.block fb hfbl).trans H1.out); have z40 := zc.1; have z41 := zc.2.1; have z42 := zc.2.2.1; have z43 := zc.2.2.2; clear zc; go_simp; try with_reducible rfl)
      (try simp only [Act.put, List.setIfInBounds_toArray, List.set_cons_zero, List.set_cons_succ])
      refine WD_take (i := 2) (oi := { dst := some 46, op := Go.Op.move (Go.Operand.tmp 0), type := 44, pos := _, after := #[], guard := none }) (v := ?vb2) rfl (by kernel_rfl) (by kernel_rfl) (by kernel_rfl) (by kernel_rfl) (fun _ _ _ h => h) (Or.inl ⟨by rfl, ?hyb2⟩) hHeld ?_
      case hyb2 => (intro wz hSw; (try dsimp only at hSw); have z1 := (hSw.cell (p := ⟨g, 1, none⟩) glt1).trans d1; have zc := cells4 ((hSw.block fb hfbl).trans H1.out); have z40 := zc.1; have z41 := zc.2.1; have z42 := zc.2.2.1; have z43 := zc.2.2.2; clear zc; go_simp; try with_reducible rfl)
      (try simp only [Act.put, List.setIfInBounds_toArray, List.set_cons_zero, List.set_cons_succ])
      refine WD_take (i := 3) (oi := { dst := some 47, op := Go.Op.nilCheck (Go.Operand.tmp 46), type := 0, pos := _, after := #[{ on := 2, ground := Go.Ground.data }], guard := none }) (v := ?vb3) rfl (by kernel_rfl) (by kernel_rfl) (by kernel_rfl) (by kernel_rfl) (fun _ _ _ h => h) (Or.inl ⟨by rfl, ?hyb3⟩) hHeld ?_
      case hyb3 => (intro wz hSw; (try dsimp only at hSw); have z1 := (hSw.cell (p := ⟨g, 1, none⟩) glt1).trans d1; have zc := cells4 ((hSw.block fb hfbl).trans H1.out); have z40 := zc.1; have z41 := zc.2.1; have z42 := zc.2.2.1; have z43 := zc.2.2.2; clear zc; go_simp; try with_reducible rfl)
      (try simp only [Act.put, List.setIfInBounds_toArray, List.set_cons_zero, List.set_cons_succ])
      refine WD_take (i := 4) (oi := { dst := some 48, op := Go.Op.fieldAddr 47 (Go.Operand.tmp 47) 1, type := 0, pos := _, after := #[{ on := 3, ground := Go.Ground.data }], guard := none }) (v := ?vb4) rfl (by kernel_rfl) (by kernel_rfl) (by kernel_rfl) (by kernel_rfl) (fun _ _ _ h => h) (Or.inl ⟨by rfl, ?hyb4⟩) hHeld ?_
      case hyb4 => (intro wz hSw; (try dsimp only at hSw); have z1 := (hSw.cell (p := ⟨g, 1, none⟩) glt1).trans d1; have zc := cells4 ((hSw.block fb hfbl).trans H1.out); have z40 := zc.1; have z41 := zc.2.1; have z42 := zc.2.2.1; have z43 := zc.2.2.2; clear zc; go_simp; try with_reducible rfl)
      (try simp only [Act.put, List.setIfInBounds_toArray, List.set_cons_zero, List.set_cons_succ])
      refine WD_take (i := 5) (oi := { dst := some 49, op := Go.Op.load 45 (Go.Operand.tmp 48), type := 45, pos := _, after := #[{ on := 4, ground := Go.Ground.data }], guard := none }) (v := ?vb5) rfl (by kernel_rfl) (by kernel_rfl) (by kernel_rfl) (by kernel_rfl) (fun _ _ _ h => h) (Or.inl ⟨by rfl, ?hyb5⟩) hHeld ?_
      case hyb5 => (intro wz hSw; (try dsimp only at hSw); have z1 := (hSw.cell (p := ⟨g, 1, none⟩) glt1).trans d1; have zc := cells4 ((hSw.block fb hfbl).trans H1.out); have z40 := zc.1; have z41 := zc.2.1; have z42 := zc.2.2.1; have z43 := zc.2.2.2; clear zc; go_simp; try with_reducible rfl)
      (try simp only [Act.put, List.setIfInBounds_toArray, List.set_cons_zero, List.set_cons_succ])
      refine WD_take (i := 7) (oi := { dst := some 51, op := Go.Op.load 80 (Go.Operand.tmp 9), type := 80, pos := _, after := #[], guard := none }) (v := ?vb7) rfl (by kernel_rfl) (by kernel_rfl) (by kernel_rfl) (by kernel_rfl) (fun _ _ _ h => h) (Or.inl ⟨by rfl, ?hyb7⟩) hHeld ?_
      case hyb7 => (intro wz hSw; (try dsimp only at hSw); have z1 := (hSw.cell (p := ⟨g, 1, none⟩) glt1).trans d1; have zc := cells4 ((hSw.block fb hfbl).trans H1.out); have z40 := zc.1; have z41 := zc.2.1; have z42 := zc.2.2.1; have z43 := zc.2.2.2; clear zc; go_simp; try with_reducible rfl)
      (try simp only [Act.put, List.setIfInBounds_toArray, List.set_cons_zero, List.set_cons_succ])
      refine WD_ready (rs := [1, 8]) (by kernel_rfl) (by simp) ?_
      refine AllD.cons (o := { dst := some 45, op := Go.Op.buildSlice 45 0 #[], type := 45, pos := _, after := #[], guard := none }) rfl (fun K hK => ?_) (AllD.cons (o := { dst := some 52, op := Go.Op.buildSlice 45 1 #[(0, Go.Operand.tmp 51)], type := 45, pos := _, after := #[{ on := 7, ground := Go.Ground.data }], guard := none }) rfl (fun K hK => ?_) AllD.nil)
      · go_simp
        refine hK.out _ _ (bt BD.out (below_alloc w_0 _)) (fun hHeld_1 => ?_)
        clear hK K
        (try simp only [Act.put, List.setIfInBounds_toArray, List.set_cons_zero, List.set_cons_succ])
        obtain ⟨w_1, hw_1⟩ : ∃ z, z = w_0.alloc (.cells #[] 80) := ⟨_, rfl⟩
        have B_1 : Hid (Below wr.heap.size wr w_1) := Lib.hid (by rw [hw_1]; exact hHeld_1)
        have C_1 : Hid (w_1.heap[w_0.heap.size]? = some (.cells #[] 80 (0, 0))) := Lib.hid (by rw [hw_1]; exact heap_alloc_new w_0 _)
        have L_1 : Hid (Below w_0.heap.size w_0 w_1) := Lib.hid (by rw [hw_1]; exact below_alloc w_0 _)
        have Z_1 : Hid (wr.heap.size ≤ w_0.heap.size ∧ w_0.heap.size < w_1.heap.size) := Lib.hid ⟨BD.out.size, by rw [hw_1]; show _ < (Array.push _ _).size; simp⟩
        clear hHeld_1
        try rw [← hw_1]
        clear hw_1
        refine WD_ready (rs := [6, 8]) (by kernel_rfl) (by simp) ?_
        refine AllD.cons (o := { dst := some 50, op := Go.Op.call { callee := Go.Callee.builtin Go.Builtin.append, args := #[Go.Operand.tmp 45, Go.Operand.tmp 49], argTypes := #[45, 45] }, type := 45, pos := _, after := #[{ on := 1, ground := Go.Ground.data }, { on := 5, ground := Go.Ground.data }], guard := none }) rfl (fun K hK => ?_) (AllD.cons (o := { dst := some 52, op := Go.Op.buildSlice 45 1 #[(0, Go.Operand.tmp 51)], type := 45, pos := _, after := #[{ on := 7, ground := Go.Ground.data }], guard := none }) rfl (fun K hK => ?_) AllD.nil)
        · refine step_append_sl rfl (.tmp 45) (.tmp 49) 45 rfl wr.heap.size 80 j0 (.agg #[.int .i64 0, .int .i64 0, .slice none 0 0, .slice none 0 0]) 4 64 Try.underlying45 hj0 hy0 hy1 hy2 rfl (by decide) (.slice (some ⟨w_0.heap.size, 0, none⟩) 0 0) 0 [] rfl (own_litg (k := w_0.heap.size) C_1.out Z_1.out.1) FA N fc (frc fl) rfl (by rw [frc_len, HN.out]) hrow1.out.none0 (hrow1.out.news B_1.out) T.out.ones (by unfold maxLen; omega) (by omega) B_1.out.size ?_
          intro v_2 w_2 own_2 gr_2 at_2
          simp only [Nat.zero_add, List.nil_append] at own_2
          have B_2 : Hid (Below wr.heap.size wr w_2) := Lib.hid (B_1.out.grown gr_2 B_1.out.size (fun q hq => by simp [Value.ownBlock] at hq; have := Z_1.out.1; omega))
          have op_2 := Lib.hid own_2
          clear own_2 gr_2 at_2
          refine hK.out _ _ B_2.out (fun _ => ?_)
          clear hK K
          (try simp only [Act.put, List.setIfInBounds_toArray, List.set_cons_zero, List.set_cons_succ])
          refine WD_ready (rs := [8]) (by kernel_rfl) (by simp) ?_
          refine AllD.cons (o := { dst := some 52, op := Go.Op.buildSlice 45 1 #[(0, Go.Operand.tmp 51)], type := 45, pos := _, after := #[{ on := 7, ground := Go.Ground.data }], guard := none }) rfl (fun K hK => ?_) AllD.nil
          go_simp
          refine hK.out _ _ (bt B_2.out (below_alloc w_2 _)) (fun hHeld_3 => ?_)
          clear hK K
          (try simp only [Act.put, List.setIfInBounds_toArray, List.set_cons_zero, List.set_cons_succ])
          obtain ⟨w_3, hw_3⟩ : ∃ z, z = w_2.alloc (.cells #[.int .i64 bk, .int .i64 cl, .slice A k sc, .slice none 0 0] 80) := ⟨_, rfl⟩
          have B_3 : Hid (Below wr.heap.size wr w_3) := Lib.hid (by rw [hw_3]; exact hHeld_3)
          have C_3 : Hid (w_3.heap[w_2.heap.size]? = some (.cells #[.int .i64 bk, .int .i64 cl, .slice A k sc, .slice none 0 0] 80 (0, 0))) := Lib.hid (by rw [hw_3]; exact heap_alloc_new w_2 _)
          have L_3 : Hid (Below w_2.heap.size w_2 w_3) := Lib.hid (by rw [hw_3]; exact below_alloc w_2 _)
          have Z_3 : Hid (wr.heap.size ≤ w_2.heap.size ∧ w_2.heap.size < w_3.heap.size) := Lib.hid ⟨B_2.out.size, by rw [hw_3]; show _ < (Array.push _ _).size; simp⟩
          clear hHeld_3
          try rw [← hw_3]
          clear hw_3
          have op_3 := Lib.hid (own_bl op_2.out L_3.out)
          refine WD_ready (rs := [9]) (by kernel_rfl) (by simp) ?_
          refine AllD.cons (o := { dst := some 53, op := Go.Op.call { callee := Go.Callee.builtin Go.Builtin.append, args := #[Go.Operand.tmp 50, Go.Operand.tmp 52], argTypes := #[45, 45] }, type := 45, pos := _, after := #[{ on := 6, ground := Go.Ground.data }, { on := 8, ground := Go.Ground.data }, { on := 6, ground := Go.Ground.chain }], guard := none }) rfl (fun K hK => ?_) AllD.nil
          refine step_append_lies _ (by rfl) (.tmp 50) (.tmp 52) 45 rfl wr.heap.size 80 j0 (.agg #[.int .i64 0, .int .i64 0, .slice none 0 0, .slice none 0 0]) 4 64 Try.underlying45 hj0 hy0 hy1 hy2 rfl (by decide) v_2 N (frc fl) rfl op_3.out ⟨w_2.heap.size, 0, none⟩ 1 1 [.int .i64 bk, .int .i64 cl, .slice A k sc, .slice none 0 0] rfl rfl (World.news_of_block (cs := #[.int .i64 bk, .int .i64 cl, .slice A k sc, .slice none 0 0]) (t := 80) (fr := (0, 0)) C_3.out) (by simp [Value.oneCell']) (by omega) (by unfold maxLen; omega) (by omega) B_3.out.size _ rfl ?_
          intro g3 cap3 w_4 own_4 gr_4 at_4 hlt_4
          have B_4 : Hid (Below wr.heap.size wr w_4) := Lib.hid (B_3.out.grown gr_4 B_3.out.size (fun q hq => (op_3.out.lt q hq).1))
          have oq_4 := Lib.hid own_4
          clear own_4 gr_4 at_4 hlt_4
          refine hK.out _ _ B_4.out (fun _ => ?_)
          clear hK K
          (try simp only [Act.put, List.setIfInBounds_toArray, List.set_cons_zero, List.set_cons_succ])
          refine WD_take (i := 10) (oi := { dst := some 54, op := Go.Op.nilCheck (Go.Operand.tmp 44), type := 0, pos := _, after := #[{ on := 0, ground := Go.Ground.data }, { on := 0, ground := Go.Ground.phase }, { on := 1, ground := Go.Ground.phase }, { on := 2, ground := Go.Ground.phase }, { on := 3, ground := Go.Ground.phase }, { on := 4, ground := Go.Ground.phase }, { on := 5, ground := Go.Ground.phase }, { on := 6, ground := Go.Ground.phase }, { on := 7, ground := Go.Ground.phase }, { on := 8, ground := Go.Ground.phase }, { on := 9, ground := Go.Ground.phase }], guard := none }) (v := ?ve4_10) rfl (by kernel_rfl) (by kernel_rfl) (by kernel_rfl) (by kernel_rfl) (fun _ _ _ h => h) (Or.inl ⟨by rfl, ?hye4_10⟩) B_4.out ?_
          case hye4_10 => (intro wz hSw; (try dsimp only at hSw); go_simp; try with_reducible rfl)
          (try simp only [Act.put, List.setIfInBounds_toArray, List.set_cons_zero, List.set_cons_succ])
          refine WD_take (i := 11) (oi := { dst := some 55, op := Go.Op.fieldAddr 47 (Go.Operand.tmp 54) 1, type := 0, pos := _, after := #[{ on := 10, ground := Go.Ground.data }, { on := 0, ground := Go.Ground.phase }, { on := 1, ground := Go.Ground.phase }, { on := 2, ground := Go.Ground.phase }, { on := 3, ground := Go.Ground.phase }, { on := 4, ground := Go.Ground.phase }, { on := 5, ground := Go.Ground.phase }, { on := 6, ground := Go.Ground.phase }, { on := 7, ground := Go.Ground.phase }, { on := 8, ground := Go.Ground.phase }, { on := 9, ground := Go.Ground.phase }], guard := none }) (v := ?ve4_11) rfl (by kernel_rfl) (by kernel_rfl) (by kernel_rfl) (by kernel_rfl) (fun _ _ _ h => h) (Or.inl ⟨by rfl, ?hye4_11⟩) B_4.out ?_
          case hye4_11 => (intro wz hSw; (try dsimp only at hSw); go_simp; try with_reducible rfl)
          (try simp only [Act.put, List.setIfInBounds_toArray, List.set_cons_zero, List.set_cons_succ])
          refine WD_ready (rs := [12]) (by kernel_rfl) (by simp) ?_
          refine AllD.last (o := { dst := none, op := Go.Op.store 45 (Go.Operand.tmp 55) (Go.Operand.tmp 53), type := 0, pos := _, after := #[{ on := 11, ground := Go.Ground.data }, { on := 9, ground := Go.Ground.data }, { on := 9, ground := Go.Ground.chain }, { on := 0, ground := Go.Ground.phase }, { on := 1, ground := Go.Ground.phase }, { on := 2, ground := Go.Ground.phase }, { on := 3, ground := Go.Ground.phase }, { on := 4, ground := Go.Ground.phase }, { on := 5, ground := Go.Ground.phase }, { on := 6, ground := Go.Ground.phase }, { on := 7, ground := Go.Ground.phase }, { on := 8, ground := Go.Ground.phase }, { on := 9, ground := Go.Ground.phase }], guard := none }) rfl (by kernel_rfl) (fun K hK => ?_) AllD.nil
          have e33 := (B_4.out.cell (p := ⟨g, 1, none⟩) glt1).trans d1
          have z33 := (B_4.out.frozen (p := ⟨g, 1, none⟩) glt1).trans zf1
          go_simp
          refine hK.out _ _ ?_
          clear hK K
          (try simp only [Act.put, List.setIfInBounds_toArray, List.set_cons_zero, List.set_cons_succ])
          refine WD_done (by kernel_rfl) ?_ _
          go_wp2
          go_ret
          have E := rpush_end T.out (H3.out.trans (B_4.out.mono H3.out.size)) H4.out (own_mono oq_4.out (Nat.le_of_lt hfbl)) HN.out (own_mono (own_bl H2.out B_4.out) (Nat.le_succ _)) HR.out
          exact ⟨_, _, rfl, Lib.hid E.1, Lib.hid E.2.1, Lib.hid E.2.2⟩
        · go_simp
          refine hK.out _ _ (bt B_1.out (below_alloc w_1 _)) (fun hHeld_5 => ?_)
          clear hK K
          (try simp only [Act.put, List.setIfInBounds_toArray, List.set_cons_zero, List.set_cons_succ])
          obtain ⟨w_5, hw_5⟩ : ∃ z, z = w_1.alloc (.cells #[.int .i64 bk, .int .i64 cl, .slice A k sc, .slice none 0 0] 80) := ⟨_, rfl⟩
          have B_5 : Hid (Below wr.heap.size wr w_5) := Lib.hid (by rw [hw_5]; exact hHeld_5)
          have C_5 : Hid (w_5.heap[w_1.heap.size]? = some (.cells #[.int .i64 bk, .int .i64 cl, .slice A k sc, .slice none 0 0] 80 (0, 0))) := Lib.hid (by rw [hw_5]; exact heap_alloc_new w_1 _)
          have L_5 : Hid (Below w_1.heap.size w_1 w_5) := Lib.hid (by rw [hw_5]; exact below_alloc w_1 _)
          have Z_5 : Hid (wr.heap.size ≤ w_1.heap.size ∧ w_1.heap.size < w_5.heap.size) := Lib.hid ⟨B_1.out.size, by rw [hw_5]; show _ < (Array.push _ _).size; simp⟩
          clear hHeld_5
          try rw [← hw_5]
          clear hw_5
          have cA_5 := Lib.hid ((L_5.out.block _ Z_1.out.2).trans C_1.out)
          have zA_5 := Lib.hid (And.intro Z_1.out.1 (Nat.lt_of_lt_of_le Z_1.out.2 L_5.out.size))
          refine WD_ready (rs := [6]) (by kernel_rfl) (by simp) ?_
          refine AllD.cons (o := { dst := some 50, op := Go.Op.call { callee := Go.Callee.builtin Go.Builtin.append, args := #[Go.Operand.tmp 45, Go.Operand.tmp 49], argTypes := #[45, 45] }, type := 45, pos := _, after := #[{ on := 1, ground := Go.Ground.data }, { on := 5, ground := Go.Ground.data }], guard := none }) rfl (fun K hK => ?_) AllD.nil
          refine step_append_sl rfl (.tmp 45) (.tmp 49) 45 rfl wr.heap.size 80 j0 (.agg #[.int .i64 0, .int .i64 0, .slice none 0 0, .slice none 0 0]) 4 64 Try.underlying45 hj0 hy0 hy1 hy2 rfl (by decide) (.slice (some ⟨w_0.heap.size, 0, none⟩) 0 0) 0 [] rfl (own_litg (k := w_0.heap.size) cA_5.out zA_5.out.1) FA N fc (frc fl) rfl (by rw [frc_len, HN.out]) hrow1.out.none0 (hrow1.out.news B_5.out) T.out.ones (by unfold maxLen; omega) (by omega) B_5.out.size ?_
          intro v_6 w_6 own_6 gr_6 at_6
          simp only [Nat.zero_add, List.nil_append] at own_6
          have B_6 : Hid (Below wr.heap.size wr w_6) := Lib.hid (B_5.out.grown gr_6 B_5.out.size (fun q hq => by simp [Value.ownBlock] at hq; have := zA_5.out.1; omega))
          have cX_6 : Hid (w_6.heap[w_1.heap.size]? = some (.cells #[.int .i64 bk, .int .i64 cl, .slice A k sc, .slice none 0 0] 80 (0, 0))) := Lib.hid ((gr_6.block _ Z_5.out.2 (by simp [Value.ownBlock]; have := Z_1.out; omega)).trans C_5.out)
          have op_6 := Lib.hid own_6
          clear own_6 gr_6 at_6
          refine hK.out _ _ B_6.out (fun _ => ?_)
          clear hK K
          (try simp only [Act.put, List.setIfInBounds_toArray, List.set_cons_zero, List.set_cons_succ])
          refine WD_ready (rs := [9]) (by kernel_rfl) (by simp) ?_
          refine AllD.cons (o := { dst := some 53, op := Go.Op.call { callee := Go.Callee.builtin Go.Builtin.append, args := #[Go.Operand.tmp 50, Go.Operand.tmp 52], argTypes := #[45, 45] }, type := 45, pos := _, after := #[{ on := 6, ground := Go.Ground.data }, { on := 8, ground := Go.Ground.data }, { on := 6, ground := Go.Ground.chain }], guard := none }) rfl (fun K hK => ?_) AllD.nil
          refine step_append_lies _ (by rfl) (.tmp 50) (.tmp 52) 45 rfl wr.heap.size 80 j0 (.agg #[.int .i64 0, .int .i64 0, .slice none 0 0, .slice none 0 0]) 4 64 Try.underlying45 hj0 hy0 hy1 hy2 rfl (by decide) v_6 N (frc fl) rfl op_6.out ⟨w_1.heap.size, 0, none⟩ 1 1 [.int .i64 bk, .int .i64 cl, .slice A k sc, .slice none 0 0] rfl rfl (World.news_of_block (cs := #[.int .i64 bk, .int .i64 cl, .slice A k sc, .slice none 0 0]) (t := 80) (fr := (0, 0)) cX_6.out) (by simp [Value.oneCell']) (by omega) (by unfold maxLen; omega) (by omega) B_6.out.size _ rfl ?_
          intro g3 cap3 w_7 own_7 gr_7 at_7 hlt_7
          have B_7 : Hid (Below wr.heap.size wr w_7) := Lib.hid (B_6.out.grown gr_7 B_6.out.size (fun q hq => (op_6.out.lt q hq).1))
          have oq_7 := Lib.hid own_7
          clear own_7 gr_7 at_7 hlt_7
          refine hK.out _ _ B_7.out (fun _ => ?_)
          clear hK K
          (try simp only [Act.put, List.setIfInBounds_toArray, List.set_cons_zero, List.set_cons_succ])
          refine WD_take (i := 10) (oi := { dst := some 54, op := Go.Op.nilCheck (Go.Operand.tmp 44), type := 0, pos := _, after := #[{ on := 0, ground := Go.Ground.data }, { on := 0, ground := Go.Ground.phase }, { on := 1, ground := Go.Ground.phase }, { on := 2, ground := Go.Ground.phase }, { on := 3, ground := Go.Ground.phase }, { on := 4, ground := Go.Ground.phase }, { on := 5, ground := Go.Ground.phase }, { on := 6, ground := Go.Ground.phase }, { on := 7, ground := Go.Ground.phase }, { on := 8, ground := Go.Ground.phase }, { on := 9, ground := Go.Ground.phase }], guard := none }) (v := ?ve7_10) rfl (by kernel_rfl) (by kernel_rfl) (by kernel_rfl) (by kernel_rfl) (fun _ _ _ h => h) (Or.inl ⟨by rfl, ?hye7_10⟩) B_7.out ?_
          case hye7_10 => (intro wz hSw; (try dsimp only at hSw); go_simp; try with_reducible rfl)
          (try simp only [Act.put, List.setIfInBounds_toArray, List.set_cons_zero, List.set_cons_succ])
          refine WD_take (i := 11) (oi := { dst := some 55, op := Go.Op.fieldAddr 47 (Go.Operand.tmp 54) 1, type := 0, pos := _, after := #[{ on := 10, ground := Go.Ground.data }, { on := 0, ground := Go.Ground.phase }, { on := 1, ground := Go.Ground.phase }, { on := 2, ground := Go.Ground.phase }, { on := 3, ground := Go.Ground.phase }, { on := 4, ground := Go.Ground.phase }, { on := 5, ground := Go.Ground.phase }, { on := 6, ground := Go.Ground.phase }, { on := 7, ground := Go.Ground.phase }, { on := 8, ground := Go.Ground.phase }, { on := 9, ground := Go.Ground.phase }], guard := none }) (v := ?ve7_11) rfl (by kernel_rfl) (by kernel_rfl) (by kernel_rfl) (by kernel_rfl) (fun _ _ _ h => h) (Or.inl ⟨by rfl, ?hye7_11⟩) B_7.out ?_
          case hye7_11 => (intro wz hSw; (try dsimp only at hSw); go_simp; try with_reducible rfl)
          (try simp only [Act.put, List.setIfInBounds_toArray, List.set_cons_zero, List.set_cons_succ])
          refine WD_ready (rs := [12]) (by kernel_rfl) (by simp) ?_
          refine AllD.last (o := { dst := none, op := Go.Op.store 45 (Go.Operand.tmp 55) (Go.Operand.tmp 53), type := 0, pos := _, after := #[{ on := 11, ground := Go.Ground.data }, { on := 9, ground := Go.Ground.data }, { on := 9, ground := Go.Ground.chain }, { on := 0, ground := Go.Ground.phase }, { on := 1, ground := Go.Ground.phase }, { on := 2, ground := Go.Ground.phase }, { on := 3, ground := Go.Ground.phase }, { on := 4, ground := Go.Ground.phase }, { on := 5, ground := Go.Ground.phase }, { on := 6, ground := Go.Ground.phase }, { on := 7, ground := Go.Ground.phase }, { on := 8, ground := Go.Ground.phase }, { on := 9, ground := Go.Ground.phase }], guard := none }) rfl (by kernel_rfl) (fun K hK => ?_) AllD.nil
          have e33 := (B_7.out.cell (p := ⟨g, 1, none⟩) glt1).trans d1
          have z33 := (B_7.out.frozen (p := ⟨g, 1, none⟩) glt1).trans zf1
          go_simp
          refine hK.out _ _ ?_
          clear hK K
          (try simp only [Act.put, List.setIfInBounds_toArray, List.set_cons_zero, List.set_cons_succ])
          refine WD_done (by kernel_rfl) ?_ _
          go_wp2
          go_ret
          have E := rpush_end T.out (H3.out.trans (B_7.out.mono H3.out.size)) H4.out (own_mono oq_7.out (Nat.le_of_lt hfbl)) HN.out (own_mono (own_bl H2.out B_7.out) (Nat.le_succ _)) HR.out
          exact ⟨_, _, rfl, Lib.hid E.1, Lib.hid E.2.1, Lib.hid E.2.2⟩
      · go_simp
        refine hK.out _ _ (bt BD.out (below_alloc w_0 _)) (fun hHeld_8 => ?_)
        clear hK K
        (try simp only [Act.put, List.setIfInBounds_toArray, List.set_cons_zero, List.set_cons_succ])
        obtain ⟨w_8, hw_8⟩ : ∃ z, z = w_0.alloc (.cells #[.int .i64 bk, .int .i64 cl, .slice A k sc, .slice none 0 0] 80) := ⟨_, rfl⟩
        have B_8 : Hid (Below wr.heap.size wr w_8) := Lib.hid (by rw [hw_8]; exact hHeld_8)
        have C_8 : Hid (w_8.heap[w_0.heap.size]? = some (.cells #[.int .i64 bk, .int .i64 cl, .slice A k sc, .slice none 0 0] 80 (0, 0))) := Lib.hid (by rw [hw_8]; exact heap_alloc_new w_0 _)
        have L_8 : Hid (Below w_0.heap.size w_0 w_8) := Lib.hid (by rw [hw_8]; exact below_alloc w_0 _)
        have Z_8 : Hid (wr.heap.size ≤ w_0.heap.size ∧ w_0.heap.size < w_8.heap.size) := Lib.hid ⟨BD.out.size, by rw [hw_8]; show _ < (Array.push _ _).size; simp⟩
        clear hHeld_8
        try rw [← hw_8]
        clear hw_8
        refine WD_ready (rs := [1]) (by kernel_rfl) (by simp) ?_
        refine AllD.cons (o := { dst := some 45, op := Go.Op.buildSlice 45 0 #[], type := 45, pos := _, after := #[], guard := none }) rfl (fun K hK => ?_) AllD.nil
        go_simp
        refine hK.out _ _ (bt B_8.out (below_alloc w_8 _)) (fun hHeld_9 => ?_)
        clear hK K
        (try simp only [Act.put, List.setIfInBounds_toArray, List.set_cons_zero, List.set_cons_succ])
        obtain ⟨w_9, hw_9⟩ : ∃ z, z = w_8.alloc (.cells #[] 80) := ⟨_, rfl⟩
        have B_9 : Hid (Below wr.heap.size wr w_9) := Lib.hid (by rw [hw_9]; exact hHeld_9)
        have C_9 : Hid (w_9.heap[w_8.heap.size]? = some (.cells #[] 80 (0, 0))) := Lib.hid (by rw [hw_9]; exact heap_alloc_new w_8 _)
        have L_9 : Hid (Below w_8.heap.size w_8 w_9) := Lib.hid (by rw [hw_9]; exact below_alloc w_8 _)
        have Z_9 : Hid (wr.heap.size ≤ w_8.heap.size ∧ w_8.heap.size < w_9.heap.size) := Lib.hid ⟨B_8.out.size, by rw [hw_9]; show _ < (Array.push _ _).size; simp⟩
        clear hHeld_9
        try rw [← hw_9]
        clear hw_9
        have cX_9 := Lib.hid ((L_9.out.block _ Z_8.out.2).trans C_8.out)
        have zX_9 := Lib.hid (And.intro Z_8.out.1 (Nat.lt_of_lt_of_le Z_8.out.2 L_9.out.size))
        refine WD_ready (rs := [6]) (by kernel_rfl) (by simp) ?_
        refine AllD.cons (o := { dst := some 50, op := Go.Op.call { callee := Go.Callee.builtin Go.Builtin.append, args := #[Go.Operand.tmp 45, Go.Operand.tmp 49], argTypes := #[45, 45] }, type := 45, pos := _, after := #[{ on := 1, ground := Go.Ground.data }, { on := 5, ground := Go.Ground.data }], guard := none }) rfl (fun K hK => ?_) AllD.nil
        refine step_append_sl rfl (.tmp 45) (.tmp 49) 45 rfl wr.heap.size 80 j0 (.agg #[.int .i64 0, .int .i64 0, .slice none 0 0, .slice none 0 0]) 4 64 Try.underlying45 hj0 hy0 hy1 hy2 rfl (by decide) (.slice (some ⟨w_8.heap.size, 0, none⟩) 0 0) 0 [] rfl (own_litg (k := w_8.heap.size) C_9.out Z_9.out.1) FA N fc (frc fl) rfl (by rw [frc_len, HN.out]) hrow1.out.none0 (hrow1.out.news B_9.out) T.out.ones (by unfold maxLen; omega) (by omega) B_9.out.size ?_
        intro v_10 w_10 own_10 gr_10 at_10
        simp only [Nat.zero_add, List.nil_append] at own_10
        have B_10 : Hid (Below wr.heap.size wr w_10) := Lib.hid (B_9.out.grown gr_10 B_9.out.size (fun q hq => by simp [Value.ownBlock] at hq; have := Z_9.out.1; omega))
        have cX_10 : Hid (w_10.heap[w_0.heap.size]? = some (.cells #[.int .i64 bk, .int .i64 cl, .slice A k sc, .slice none 0 0] 80 (0, 0))) := Lib.hid ((gr_10.block _ zX_9.out.2 (by simp [Value.ownBlock]; have := Z_8.out; omega)).trans cX_9.out)
        have op_10 := Lib.hid own_10
        clear own_10 gr_10 at_10
        refine hK.out _ _ B_10.out (fun _ => ?_)
        clear hK K
        (try simp only [Act.put, List.setIfInBounds_toArray, List.set_cons_zero, List.set_cons_succ])
        refine WD_ready (rs := [9]) (by kernel_rfl) (by simp) ?_
        refine AllD.cons (o := { dst := some 53, op := Go.Op.call { callee := Go.Callee.builtin Go.Builtin.append, args := #[Go.Operand.tmp 50, Go.Operand.tmp 52], argTypes := #[45, 45] }, type := 45, pos := _, after := #[{ on := 6, ground := Go.Ground.data }, { on := 8, ground := Go.Ground.data }, { on := 6, ground := Go.Ground.chain }], guard := none }) rfl (fun K hK => ?_) AllD.nil
        refine step_append_lies _ (by rfl) (.tmp 50) (.tmp 52) 45 rfl wr.heap.size 80 j0 (.agg #[.int .i64 0, .int .i64 0, .slice none 0 0, .slice none 0 0]) 4 64 Try.underlying45 hj0 hy0 hy1 hy2 rfl (by decide) v_10 N (frc fl) rfl op_10.out ⟨w_0.heap.size, 0, none⟩ 1 1 [.int .i64 bk, .int .i64 cl, .slice A k sc, .slice none 0 0] rfl rfl (World.news_of_block (cs := #[.int .i64 bk, .int .i64 cl, .slice A k sc, .slice none 0 0]) (t := 80) (fr := (0, 0)) cX_10.out) (by simp [Value.oneCell']) (by omega) (by unfold maxLen; omega) (by omega) B_10.out.size _ rfl ?_
        intro g3 cap3 w_11 own_11 gr_11 at_11 hlt_11
        have B_11 : Hid (Below wr.heap.size wr w_11) := Lib.hid (B_10.out.grown gr_11 B_10.out.size (fun q hq => (op_10.out.lt q hq).1))
        have oq_11 := Lib.hid own_11
        clear own_11 gr_11 at_11 hlt_11
        refine hK.out _ _ B_11.out (fun _ => ?_)
        clear hK K
        (try simp only [Act.put, List.setIfInBounds_toArray, List.set_cons_zero, List.set_cons_succ])
        refine WD_take (i := 10) (oi := { dst := some 54, op := Go.Op.nilCheck (Go.Operand.tmp 44), type := 0, pos := _, after := #[{ on := 0, ground := Go.Ground.data }, { on := 0, ground := Go.Ground.phase }, { on := 1, ground := Go.Ground.phase }, { on := 2, ground := Go.Ground.phase }, { on := 3, ground := Go.Ground.phase }, { on := 4, ground := Go.Ground.phase }, { on := 5, ground := Go.Ground.phase }, { on := 6, ground := Go.Ground.phase }, { on := 7, ground := Go.Ground.phase }, { on := 8, ground := Go.Ground.phase }, { on := 9, ground := Go.Ground.phase }], guard := none }) (v := ?ve11_10) rfl (by kernel_rfl) (by kernel_rfl) (by kernel_rfl) (by kernel_rfl) (fun _ _ _ h => h) (Or.inl ⟨by rfl, ?hye11_10⟩) B_11.out ?_
        case hye11_10 => (intro wz hSw; (try dsimp only at hSw); go_simp; try with_reducible rfl)
        (try simp only [Act.put, List.setIfInBounds_toArray, List.set_cons_zero, List.set_cons_succ])
        refine WD_take (i := 11) (oi := { dst := some 55, op := Go.Op.fieldAddr 47 (Go.Operand.tmp 54) 1, type := 0, pos := _, after := #[{ on := 10, ground := Go.Ground.data }, { on := 0, ground := Go.Ground.phase }, { on := 1, ground := Go.Ground.phase }, { on := 2, ground := Go.Ground.phase }, { on := 3, ground := Go.Ground.phase }, { on := 4, ground := Go.Ground.phase }, { on := 5, ground := Go.Ground.phase }, { on := 6, ground := Go.Ground.phase }, { on := 7, ground := Go.Ground.phase }, { on := 8, ground := Go.Ground.phase }, { on := 9, ground := Go.Ground.phase }], guard := none }) (v := ?ve11_11) rfl (by kernel_rfl) (by kernel_rfl) (by kernel_rfl) (by kernel_rfl) (fun _ _ _ h => h) (Or.inl ⟨by rfl, ?hye11_11⟩) B_11.out ?_
        case hye11_11 => (intro wz hSw; (try dsimp only at hSw); go_simp; try with_reducible rfl)
        (try simp only [Act.put, List.setIfInBounds_toArray, List.set_cons_zero, List.set_cons_succ])
        refine WD_ready (rs := [12]) (by kernel_rfl) (by simp) ?_
        refine AllD.last (o := { dst := none, op := Go.Op.store 45 (Go.Operand.tmp 55) (Go.Operand.tmp 53), type := 0, pos := _, after := #[{ on := 11, ground := Go.Ground.data }, { on := 9, ground := Go.Ground.data }, { on := 9, ground := Go.Ground.chain }, { on := 0, ground := Go.Ground.phase }, { on := 1, ground := Go.Ground.phase }, { on := 2, ground := Go.Ground.phase }, { on := 3, ground := Go.Ground.phase }, { on := 4, ground := Go.Ground.phase }, { on := 5, ground := Go.Ground.phase }, { on := 6, ground := Go.Ground.phase }, { on := 7, ground := Go.Ground.phase }, { on := 8, ground := Go.Ground.phase }, { on := 9, ground := Go.Ground.phase }], guard := none }) rfl (by kernel_rfl) (fun K hK => ?_) AllD.nil
        have e33 := (B_11.out.cell (p := ⟨g, 1, none⟩) glt1).trans d1
        have z33 := (B_11.out.frozen (p := ⟨g, 1, none⟩) glt1).trans zf1
        go_simp
        refine hK.out _ _ ?_
        clear hK K
        (try simp only [Act.put, List.setIfInBounds_toArray, List.set_cons_zero, List.set_cons_succ])
        refine WD_done (by kernel_rfl) ?_ _
        go_wp2
        go_ret
        have E := rpush_end T.out (H3.out.trans (B_11.out.mono H3.out.size)) H4.out (own_mono oq_11.out (Nat.le_of_lt hfbl)) HN.out (own_mono (own_bl H2.out B_11.out) (Nat.le_succ _)) HR.out
        exact ⟨_, _, rfl, Lib.hid E.1, Lib.hid E.2.1, Lib.hid E.2.2⟩
end Go.Proofs.Ytkecnhogooaccaa
