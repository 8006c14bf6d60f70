import Derived.Test.YtonnadedbbfapaaRef
namespace Go.Proofs.Ytonnadedbbfapaa
open Go.ChangeShapes Go.WideShapes Go.ChangeAt Go.RowKit
set_option linter.unusedVariables false
theorem counts_nil (w : World) : Calls Try.prog 12 #[.slice none 0 0, .slice none 0 0] w fun e w' => e = .returned (.bool true) ∧ w = w' := by
  go_enter Try.func12, Try.ntmps12
  go_wp2
  go_loop [5] (fun i => ∃ k : Nat, k = 0 ∧ i = .int .i64 k) (fun _ => 0)
  case atStart => exact ⟨0, rfl, rfl⟩
  case round =>
    obtain ⟨k, rfl, rfl⟩ := hrel
    go_wp2
    go_ret
    exact ⟨rfl, rfl⟩
theorem best_le (xs : List Int) : ∀ k, 1 ≤ bestGo xs k ∧ bestGo xs k ≤ k + 1
  | 0 => ⟨Nat.le_refl _, Nat.le_refl _⟩
  | k + 1 => by
    have := best_le xs k
    simp only [bestGo]; split <;> omega
/-- all that stands at the head of a round. -/
structure At (w : World) (W : World) (B gr : Nat) (every most : Int) (h cap hr capr : Nat) (xs : List Int) : Prop where
  k : KAt W B (B + 1) every most h cap xs
  r : RAt W gr every most hr capr xs
  b : Below w.heap.size w W
  wB : w.heap.size ≤ B
  g1 : gr ≠ B + 1
  g2 : gr ≠ h
  h1 : hr ≠ B + 1
  h2 : hr ≠ h
  l1 : 1 ≤ xs.length
  lm : (xs.length : Int) ≤ most
set_option maxHeartbeats 4000000 in
theorem plays_out (every most ask : Int) (A : Option Addr) (n c : Nat) (w : World) (h : every < 1 ∨ 1000000 < every ∨ most < 2 ∨ 64 < most) :
    Calls Try.prog 3 #[.int .i64 every, .int .i64 most, .slice A n c, .int .i64 ask] w fun e w' => e = .returned (.bool true) ∧ Below w.heap.size w w' := by
  have NB := Lib.hid (fun w => new_bad every most w h)
  by_cases h1 : every < 1
  · clear h; go_enter Try.func3, Try.ntmps3
    go_wp2_with fail; refine (awake _).mono ?_; rintro e w1 ⟨rfl, hb1⟩
    go_wp2_with fail; refine (NB.out _).mono ?_; rintro e w2 ⟨rfl, rfl⟩
    go_wp2; all_goals (go_ret; exact ⟨rfl, hb1⟩)
  have h1' : 1 ≤ every := by omega
  clear h1
  by_cases h2 : 1000000 < every
  · clear h; go_enter Try.func3, Try.ntmps3
    go_wp2_with fail; refine (awake _).mono ?_; rintro e w1 ⟨rfl, hb1⟩
    go_wp2_with fail; refine (NB.out _).mono ?_; rintro e w2 ⟨rfl, rfl⟩
    go_wp2; all_goals (go_ret; exact ⟨rfl, hb1⟩)
  have h2' : every ≤ 1000000 := by omega
  clear h2
  by_cases h3 : most < 2
  · clear h; go_enter Try.func3, Try.ntmps3
    go_wp2_with fail; refine (awake _).mono ?_; rintro e w1 ⟨rfl, hb1⟩
    go_wp2_with fail; refine (NB.out _).mono ?_; rintro e w2 ⟨rfl, rfl⟩
    go_wp2; all_goals (go_ret; exact ⟨rfl, hb1⟩)
  have h3' : 2 ≤ most := by omega
  clear h3
  have h4 : 64 < most := by omega
  clear h; go_enter Try.func3, Try.ntmps3
  go_wp2_with fail; refine (awake _).mono ?_; rintro e w1 ⟨rfl, hb1⟩
  go_wp2_with fail; refine (NB.out _).mono ?_; rintro e w2 ⟨rfl, rfl⟩
  go_wp2; all_goals (go_ret; exact ⟨rfl, hb1⟩)
set_option maxHeartbeats 4000000 in
theorem plays_long (every most ask : Int) (A : Option Addr) (n c : Nat) (w : World) (h1 : 1 ≤ every) (h2 : every ≤ 1000000) (h3 : 2 ≤ most) (h4 : most ≤ 64) (hn : 80 < n) :
    Calls Try.prog 3 #[.int .i64 every, .int .i64 most, .slice A n c, .int .i64 ask] w fun e w' => e = .returned (.bool true) ∧ Below w.heap.size w w' := by
  have hn' : (80 : Int) < n := by omega
  go_enter Try.func3, Try.ntmps3
  go_wp2_with fail; refine (awake _).mono ?_; rintro e w1 ⟨rfl, hb1⟩
  go_wp2_with fail; refine (new_good every most _ h1 h2 h3 h4).mono ?_; rintro e w2 ⟨rfl, k2, hb2⟩
  have B2 := hb1.trans (hb2.mono hb1.size)
  clear k2 hb1 hb2
  go_wp2; all_goals (go_ret; exact ⟨rfl, B2⟩)
theorem bt {w a b : World} (h : Below w.heap.size w a) (k : Below a.heap.size a b) : Below w.heap.size w b := h.trans (k.mono h.size)
theorem At.below {w W W' : World} {B gr : Nat} {every most : Int} {h cap hr capr : Nat} {xs : List Int} (a : At w W B gr every most h cap hr capr xs) (f : Below W.heap.size W W') : At w W' B gr every most h cap hr capr xs :=
  ⟨a.k.below f, a.r.below f, bt a.b f, a.wB, a.g1, a.g2, a.h1, a.h2, a.l1, a.lm⟩
section
variable {w : World} {B g : Nat} {every most : Int} {h cap : Nat} {xs : List Int}
theorem counts_b {ba oa ca bb ob cb : Nat} {xs : List Int} (hx : Rd w ba oa xs) (hy : Rd w bb ob xs) (hl : xs.length ≤ 2000) :
    Calls Try.prog 12 #[.slice (some ⟨ba, oa, none⟩) xs.length ca, .slice (some ⟨bb, ob, none⟩) xs.length cb] w fun e w' => e = .returned (.bool true) ∧ Below w.heap.size w w' :=
  (counts_any hx hy hl).mono fun _ _ ⟨he, n, hw⟩ => ⟨by rw [he]; simp, hw ▸ below_drewN _ _⟩
theorem counts1_b {ba oa ca bb ob cb : Nat} {v : Int} (hx : Rd w ba oa [v]) (hy : Rd w bb ob [v]) :
    Calls Try.prog 12 #[.slice (some ⟨ba, oa, none⟩) 1 ca, .slice (some ⟨bb, ob, none⟩) 1 cb] w fun e w' => e = .returned (.bool true) ∧ Below w.heap.size w w' :=
  counts_b (xs := [v]) hx hy (by simp)
theorem countsnil_b (w : World) : Calls Try.prog 12 #[.slice none 0 0, .slice none 0 0] w fun e w' => e = .returned (.bool true) ∧ Below w.heap.size w w' := (counts_nil w).mono fun _ _ ⟨he, hw⟩ => ⟨he, hw ▸ Below.refl _ _⟩
theorem before_b (c : Int) (k : KAt w B g every most h cap xs) (hxl : xs.length ≤ 1000) : Calls Try.prog 14 #[.pointer (some ⟨g, 0, none⟩), .int .i64 c] w fun e w' => e = .returned (.int .i64 (beforeGo c xs xs.length)) ∧ Below w.heap.size w w' :=
  (before_any c k hxl).mono fun _ _ ⟨he, hw⟩ => ⟨he, hw ▸ Below.refl _ _⟩
theorem rbefore_b (c : Int) (k : RAt w g every most h cap xs) (hxl : xs.length ≤ 1000) : Calls Try.prog 15 #[.pointer (some ⟨g, 0, none⟩), .int .i64 c] w fun e w' => e = .returned (.int .i64 (beforeGo c xs xs.length)) ∧ Below w.heap.size w w' :=
  (rbefore_any c k hxl).mono fun _ _ ⟨he, hw⟩ => ⟨he, hw ▸ Below.refl _ _⟩
theorem gap_b (k : KAt w B g every most h cap xs) (h1 : 0 < xs.length) (hxl : xs.length ≤ 1000) : Calls Try.prog 16 #[.pointer (some ⟨g, 0, none⟩)] w fun e w' => e = .returned (.int .i64 (gapGo xs (xs.length - 1))) ∧ Below w.heap.size w w' :=
  (gap_any k h1 hxl).mono fun _ _ ⟨he, n, hw⟩ => ⟨he, hw ▸ below_drewN _ _⟩
theorem rgap_b (k : RAt w g every most h cap xs) (h1 : 0 < xs.length) (hxl : xs.length ≤ 1000) : Calls Try.prog 17 #[.pointer (some ⟨g, 0, none⟩)] w fun e w' => e = .returned (.int .i64 (gapGo xs (xs.length - 1))) ∧ Below w.heap.size w w' :=
  (rgap_any k h1 hxl).mono fun _ _ ⟨he, n, hw⟩ => ⟨he, hw ▸ below_drewN _ _⟩
end
set_option maxHeartbeats 8000000 in
set_option maxRecDepth 100000 in
theorem plays_in (every most ask : Int) (b off n c : Nat) (ls : List Int) (w : World) (hbw : b < w.heap.size) (hA : Rd w b off ls) (hl : ls.length = n)
    (hls : ∀ j, -9223372036854775808 ≤ ls.getD j 0 ∧ ls.getD j 0 ≤ 9223372036854775807) (h1 : 1 ≤ every) (h2 : every ≤ 1000000) (h3 : 2 ≤ most) (h4 : most ≤ 64) (hn : n ≤ 80) :
    Calls Try.prog 3 #[.int .i64 every, .int .i64 most, .slice (some ⟨b, off, none⟩) n c, .int .i64 ask] w fun e w' => e = .returned (.bool true) ∧ Below w.heap.size w w' := by
  have HA := Lib.hid hA; have HL := Lib.hid hl; have HLS := Lib.hid hls; clear hA hl hls
  go_enter Try.func3, Try.ntmps3
  go_wp2_with fail; refine (awake _).mono ?_; rintro e w1 ⟨rfl, hb1⟩
  go_wp2_with fail; refine (new_good every most _ h1 h2 h3 h4).mono ?_; rintro e w2 ⟨rfl, k2, hb2⟩
  have B2 := Lib.hid (hb1.trans (hb2.mono hb1.size))
  have HB1 := Lib.hid hb1
  obtain ⟨B, hB⟩ : ∃ B, B = w1.heap.size := ⟨_, rfl⟩
  rw [← hB] at k2 ⊢
  have HBe := Lib.hid hB; clear hB hb1 hb2
  have K2 := Lib.hid k2; clear k2
  go_wp2
  go_loopw [12] (fun i wr => ∃ k : Nat, k ≤ n ∧ i = .int .i64 k ∧ Hid (∃ h cap hr capr xs, At w wr B (w2.heap.size + 1) every most h cap hr capr xs)) (fun i _ => n - (intOf i).toNat)
  case atStart =>
    have kk := K2.out
    have hlt := kk.lt
    have bl : Below w2.heap.size w2 ((w2.alloc (Obj.cells #[Value.int IntKind.i64 0] 2)).alloc (Obj.cells #[Value.int IntKind.i64 every, Value.int IntKind.i64 most, Value.slice (some ⟨w2.heap.size, 0, none⟩) 1 1] 30)) :=
      ((Below.refl _ _).alloc (Nat.le_refl _) _).alloc (by simp) _
    have hB1 : w.heap.size ≤ B := by rw [HBe.out]; exact HB1.out.size
    refine ⟨0, by omega, rfl, Lib.hid ⟨B, 1, w2.heap.size, 1, [0], ⟨kk.below bl, ⟨?_, ?_, ?_, ?_⟩, B2.out.trans (bl.mono B2.out.size), hB1, ?_, ?_, ?_, ?_, by simp, by simp; omega⟩⟩⟩
    · have := (MapKept.heap_alloc (w2.alloc (Obj.cells #[Value.int IntKind.i64 0] 2)) (Obj.cells #[.int .i64 every, .int .i64 most, .slice (some ⟨w2.heap.size, 0, none⟩) 1 1] 30)).1
      simpa using this
    · exact (rd_new w2 [0] 2).below (below_alloc _ _) (by simp)
    all_goals (first | (simp; done) | (simp; omega) | omega)
  case round =>
    obtain ⟨k, hk, rfl, hi⟩ := hrel
    by_cases hlt : k < n
    · have a := hi.out
      obtain ⟨h, cap, hr, capr, xs, a⟩ := a
      obtain ⟨x, hx⟩ : ∃ x, x = ls.getD k 0 := ⟨_, rfl⟩
      have hxb := HLS.out k; rw [← hx] at hxb
      obtain ⟨hx1, hx2⟩ := hxb
      have CX : Hid (∀ W, Below w.heap.size w W → W.cell? ⟨b, off + k, none⟩ = some (.int .i64 x)) := Lib.hid (fun W hb => by
        rw [hb.cell (p := ⟨b, off + k, none⟩) hbw, HA.out k (by rw [HL.out]; exact hlt), hx])
      have HX := Lib.hid hx; clear hx
      have l1 := a.l1
      have lm : xs.length ≤ 64 := by have := a.lm; omega
      have lm2 := a.lm
      have wc1 := fun m => wants_any x (a.k.drewN m) h1 l1 (by omega) hx1 hx2
      have wc2 := fun m => rwants_any x (a.r.drewN m) h1 l1 (by omega) hx1 hx2
      have cx := CX.out wr a.b
      have AA := Lib.hid a; clear a hi
      cases hw : wantsB every x xs
      · rw [hw] at wc1 wc2
        have WC1 := Lib.hid wc1; have WC2 := Lib.hid wc2; clear wc1 wc2
        have HW := Lib.hid hw; clear hw
        go_wp2
        go_quiet (first | (go_at_call 8; exact Calls.quiet_of (WC1.out _)) | (go_at_call 9; exact Calls.quiet_of (WC2.out _)))
        have A3 := Lib.hid (AA.out.below (below_drewN wr nq))
        have cx3 := CX.out _ A3.out.b
        go_wp2_with fail
        refine (add_no x A3.out.k h1 l1 (by omega) hx1 hx2 HW.out).mono ?_; rintro e w4 ⟨rfl, n4, hw4⟩
        have A4 := Lib.hid (A3.out.below (hw4 ▸ below_drewN _ _))
        clear hw4
        have cx4 := CX.out _ A4.out.b
        go_wp2_with fail
        refine (radd_no x A4.out.r h1 l1 (by omega) hx1 hx2 HW.out).mono ?_; rintro e w5 ⟨rfl, n5, hw5⟩
        have A5 := Lib.hid (A4.out.below (hw5 ▸ below_drewN _ _))
        clear hw5
        have Z1 : 0 < (xs).length := by omega
        have Z3 : (xs).length ≤ 1000 := by omega
        have Z2 : (xs).length ≤ 2000 := by omega
        have f0 : Below w5.heap.size w5 w5.drew := below_drewN w5 1
        have g0 := (A5.out.r.below f0).c2
        go_wp2
        go_region_held3 (fun w' => w'.cell? ⟨w2.heap.size + 1, 2, none⟩ = some (.slice (some ⟨hr, 0, none⟩) (xs).length capr) ∧ Below w5.heap.size w5 w') (refine ⟨?_, ?_⟩ <;> first | assumption | exact f0 | exact g0) (first
          | (go_at_call 12; (with_reducible refine (countsnil_b _).mono ?_); rintro e wx ⟨rfl, hbx⟩; have fx := bt (show Below w5.heap.size w5 _ by assumption) hbx; have gx := (A5.out.r.below fx).c2)
          | (go_at_call 13; refine (kept_any (A5.out.k.below (show Below w5.heap.size w5 _ by assumption)) Z1 Z2).mono ?_; rintro e wx ⟨r, cr, rfl, rr, rl, rlt, hbx⟩; have fx := bt (show Below w5.heap.size w5 _ by assumption) hbx; have gx := (A5.out.r.below fx).c2)
          | (go_at_call 12; (with_reducible refine (counts_b rr (A5.out.r.below (show Below w5.heap.size w5 _ by assumption)).rd Z2).mono ?_); rintro e wx ⟨rfl, hbx⟩; have fx := bt (show Below w5.heap.size w5 _ by assumption) hbx; have gx := (A5.out.r.below fx).c2)
          | (go_at_call 14; refine (before_b ask (A5.out.k.below (show Below w5.heap.size w5 _ by assumption)) Z3).mono ?_; rintro e wx ⟨rfl, hbx⟩; have fx := bt (show Below w5.heap.size w5 _ by assumption) hbx; have gx := (A5.out.r.below fx).c2)
          | (go_at_call 15; refine (rbefore_b ask (A5.out.r.below (show Below w5.heap.size w5 _ by assumption)) Z3).mono ?_; rintro e wx ⟨rfl, hbx⟩; have fx := bt (show Below w5.heap.size w5 _ by assumption) hbx; have gx := (A5.out.r.below fx).c2)
          | (go_at_call 16; refine (gap_b (A5.out.k.below (show Below w5.heap.size w5 _ by assumption)) Z1 Z3).mono ?_; rintro e wx ⟨rfl, hbx⟩; have fx := bt (show Below w5.heap.size w5 _ by assumption) hbx; have gx := (A5.out.r.below fx).c2)
          | (go_at_call 17; refine (rgap_b (A5.out.r.below (show Below w5.heap.size w5 _ by assumption)) Z1 Z3).mono ?_; rintro e wx ⟨rfl, hbx⟩; have fx := bt (show Below w5.heap.size w5 _ by assumption) hbx; have gx := (A5.out.r.below fx).c2))
        all_goals go_wp2
        all_goals go_roundw
        all_goals (first | exact ⟨k + 1, by omega, by go_num, Lib.hid ⟨_, _, _, _, _, A5.out.below (by assumption)⟩⟩ | (simp [intOf]; omega))
      · rw [hw] at wc1 wc2
        have WC1 := Lib.hid wc1; have WC2 := Lib.hid wc2; clear wc1 wc2
        have HW := Lib.hid hw; clear hw
        go_wp2
        go_quiet (first | (go_at_call 8; exact Calls.quiet_of (WC1.out _)) | (go_at_call 9; exact Calls.quiet_of (WC2.out _)))
        have A3 := Lib.hid (AA.out.below (below_drewN wr nq))
        have cx3 := CX.out _ A3.out.b
        by_cases hm : (xs.length : Int) + 1 ≤ most
        · obtain ⟨zs, hzs⟩ : ∃ zs, zs = xs ++ [x] := ⟨_, rfl⟩
          have hzl : zs.length = xs.length + 1 := by rw [hzs]; simp
          have ad := add_room x A3.out.k h1 l1 (by omega) hx1 hx2 HW.out hm
          rw [← hzs] at ad
          have AD := Lib.hid ad; clear ad
          have rad := fun (w4 : World) (R : RAt w4 (w2.heap.size + 1) every most hr capr xs) => radd_room x R h1 l1 (by omega) hx1 hx2 HW.out hm
          rw [← hzs] at rad
          have RAD := Lib.hid rad; clear rad
          have Z1 : 0 < zs.length := by omega
          have Z3 : zs.length ≤ 1000 := by omega
          have Z2 : zs.length ≤ 2000 := by omega
          have ZM : (zs.length : Int) ≤ most := by omega
          clear hzs hzl
          go_wp2_with fail
          refine AD.out.mono ?_; rintro e w4 ⟨rfl, h', cap', k4, f4, hh4⟩
          have hrlt := A3.out.r.hlt
          have hglt := A3.out.r.lt
          have b4 : Below w.heap.size w w4 := A3.out.b.trans ((fr_below A3.out.k f4).mono A3.out.wB)
          have r4 := A3.out.r.fr f4 A3.out.g1 A3.out.g2 A3.out.h1 A3.out.h2
          have e1 : w2.heap.size + 1 ≠ h' := by have := A3.out.g2; rcases hh4 with e | e; omega; omega
          have e2 : hr ≠ h' := by have := A3.out.h2; rcases hh4 with e | e; omega; omega
          have K4 := Lib.hid k4; have R4 := Lib.hid r4; have B4 := Lib.hid b4
          clear k4 f4 hh4 hrlt hglt r4 b4
          have cx4 := CX.out _ B4.out
          go_wp2_with fail
          refine (RAD.out _ R4.out).mono ?_; rintro e w5 ⟨rfl, hr', capr', r5, f5, hh5⟩
          have hklt := K4.out.hlt
          have hklt2 := K4.out.lt
          have A5 : Hid (At w w5 B (w2.heap.size + 1) every most h' cap' hr' capr' zs) := Lib.hid
            ⟨K4.out.fr f5 A3.out.g1.symm A3.out.g1.symm e1.symm e1.symm, r5, B4.out.trans (f5.below (by have := B2.out.size; omega) (by have := B2.out.size; omega) B4.out.size), A3.out.wB, A3.out.g1, e1, by omega, by omega, Z1, ZM⟩
          clear r5 f5 hh5
          have f0 : Below w5.heap.size w5 w5.drew := below_drewN w5 1
          have g0 := (A5.out.r.below f0).c2
          go_wp2
          go_region_held3 (fun w' => w'.cell? ⟨w2.heap.size + 1, 2, none⟩ = some (.slice (some ⟨hr', 0, none⟩) zs.length capr') ∧ Below w5.heap.size w5 w') (refine ⟨?_, ?_⟩ <;> first | assumption | exact f0 | exact g0) (first
            | (go_at_call 12; (with_reducible refine (countsnil_b _).mono ?_); rintro e wx ⟨rfl, hbx⟩; have fx := bt (show Below w5.heap.size w5 _ by assumption) hbx; have gx := (A5.out.r.below fx).c2)
            | (go_at_call 13; refine (kept_any (A5.out.k.below (show Below w5.heap.size w5 _ by assumption)) Z1 Z2).mono ?_; rintro e wx ⟨r, cr, rfl, rr, rl, rlt, hbx⟩; have fx := bt (show Below w5.heap.size w5 _ by assumption) hbx; have gx := (A5.out.r.below fx).c2)
            | (go_at_call 12; (with_reducible refine (counts_b rr (A5.out.r.below (show Below w5.heap.size w5 _ by assumption)).rd Z2).mono ?_); rintro e wx ⟨rfl, hbx⟩; have fx := bt (show Below w5.heap.size w5 _ by assumption) hbx; have gx := (A5.out.r.below fx).c2)
            | (go_at_call 14; refine (before_b ask (A5.out.k.below (show Below w5.heap.size w5 _ by assumption)) Z3).mono ?_; rintro e wx ⟨rfl, hbx⟩; have fx := bt (show Below w5.heap.size w5 _ by assumption) hbx; have gx := (A5.out.r.below fx).c2)
            | (go_at_call 15; refine (rbefore_b ask (A5.out.r.below (show Below w5.heap.size w5 _ by assumption)) Z3).mono ?_; rintro e wx ⟨rfl, hbx⟩; have fx := bt (show Below w5.heap.size w5 _ by assumption) hbx; have gx := (A5.out.r.below fx).c2)
            | (go_at_call 16; refine (gap_b (A5.out.k.below (show Below w5.heap.size w5 _ by assumption)) Z1 Z3).mono ?_; rintro e wx ⟨rfl, hbx⟩; have fx := bt (show Below w5.heap.size w5 _ by assumption) hbx; have gx := (A5.out.r.below fx).c2)
            | (go_at_call 17; refine (rgap_b (A5.out.r.below (show Below w5.heap.size w5 _ by assumption)) Z1 Z3).mono ?_; rintro e wx ⟨rfl, hbx⟩; have fx := bt (show Below w5.heap.size w5 _ by assumption) hbx; have gx := (A5.out.r.below fx).c2))
          all_goals go_wp2
          all_goals go_roundw
          all_goals (first | exact ⟨k + 1, by omega, by go_num, Lib.hid ⟨_, _, _, _, _, A5.out.below (by assumption)⟩⟩ | (simp [intOf]; omega))
        · have hx2l : 2 ≤ xs.length := by omega
          have hm' : most < (xs.length : Int) + 1 := by omega
          clear hm
          obtain ⟨ys, hys⟩ : ∃ ys, ys = xs ++ [x] := ⟨_, rfl⟩
          have hyl : ys.length = xs.length + 1 := by rw [hys]; simp
          obtain ⟨m, hme⟩ : ∃ m, m = bestGo ys (xs.length - 2) := ⟨_, rfl⟩
          have hbl := best_le ys (xs.length - 2)
          rw [← hme] at hbl
          obtain ⟨zs, hzs⟩ : ∃ zs, zs = ys.eraseIdx m := ⟨_, rfl⟩
          have hzl : zs.length = xs.length := by rw [hzs, List.length_eraseIdx, if_pos (by omega)]; omega
          obtain ⟨v, hv⟩ : ∃ v, v = ys.getD m 0 := ⟨_, rfl⟩
          have ad := add_drop x hys A3.out.k h1 l1 (by omega) hx1 hx2 HW.out hx2l hm'
          rw [← hme, ← hzs, ← hv] at ad
          have AD := Lib.hid ad; clear ad
          have rad := fun (w4 : World) (R : RAt w4 (w2.heap.size + 1) every most hr capr xs) => radd_drop x hys R h1 l1 (by omega) hx1 hx2 HW.out hx2l hm'
          rw [← hme, ← hzs, ← hv] at rad
          have RAD := Lib.hid rad; clear rad
          have Z1 : 0 < zs.length := by omega
          have Z3 : zs.length ≤ 1000 := by omega
          have Z2 : zs.length ≤ 2000 := by omega
          have ZM : (zs.length : Int) ≤ most := by omega
          clear hys hyl hme hbl hzs hzl hv
          go_wp2_with fail
          refine AD.out.mono ?_; rintro e w4 ⟨b4, rfl, hb4, hob4, h', cap', k4, f4, hh4⟩
          have hrlt := A3.out.r.hlt
          have hglt := A3.out.r.lt
          have bl4 : Below w.heap.size w w4 := A3.out.b.trans ((fr_below A3.out.k f4).mono A3.out.wB)
          have r4 := A3.out.r.fr f4 A3.out.g1 A3.out.g2 A3.out.h1 A3.out.h2
          have e1 : w2.heap.size + 1 ≠ h' := by have := A3.out.g2; rcases hh4 with e | e; omega; omega
          have e2 : hr ≠ h' := by have := A3.out.h2; rcases hh4 with e | e; omega; omega
          have e3 : b4 ≠ w2.heap.size + 1 := by omega
          have K4 := Lib.hid k4; have R4 := Lib.hid r4; have B4 := Lib.hid bl4; have OB4 := Lib.hid hob4
          clear k4 f4 hh4 hrlt hglt r4 bl4 hob4
          have cx4 := CX.out _ B4.out
          go_wp2_with fail
          refine (RAD.out _ R4.out).mono ?_; rintro e w5 ⟨b5, rfl, hob5, hr', capr', r5, f5, hh5⟩
          have hklt := K4.out.hlt
          have hklt2 := K4.out.lt
          have A5 : Hid (At w w5 B (w2.heap.size + 1) every most h' cap' hr' capr' zs) := Lib.hid
            ⟨K4.out.fr f5 A3.out.g1.symm A3.out.g1.symm e1.symm e1.symm, r5, B4.out.trans (f5.below (by have := B2.out.size; omega) (by have := B2.out.size; omega) B4.out.size), A3.out.wB, A3.out.g1, e1, by omega, by omega, Z1, ZM⟩
          obtain ⟨ra, la⟩ := rd_obj OB4.out
          have ob4 : w5.heap[b4]? = some (.cells #[.int .i64 v] 2 (0, 0)) := by rw [f5.block b4 la e3 e3]; exact OB4.out
          have RA := Lib.hid (rd_obj ob4)
          have RB := Lib.hid (rd_obj hob5)
          clear r5 f5 hh5 ra la ob4 hob5
          have f0 : Below w5.heap.size w5 w5.drew := below_drewN w5 1
          have g0 := (A5.out.r.below f0).c2
          go_wp2
          go_region_held3 (fun w' => w'.cell? ⟨w2.heap.size + 1, 2, none⟩ = some (.slice (some ⟨hr', 0, none⟩) (zs).length capr') ∧ Below w5.heap.size w5 w') (refine ⟨?_, ?_⟩ <;> first | assumption | exact f0 | exact g0) (first
            | (go_at_call 12; (with_reducible refine (counts1_b (v := v) (RA.out.1.below (show Below w5.heap.size w5 _ by assumption) RA.out.2) (RB.out.1.below (show Below w5.heap.size w5 _ by assumption) RB.out.2)).mono ?_); rintro e wx ⟨rfl, hbx⟩; have fx := bt (show Below w5.heap.size w5 _ by assumption) hbx; have gx := (A5.out.r.below fx).c2)
            | (go_at_call 13; refine (kept_any (A5.out.k.below (show Below w5.heap.size w5 _ by assumption)) Z1 Z2).mono ?_; rintro e wx ⟨r, cr, rfl, rr, rl, rlt, hbx⟩; have fx := bt (show Below w5.heap.size w5 _ by assumption) hbx; have gx := (A5.out.r.below fx).c2)
            | (go_at_call 12; (with_reducible refine (counts_b rr (A5.out.r.below (show Below w5.heap.size w5 _ by assumption)).rd Z2).mono ?_); rintro e wx ⟨rfl, hbx⟩; have fx := bt (show Below w5.heap.size w5 _ by assumption) hbx; have gx := (A5.out.r.below fx).c2)
            | (go_at_call 14; refine (before_b ask (A5.out.k.below (show Below w5.heap.size w5 _ by assumption)) Z3).mono ?_; rintro e wx ⟨rfl, hbx⟩; have fx := bt (show Below w5.heap.size w5 _ by assumption) hbx; have gx := (A5.out.r.below fx).c2)
            | (go_at_call 15; refine (rbefore_b ask (A5.out.r.below (show Below w5.heap.size w5 _ by assumption)) Z3).mono ?_; rintro e wx ⟨rfl, hbx⟩; have fx := bt (show Below w5.heap.size w5 _ by assumption) hbx; have gx := (A5.out.r.below fx).c2)
            | (go_at_call 16; refine (gap_b (A5.out.k.below (show Below w5.heap.size w5 _ by assumption)) Z1 Z3).mono ?_; rintro e wx ⟨rfl, hbx⟩; have fx := bt (show Below w5.heap.size w5 _ by assumption) hbx; have gx := (A5.out.r.below fx).c2)
            | (go_at_call 17; refine (rgap_b (A5.out.r.below (show Below w5.heap.size w5 _ by assumption)) Z1 Z3).mono ?_; rintro e wx ⟨rfl, hbx⟩; have fx := bt (show Below w5.heap.size w5 _ by assumption) hbx; have gx := (A5.out.r.below fx).c2))
          all_goals go_wp2
          all_goals go_roundw
          all_goals (first | exact ⟨k + 1, by omega, by go_num, Lib.hid ⟨_, _, _, _, _, A5.out.below (by assumption)⟩⟩ | (simp [intOf]; omega))
    · obtain rfl : k = n := by omega
      obtain ⟨h, cap, hr, capr, xs, a⟩ := hi.out
      have BB := Lib.hid a.b
      clear a hi hlt
      go_wp2
      go_ret
      exact ⟨rfl, BB.out⟩
set_option maxHeartbeats 8000000 in
set_option maxRecDepth 100000 in
theorem plays_zero (every most ask : Int) (A : Option Addr) (n c : Nat) (w : World) (hn0 : n ≤ 0) (h1 : 1 ≤ every) (h2 : every ≤ 1000000) (h3 : 2 ≤ most) (h4 : most ≤ 64) (hn : n ≤ 80) :
    Calls Try.prog 3 #[.int .i64 every, .int .i64 most, .slice A n c, .int .i64 ask] w fun e w' => e = .returned (.bool true) ∧ Below w.heap.size w w' := by
  go_enter Try.func3, Try.ntmps3
  go_wp2_with fail; refine (awake _).mono ?_; rintro e w1 ⟨rfl, hb1⟩
  go_wp2_with fail; refine (new_good every most _ h1 h2 h3 h4).mono ?_; rintro e w2 ⟨rfl, k2, hb2⟩
  have B2 := Lib.hid (hb1.trans (hb2.mono hb1.size))
  have HB1 := Lib.hid hb1
  obtain ⟨B, hB⟩ : ∃ B, B = w1.heap.size := ⟨_, rfl⟩
  rw [← hB] at k2 ⊢
  have HBe := Lib.hid hB; clear hB hb1 hb2
  have K2 := Lib.hid k2; clear k2
  go_wp2
  go_loopw [12] (fun i wr => ∃ k : Nat, k ≤ n ∧ i = .int .i64 k ∧ Hid (∃ h cap hr capr xs, At w wr B (w2.heap.size + 1) every most h cap hr capr xs)) (fun i _ => n - (intOf i).toNat)
  case atStart =>
    have kk := K2.out
    have hlt := kk.lt
    have bl : Below w2.heap.size w2 ((w2.alloc (Obj.cells #[Value.int IntKind.i64 0] 2)).alloc (Obj.cells #[Value.int IntKind.i64 every, Value.int IntKind.i64 most, Value.slice (some ⟨w2.heap.size, 0, none⟩) 1 1] 30)) :=
      ((Below.refl _ _).alloc (Nat.le_refl _) _).alloc (by simp) _
    have hB1 : w.heap.size ≤ B := by rw [HBe.out]; exact HB1.out.size
    refine ⟨0, by omega, rfl, Lib.hid ⟨B, 1, w2.heap.size, 1, [0], ⟨kk.below bl, ⟨?_, ?_, ?_, ?_⟩, B2.out.trans (bl.mono B2.out.size), hB1, ?_, ?_, ?_, ?_, by simp, by simp; omega⟩⟩⟩
    · have := (MapKept.heap_alloc (w2.alloc (Obj.cells #[Value.int IntKind.i64 0] 2)) (Obj.cells #[.int .i64 every, .int .i64 most, .slice (some ⟨w2.heap.size, 0, none⟩) 1 1] 30)).1
      simpa using this
    · exact (rd_new w2 [0] 2).below (below_alloc _ _) (by simp)
    all_goals (first | (simp; done) | (simp; omega) | omega)
  case round =>
    obtain ⟨k, hk, rfl, hi⟩ := hrel
    obtain ⟨h, cap, hr, capr, xs, a⟩ := hi.out
    have BB := Lib.hid a.b
    have hge : n ≤ k := by omega
    clear a hi
    go_wp2
    go_ret
    exact ⟨rfl, BB.out⟩
theorem plays_walk (every most ask : Int) (A : Option Addr) (n c : Nat) (ls : List Int) (w : World) (hA : n = 0 ∨ ∃ b off, A = some ⟨b, off, none⟩ ∧ b < w.heap.size ∧ Rd w b off ls) (hl : ls.length = n)
    (hls : ∀ j, -9223372036854775808 ≤ ls.getD j 0 ∧ ls.getD j 0 ≤ 9223372036854775807) :
    Calls Try.prog 3 #[.int .i64 every, .int .i64 most, .slice A n c, .int .i64 ask] w fun e w' => e = .returned (.bool true) ∧ Below w.heap.size w w' := by
  by_cases h : every < 1 ∨ 1000000 < every ∨ most < 2 ∨ 64 < most
  · exact plays_out every most ask A n c w h
  by_cases hn : 80 < n
  · exact plays_long every most ask A n c w (by omega) (by omega) (by omega) (by omega) hn
  rcases hA with rfl | ⟨b, off, rfl, hb, hr⟩
  · exact plays_zero every most ask A 0 c w (by omega) (by omega) (by omega) (by omega) (by omega) (by omega)
  · exact plays_in every most ask b off n c ls w hb hr hl hls (by omega) (by omega) (by omega) (by omega) (by omega)
end Go.Proofs.Ytonnadedbbfapaa
