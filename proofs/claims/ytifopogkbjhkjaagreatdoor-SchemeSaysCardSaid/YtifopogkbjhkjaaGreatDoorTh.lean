import Derived.Test.YtifopogkbjhkjaaGreatDoorTg
namespace Go.Proofs.YtifopogkbjhkjaaGreatDoor
open Go.ChangeShapes Go.WideShapes Go.ChangeAt Go.RowKit
set_option linter.unusedVariables false
theorem shpL_take {l : List TT} {k : Nat} (h : k < l.length) (ha : shpL (l.take k) = true) : shpL (l.take (k + 1)) = shp l[k] := by
  have hh : shpL (l.take (k + 1)) = (shpL (l.take k) && shp l[k]) := by
    clear ha
    induction l generalizing k with
    | nil => simp at h
    | cons a l ih =>
      cases k with
      | zero => simp [shpL]
      | succ k =>
        simp only [List.take_succ_cons, shpL, List.getElem_cons_succ]
        rw [ih (by simpa using h), Bool.and_assoc]
  rw [hh, ha]; rfl
theorem shpL_no {l : List TT} {k : Nat} (h : k < l.length) (ha : shp l[k] = false) : shpL l = false := by
  cases hx : shpL l
  · rfl
  · have := (shpL_all l).1 hx l[k] (List.getElem_mem h)
    rw [ha] at this; cases this
def ShI (w : World) (V : TT) (args : List TT) (A : Option Addr) (c : Nat) (i : Value) (wr : World) : Prop := ∃ k : Nat, k ≤ args.length ∧ i = .int .i64 k ∧ Hid (shpL (args.take k) = true) ∧ Hid (Below w.heap.size w wr)
set_option maxRecDepth 100000 in
set_option maxHeartbeats 16000000 in
theorem shaped_any : ∀ (d : Nat) (V : TT) (v : Value) (w : World), bigT d V = false → TIn w any0 V v → Calls Tryz.prog 45 #[v] w fun e w' => e = .returned (.bool (shp V)) ∧ Below w.heap.size w w' := by
  intro d
  induction d with
  | zero => intro V v w h; cases h
  | succ d ih =>
  intro V v w hbg ⟨A, c, hv, hA⟩
  obtain ⟨hl4, -, b3⟩ := bigT_parts hbg
  subst hv
  have HI := Lib.hid ih
  have HBG := Lib.hid b3
  unfold tv
  obtain ⟨args, ha⟩ : ∃ l, l = V.args := ⟨_, rfl⟩
  rw [← ha] at hA HBG hl4 ⊢
  have HAR := Lib.hid ha
  have HB : Hid (Below w.heap.size w ((w.alloc (.cells #[.int .i64 V.k, .string V.nm, .int .i64 V.vr, .slice A args.length c] 24)).drew)) := Lib.hid (bt (below_alloc w _) (bdr _))
  have hBX := box4 w V A c args.length 24
  have HBX := Lib.hid hBX
  clear ih hbg b3 ha
  by_cases h1 : V.k < 1
  · have q1 := decide_eq_true h1
    have RES : Hid (shp V = false) := Lib.hid (by rw [shp_eq]; simp only [headOk]; rw [show decide (1 ≤ V.k) = false from decide_eq_false (by omega)]; rfl)
    clear hA
    go_enter Tryz.func45, Tryz.ntmps45
    go_wp2_with fail
    refine wp_region_held_drew (S := fun w' => w'.heap[w.heap.size]? = some (.cells #[.int .i64 V.k, .string V.nm, .int .i64 V.vr, .slice A args.length c] 24 (0, 0))) (by kernel_rfl) ?_ (fun hHeld => ?_)
    · exact HBX.out
    refine WHt 0 ⟨some 5, .fieldAddr 24 (.tmp 1) 0, 0, _, #[], none⟩ (v := ?va0) rfl (by kernel_rfl) (fun _ _ _ h => h) (Or.inl ⟨by rfl, ?hya0⟩) (by assumption) ?_
    case hya0 => (intro wz hSw; (try dsimp only at hSw); obtain ⟨z0, z1, z2, z3⟩ := cell4 hSw; go_simp; try with_reducible rfl)
    (try simp only [putz])
    refine WHt 1 ⟨some 6, .load 3 (.tmp 5), 3, _, #[⟨0, .data⟩], none⟩ (v := ?va1) rfl (by kernel_rfl) (fun _ _ _ h => h) (Or.inl ⟨by rfl, ?hya1⟩) (by assumption) ?_
    case hya1 => (intro wz hSw; (try dsimp only at hSw); obtain ⟨z0, z1, z2, z3⟩ := cell4 hSw; go_simp; try with_reducible rfl)
    (try simp only [putz])
    refine WHt 2 ⟨some 7, .binOp .lss 3 (.tmp 6) (.const (.int .i64 1)) 3, 4, _, #[⟨1, .data⟩], none⟩ (v := ?va2) rfl (by kernel_rfl) (fun _ _ _ h => h) (Or.inl ⟨by rfl, ?hya2⟩) (by assumption) ?_
    case hya2 => (intro wz hSw; (try dsimp only at hSw); obtain ⟨z0, z1, z2, z3⟩ := cell4 hSw; go_simp; try with_reducible rfl)
    (try simp only [putz])
    refine WHt 3 ⟨some 8, .move (.tmp 7), 4, _, #[⟨2, .data⟩], none⟩ (v := ?va3) rfl (by kernel_rfl) (fun _ _ _ h => h) (Or.inl ⟨by rfl, ?hya3⟩) (by assumption) ?_
    case hya3 => (intro wz hSw; (try dsimp only at hSw); obtain ⟨z0, z1, z2, z3⟩ := cell4 hSw; go_simp; try with_reducible rfl)
    (try simp only [putz])
    refine WHt 4 ⟨some 9, .fieldAddr 24 (.tmp 1) 0, 0, _, #[⟨3, .guard⟩], some (3, false)⟩ (v := undef) rfl (by kernel_rfl) (fun _ _ _ h => h) (Or.inr ⟨by rfl, rfl⟩) (by assumption) ?_
    (try simp only [putz])
    refine WHt 5 ⟨some 10, .load 3 (.tmp 9), 3, _, #[⟨4, .data⟩, ⟨3, .guard⟩], some (3, false)⟩ (v := undef) rfl (by kernel_rfl) (fun _ _ _ h => h) (Or.inr ⟨by rfl, rfl⟩) (by assumption) ?_
    (try simp only [putz])
    refine WHt 6 ⟨some 11, .binOp .gtr 3 (.tmp 10) (.const (.int .i64 7)) 3, 4, _, #[⟨5, .data⟩, ⟨3, .guard⟩], some (3, false)⟩ (v := undef) rfl (by kernel_rfl) (fun _ _ _ h => h) (Or.inr ⟨by rfl, rfl⟩) (by assumption) ?_
    (try simp only [putz])
    refine WHt 7 ⟨some 12, .pick (.tmp 8) (.const (.bool true)) (.tmp 11), 4, _, #[⟨3, .data⟩, ⟨6, .data⟩], none⟩ (v := ?va7) rfl (by kernel_rfl) (fun _ _ _ h => h) (Or.inl ⟨by rfl, ?hya7⟩) (by assumption) ?_
    case hya7 => (intro wz hSw; (try dsimp only at hSw); obtain ⟨z0, z1, z2, z3⟩ := cell4 hSw; go_simp; try with_reducible rfl)
    (try simp only [putz])
    refine WHt 8 ⟨some 13, .move (.tmp 12), 4, _, #[⟨7, .data⟩, ⟨3, .chain⟩], none⟩ (v := ?va8) rfl (by kernel_rfl) (fun _ _ _ h => h) (Or.inl ⟨by rfl, ?hya8⟩) (by assumption) ?_
    case hya8 => (intro wz hSw; (try dsimp only at hSw); obtain ⟨z0, z1, z2, z3⟩ := cell4 hSw; go_simp; try with_reducible rfl)
    (try simp only [putz])
    refine WHt 9 ⟨some 14, .fieldAddr 24 (.tmp 1) 3, 0, _, #[⟨8, .guard⟩], some (8, false)⟩ (v := undef) rfl (by kernel_rfl) (fun _ _ _ h => h) (Or.inr ⟨by rfl, rfl⟩) (by assumption) ?_
    (try simp only [putz])
    refine WHt 10 ⟨some 15, .load 22 (.tmp 14), 22, _, #[⟨9, .data⟩, ⟨8, .guard⟩], some (8, false)⟩ (v := undef) rfl (by kernel_rfl) (fun _ _ _ h => h) (Or.inr ⟨by rfl, rfl⟩) (by assumption) ?_
    (try simp only [putz])
    refine WHt 11 ⟨some 16, .call { callee := .builtin .len, args := #[.tmp 15], argTypes := #[22] }, 3, _, #[⟨10, .data⟩, ⟨8, .guard⟩], some (8, false)⟩ (v := undef) rfl (by kernel_rfl) (fun _ _ _ h => h) (Or.inr ⟨by rfl, rfl⟩) (by assumption) ?_
    (try simp only [putz])
    refine WHt 12 ⟨some 17, .fieldAddr 24 (.tmp 1) 0, 0, _, #[⟨8, .guard⟩], some (8, false)⟩ (v := undef) rfl (by kernel_rfl) (fun _ _ _ h => h) (Or.inr ⟨by rfl, rfl⟩) (by assumption) ?_
    (try simp only [putz])
    refine WHt 13 ⟨some 18, .load 3 (.tmp 17), 3, _, #[⟨12, .data⟩, ⟨8, .guard⟩], some (8, false)⟩ (v := undef) rfl (by kernel_rfl) (fun _ _ _ h => h) (Or.inr ⟨by rfl, rfl⟩) (by assumption) ?_
    (try simp only [putz])
    refine WHt 14 ⟨some 19, .call { callee := .value (.func 68), args := #[.tmp 18], argTypes := #[3] }, 3, _, #[⟨13, .data⟩, ⟨8, .chain⟩, ⟨8, .guard⟩], some (8, false)⟩ (v := undef) rfl (by kernel_rfl) (fun _ _ _ h => h) (Or.inr ⟨by rfl, rfl⟩) (by assumption) ?_
    (try simp only [putz])
    refine WHt 15 ⟨some 20, .binOp .neq 3 (.tmp 16) (.tmp 19) 3, 4, _, #[⟨11, .data⟩, ⟨14, .data⟩, ⟨8, .guard⟩], some (8, false)⟩ (v := undef) rfl (by kernel_rfl) (fun _ _ _ h => h) (Or.inr ⟨by rfl, rfl⟩) (by assumption) ?_
    (try simp only [putz])
    refine WHt 16 ⟨some 21, .pick (.tmp 13) (.const (.bool true)) (.tmp 20), 4, _, #[⟨8, .data⟩, ⟨15, .data⟩], none⟩ (v := ?va16) rfl (by kernel_rfl) (fun _ _ _ h => h) (Or.inl ⟨by rfl, ?hya16⟩) (by assumption) ?_
    case hya16 => (intro wz hSw; (try dsimp only at hSw); obtain ⟨z0, z1, z2, z3⟩ := cell4 hSw; go_simp; try with_reducible rfl)
    (try simp only [putz])
    refine wpAnyH_done (by kernel_rfl) ?_ _
    go_wp2
    go_ret
    exact ⟨by rw [RES.out]; rfl, HB.out⟩
  have q1 := decide_eq_false h1
  by_cases h2 : 7 < V.k
  · have q2 := decide_eq_true h2
    have RES : Hid (shp V = false) := Lib.hid (by rw [shp_eq]; simp only [headOk]; rw [show decide (V.k ≤ 7) = false from decide_eq_false (by omega)]; simp)
    clear hA
    go_enter Tryz.func45, Tryz.ntmps45
    go_wp2_with fail
    refine wp_region_held_drew (S := fun w' => w'.heap[w.heap.size]? = some (.cells #[.int .i64 V.k, .string V.nm, .int .i64 V.vr, .slice A args.length c] 24 (0, 0))) (by kernel_rfl) ?_ (fun hHeld => ?_)
    · exact HBX.out
    refine WHt 0 ⟨some 5, .fieldAddr 24 (.tmp 1) 0, 0, _, #[], none⟩ (v := ?vb0) rfl (by kernel_rfl) (fun _ _ _ h => h) (Or.inl ⟨by rfl, ?hyb0⟩) (by assumption) ?_
    case hyb0 => (intro wz hSw; (try dsimp only at hSw); obtain ⟨z0, z1, z2, z3⟩ := cell4 hSw; go_simp; try with_reducible rfl)
    (try simp only [putz])
    refine WHt 1 ⟨some 6, .load 3 (.tmp 5), 3, _, #[⟨0, .data⟩], none⟩ (v := ?vb1) rfl (by kernel_rfl) (fun _ _ _ h => h) (Or.inl ⟨by rfl, ?hyb1⟩) (by assumption) ?_
    case hyb1 => (intro wz hSw; (try dsimp only at hSw); obtain ⟨z0, z1, z2, z3⟩ := cell4 hSw; go_simp; try with_reducible rfl)
    (try simp only [putz])
    refine WHt 2 ⟨some 7, .binOp .lss 3 (.tmp 6) (.const (.int .i64 1)) 3, 4, _, #[⟨1, .data⟩], none⟩ (v := ?vb2) rfl (by kernel_rfl) (fun _ _ _ h => h) (Or.inl ⟨by rfl, ?hyb2⟩) (by assumption) ?_
    case hyb2 => (intro wz hSw; (try dsimp only at hSw); obtain ⟨z0, z1, z2, z3⟩ := cell4 hSw; go_simp; try with_reducible rfl)
    (try simp only [putz])
    refine WHt 3 ⟨some 8, .move (.tmp 7), 4, _, #[⟨2, .data⟩], none⟩ (v := ?vb3) rfl (by kernel_rfl) (fun _ _ _ h => h) (Or.inl ⟨by rfl, ?hyb3⟩) (by assumption) ?_
    case hyb3 => (intro wz hSw; (try dsimp only at hSw); obtain ⟨z0, z1, z2, z3⟩ := cell4 hSw; go_simp; try with_reducible rfl)
    (try simp only [putz])
    refine WHt 4 ⟨some 9, .fieldAddr 24 (.tmp 1) 0, 0, _, #[⟨3, .guard⟩], some (3, false)⟩ (v := ?vb4) rfl (by kernel_rfl) (fun _ _ _ h => h) (Or.inl ⟨by rfl, ?hyb4⟩) (by assumption) ?_
    case hyb4 => (intro wz hSw; (try dsimp only at hSw); obtain ⟨z0, z1, z2, z3⟩ := cell4 hSw; go_simp; try with_reducible rfl)
    (try simp only [putz])
    refine WHt 5 ⟨some 10, .load 3 (.tmp 9), 3, _, #[⟨4, .data⟩, ⟨3, .guard⟩], some (3, false)⟩ (v := ?vb5) rfl (by kernel_rfl) (fun _ _ _ h => h) (Or.inl ⟨by rfl, ?hyb5⟩) (by assumption) ?_
    case hyb5 => (intro wz hSw; (try dsimp only at hSw); obtain ⟨z0, z1, z2, z3⟩ := cell4 hSw; go_simp; try with_reducible rfl)
    (try simp only [putz])
    refine WHt 6 ⟨some 11, .binOp .gtr 3 (.tmp 10) (.const (.int .i64 7)) 3, 4, _, #[⟨5, .data⟩, ⟨3, .guard⟩], some (3, false)⟩ (v := ?vb6) rfl (by kernel_rfl) (fun _ _ _ h => h) (Or.inl ⟨by rfl, ?hyb6⟩) (by assumption) ?_
    case hyb6 => (intro wz hSw; (try dsimp only at hSw); obtain ⟨z0, z1, z2, z3⟩ := cell4 hSw; go_simp; try with_reducible rfl)
    (try simp only [putz])
    refine WHt 7 ⟨some 12, .pick (.tmp 8) (.const (.bool true)) (.tmp 11), 4, _, #[⟨3, .data⟩, ⟨6, .data⟩], none⟩ (v := ?vb7) rfl (by kernel_rfl) (fun _ _ _ h => h) (Or.inl ⟨by rfl, ?hyb7⟩) (by assumption) ?_
    case hyb7 => (intro wz hSw; (try dsimp only at hSw); obtain ⟨z0, z1, z2, z3⟩ := cell4 hSw; go_simp; try with_reducible rfl)
    (try simp only [putz])
    refine WHt 8 ⟨some 13, .move (.tmp 12), 4, _, #[⟨7, .data⟩, ⟨3, .chain⟩], none⟩ (v := ?vb8) rfl (by kernel_rfl) (fun _ _ _ h => h) (Or.inl ⟨by rfl, ?hyb8⟩) (by assumption) ?_
    case hyb8 => (intro wz hSw; (try dsimp only at hSw); obtain ⟨z0, z1, z2, z3⟩ := cell4 hSw; go_simp; try with_reducible rfl)
    (try simp only [putz])
    refine WHt 9 ⟨some 14, .fieldAddr 24 (.tmp 1) 3, 0, _, #[⟨8, .guard⟩], some (8, false)⟩ (v := undef) rfl (by kernel_rfl) (fun _ _ _ h => h) (Or.inr ⟨by rfl, rfl⟩) (by assumption) ?_
    (try simp only [putz])
    refine WHt 10 ⟨some 15, .load 22 (.tmp 14), 22, _, #[⟨9, .data⟩, ⟨8, .guard⟩], some (8, false)⟩ (v := undef) rfl (by kernel_rfl) (fun _ _ _ h => h) (Or.inr ⟨by rfl, rfl⟩) (by assumption) ?_
    (try simp only [putz])
    refine WHt 11 ⟨some 16, .call { callee := .builtin .len, args := #[.tmp 15], argTypes := #[22] }, 3, _, #[⟨10, .data⟩, ⟨8, .guard⟩], some (8, false)⟩ (v := undef) rfl (by kernel_rfl) (fun _ _ _ h => h) (Or.inr ⟨by rfl, rfl⟩) (by assumption) ?_
    (try simp only [putz])
    refine WHt 12 ⟨some 17, .fieldAddr 24 (.tmp 1) 0, 0, _, #[⟨8, .guard⟩], some (8, false)⟩ (v := undef) rfl (by kernel_rfl) (fun _ _ _ h => h) (Or.inr ⟨by rfl, rfl⟩) (by assumption) ?_
    (try simp only [putz])
    refine WHt 13 ⟨some 18, .load 3 (.tmp 17), 3, _, #[⟨12, .data⟩, ⟨8, .guard⟩], some (8, false)⟩ (v := undef) rfl (by kernel_rfl) (fun _ _ _ h => h) (Or.inr ⟨by rfl, rfl⟩) (by assumption) ?_
    (try simp only [putz])
    refine WHt 14 ⟨some 19, .call { callee := .value (.func 68), args := #[.tmp 18], argTypes := #[3] }, 3, _, #[⟨13, .data⟩, ⟨8, .chain⟩, ⟨8, .guard⟩], some (8, false)⟩ (v := undef) rfl (by kernel_rfl) (fun _ _ _ h => h) (Or.inr ⟨by rfl, rfl⟩) (by assumption) ?_
    (try simp only [putz])
    refine WHt 15 ⟨some 20, .binOp .neq 3 (.tmp 16) (.tmp 19) 3, 4, _, #[⟨11, .data⟩, ⟨14, .data⟩, ⟨8, .guard⟩], some (8, false)⟩ (v := undef) rfl (by kernel_rfl) (fun _ _ _ h => h) (Or.inr ⟨by rfl, rfl⟩) (by assumption) ?_
    (try simp only [putz])
    refine WHt 16 ⟨some 21, .pick (.tmp 13) (.const (.bool true)) (.tmp 20), 4, _, #[⟨8, .data⟩, ⟨15, .data⟩], none⟩ (v := ?vb16) rfl (by kernel_rfl) (fun _ _ _ h => h) (Or.inl ⟨by rfl, ?hyb16⟩) (by assumption) ?_
    case hyb16 => (intro wz hSw; (try dsimp only at hSw); obtain ⟨z0, z1, z2, z3⟩ := cell4 hSw; go_simp; try with_reducible rfl)
    (try simp only [putz])
    refine wpAnyH_done (by kernel_rfl) ?_ _
    go_wp2
    go_ret
    exact ⟨by rw [RES.out]; rfl, HB.out⟩
  have q2 := decide_eq_false h2
  by_cases h3 : (args.length : Int) = arT V.k
  rotate_left
  · have q3 : ((args.length : Int) == arT V.k) = false := beq_eq_false_iff_ne.2 h3
    have q3b : ((args.length : Int) != arT V.k) = true := by rw [bne, q3]; rfl
    have RES : Hid (shp V = false) := Lib.hid (by rw [shp_eq]; simp only [headOk]; rw [show decide ((V.args.length : Int) = arT V.k) = false from decide_eq_false (by rw [← HAR.out]; exact h3)]; simp)
    clear hA
    go_enter Tryz.func45, Tryz.ntmps45
    go_wp2_with fail
    refine wp_region_held_drew (S := fun w' => w'.heap[w.heap.size]? = some (.cells #[.int .i64 V.k, .string V.nm, .int .i64 V.vr, .slice A args.length c] 24 (0, 0))) (by kernel_rfl) ?_ (fun hHeld => ?_)
    · exact HBX.out
    refine WHt 0 ⟨some 5, .fieldAddr 24 (.tmp 1) 0, 0, _, #[], none⟩ (v := ?vc0) rfl (by kernel_rfl) (fun _ _ _ h => h) (Or.inl ⟨by rfl, ?hyc0⟩) (by assumption) ?_
    case hyc0 => (intro wz hSw; (try dsimp only at hSw); obtain ⟨z0, z1, z2, z3⟩ := cell4 hSw; go_simp; try with_reducible rfl)
    (try simp only [putz])
    refine WHt 1 ⟨some 6, .load 3 (.tmp 5), 3, _, #[⟨0, .data⟩], none⟩ (v := ?vc1) rfl (by kernel_rfl) (fun _ _ _ h => h) (Or.inl ⟨by rfl, ?hyc1⟩) (by assumption) ?_
    case hyc1 => (intro wz hSw; (try dsimp only at hSw); obtain ⟨z0, z1, z2, z3⟩ := cell4 hSw; go_simp; try with_reducible rfl)
    (try simp only [putz])
    refine WHt 2 ⟨some 7, .binOp .lss 3 (.tmp 6) (.const (.int .i64 1)) 3, 4, _, #[⟨1, .data⟩], none⟩ (v := ?vc2) rfl (by kernel_rfl) (fun _ _ _ h => h) (Or.inl ⟨by rfl, ?hyc2⟩) (by assumption) ?_
    case hyc2 => (intro wz hSw; (try dsimp only at hSw); obtain ⟨z0, z1, z2, z3⟩ := cell4 hSw; go_simp; try with_reducible rfl)
    (try simp only [putz])
    refine WHt 3 ⟨some 8, .move (.tmp 7), 4, _, #[⟨2, .data⟩], none⟩ (v := ?vc3) rfl (by kernel_rfl) (fun _ _ _ h => h) (Or.inl ⟨by rfl, ?hyc3⟩) (by assumption) ?_
    case hyc3 => (intro wz hSw; (try dsimp only at hSw); obtain ⟨z0, z1, z2, z3⟩ := cell4 hSw; go_simp; try with_reducible rfl)
    (try simp only [putz])
    refine WHt 4 ⟨some 9, .fieldAddr 24 (.tmp 1) 0, 0, _, #[⟨3, .guard⟩], some (3, false)⟩ (v := ?vc4) rfl (by kernel_rfl) (fun _ _ _ h => h) (Or.inl ⟨by rfl, ?hyc4⟩) (by assumption) ?_
    case hyc4 => (intro wz hSw; (try dsimp only at hSw); obtain ⟨z0, z1, z2, z3⟩ := cell4 hSw; go_simp; try with_reducible rfl)
    (try simp only [putz])
    refine WHt 5 ⟨some 10, .load 3 (.tmp 9), 3, _, #[⟨4, .data⟩, ⟨3, .guard⟩], some (3, false)⟩ (v := ?vc5) rfl (by kernel_rfl) (fun _ _ _ h => h) (Or.inl ⟨by rfl, ?hyc5⟩) (by assumption) ?_
    case hyc5 => (intro wz hSw; (try dsimp only at hSw); obtain ⟨z0, z1, z2, z3⟩ := cell4 hSw; go_simp; try with_reducible rfl)
    (try simp only [putz])
    refine WHt 6 ⟨some 11, .binOp .gtr 3 (.tmp 10) (.const (.int .i64 7)) 3, 4, _, #[⟨5, .data⟩, ⟨3, .guard⟩], some (3, false)⟩ (v := ?vc6) rfl (by kernel_rfl) (fun _ _ _ h => h) (Or.inl ⟨by rfl, ?hyc6⟩) (by assumption) ?_
    case hyc6 => (intro wz hSw; (try dsimp only at hSw); obtain ⟨z0, z1, z2, z3⟩ := cell4 hSw; go_simp; try with_reducible rfl)
    (try simp only [putz])
    refine WHt 7 ⟨some 12, .pick (.tmp 8) (.const (.bool true)) (.tmp 11), 4, _, #[⟨3, .data⟩, ⟨6, .data⟩], none⟩ (v := ?vc7) rfl (by kernel_rfl) (fun _ _ _ h => h) (Or.inl ⟨by rfl, ?hyc7⟩) (by assumption) ?_
    case hyc7 => (intro wz hSw; (try dsimp only at hSw); obtain ⟨z0, z1, z2, z3⟩ := cell4 hSw; go_simp; try with_reducible rfl)
    (try simp only [putz])
    refine WHt 8 ⟨some 13, .move (.tmp 12), 4, _, #[⟨7, .data⟩, ⟨3, .chain⟩], none⟩ (v := ?vc8) rfl (by kernel_rfl) (fun _ _ _ h => h) (Or.inl ⟨by rfl, ?hyc8⟩) (by assumption) ?_
    case hyc8 => (intro wz hSw; (try dsimp only at hSw); obtain ⟨z0, z1, z2, z3⟩ := cell4 hSw; go_simp; try with_reducible rfl)
    (try simp only [putz])
    refine WHt 9 ⟨some 14, .fieldAddr 24 (.tmp 1) 3, 0, _, #[⟨8, .guard⟩], some (8, false)⟩ (v := ?vc9) rfl (by kernel_rfl) (fun _ _ _ h => h) (Or.inl ⟨by rfl, ?hyc9⟩) (by assumption) ?_
    case hyc9 => (intro wz hSw; (try dsimp only at hSw); obtain ⟨z0, z1, z2, z3⟩ := cell4 hSw; go_simp; try with_reducible rfl)
    (try simp only [putz])
    refine WHt 10 ⟨some 15, .load 22 (.tmp 14), 22, _, #[⟨9, .data⟩, ⟨8, .guard⟩], some (8, false)⟩ (v := ?vc10) rfl (by kernel_rfl) (fun _ _ _ h => h) (Or.inl ⟨by rfl, ?hyc10⟩) (by assumption) ?_
    case hyc10 => (intro wz hSw; (try dsimp only at hSw); obtain ⟨z0, z1, z2, z3⟩ := cell4 hSw; go_simp; try with_reducible rfl)
    (try simp only [putz])
    refine WHt 11 ⟨some 16, .call { callee := .builtin .len, args := #[.tmp 15], argTypes := #[22] }, 3, _, #[⟨10, .data⟩, ⟨8, .guard⟩], some (8, false)⟩ (v := ?vc11) rfl (by kernel_rfl) (fun _ _ _ h => h) (Or.inl ⟨by rfl, ?hyc11⟩) (by assumption) ?_
    case hyc11 => (intro wz hSw; (try dsimp only at hSw); obtain ⟨z0, z1, z2, z3⟩ := cell4 hSw; go_simp; try with_reducible rfl)
    (try simp only [putz])
    refine WHt 12 ⟨some 17, .fieldAddr 24 (.tmp 1) 0, 0, _, #[⟨8, .guard⟩], some (8, false)⟩ (v := ?vc12) rfl (by kernel_rfl) (fun _ _ _ h => h) (Or.inl ⟨by rfl, ?hyc12⟩) (by assumption) ?_
    case hyc12 => (intro wz hSw; (try dsimp only at hSw); obtain ⟨z0, z1, z2, z3⟩ := cell4 hSw; go_simp; try with_reducible rfl)
    (try simp only [putz])
    refine WHt 13 ⟨some 18, .load 3 (.tmp 17), 3, _, #[⟨12, .data⟩, ⟨8, .guard⟩], some (8, false)⟩ (v := ?vc13) rfl (by kernel_rfl) (fun _ _ _ h => h) (Or.inl ⟨by rfl, ?hyc13⟩) (by assumption) ?_
    case hyc13 => (intro wz hSw; (try dsimp only at hSw); obtain ⟨z0, z1, z2, z3⟩ := cell4 hSw; go_simp; try with_reducible rfl)
    (try simp only [putz])
    refine wpAnyH_ready (rs := [14]) (by kernel_rfl) (by simp) ?_
    refine AllReadyH.cons (o := ⟨some 19, .call { callee := .value (.func 68), args := #[.tmp 18], argTypes := #[3] }, 3, _, #[⟨13, .data⟩, ⟨8, .chain⟩, ⟨8, .guard⟩], some (8, false)⟩) rfl (fun K hK => ?_) AllReadyH.nil
    go_simp
    refine (arity_any _ _).mono ?_; rintro e w1 ⟨rfl, rfl⟩
    go_wp2_with fail
    refine hK.out _ _ ?_ (fun hHeld => ?_)
    · exact HBX.out
    clear hK K
    (try simp only [putz])
    refine WHt 15 ⟨some 20, .binOp .neq 3 (.tmp 16) (.tmp 19) 3, 4, _, #[⟨11, .data⟩, ⟨14, .data⟩, ⟨8, .guard⟩], some (8, false)⟩ (v := ?vc15) rfl (by kernel_rfl) (fun _ _ _ h => h) (Or.inl ⟨by rfl, ?hyc15⟩) (by assumption) ?_
    case hyc15 => (intro wz hSw; (try dsimp only at hSw); obtain ⟨z0, z1, z2, z3⟩ := cell4 hSw; go_simp; try with_reducible rfl)
    (try simp only [putz])
    refine WHt 16 ⟨some 21, .pick (.tmp 13) (.const (.bool true)) (.tmp 20), 4, _, #[⟨8, .data⟩, ⟨15, .data⟩], none⟩ (v := ?vc16) rfl (by kernel_rfl) (fun _ _ _ h => h) (Or.inl ⟨by rfl, ?hyc16⟩) (by assumption) ?_
    case hyc16 => (intro wz hSw; (try dsimp only at hSw); obtain ⟨z0, z1, z2, z3⟩ := cell4 hSw; go_simp; try with_reducible rfl)
    (try simp only [putz])
    refine wpAnyH_done (by kernel_rfl) ?_ _
    go_wp2
    go_ret
    exact ⟨by rw [RES.out]; rfl, HB.out⟩
  have q3 : ((args.length : Int) == arT V.k) = true := by rw [h3]; exact beq_self_eq_true _
  have q3b : ((args.length : Int) != arT V.k) = false := by rw [bne, q3]; rfl
  by_cases h4 : emptyB V.nm = (V.k == 4)
  · have q4 : ((!V.nm.toList.isEmpty) == (V.k == 4)) = false := by
      have h4' : V.nm.toList.isEmpty = (V.k == 4) := h4
      rw [h4']; cases (V.k == 4) <;> rfl
    have q4b : ((!V.nm.toList.isEmpty) != (V.k == 4)) = true := by rw [bne, q4]; rfl
    have RES : Hid (shp V = false) := Lib.hid (by rw [shp_eq]; simp only [headOk]; rw [show ((!emptyB V.nm) == (V.k == 4)) = false from q4]; simp)
    clear hA
    go_enter Tryz.func45, Tryz.ntmps45
    go_wp2_with fail
    refine wp_region_held_drew (S := fun w' => w'.heap[w.heap.size]? = some (.cells #[.int .i64 V.k, .string V.nm, .int .i64 V.vr, .slice A args.length c] 24 (0, 0))) (by kernel_rfl) ?_ (fun hHeld => ?_)
    · exact HBX.out
    refine WHt 0 ⟨some 5, .fieldAddr 24 (.tmp 1) 0, 0, _, #[], none⟩ (v := ?vd0) rfl (by kernel_rfl) (fun _ _ _ h => h) (Or.inl ⟨by rfl, ?hyd0⟩) (by assumption) ?_
    case hyd0 => (intro wz hSw; (try dsimp only at hSw); obtain ⟨z0, z1, z2, z3⟩ := cell4 hSw; go_simp; try with_reducible rfl)
    (try simp only [putz])
    refine WHt 1 ⟨some 6, .load 3 (.tmp 5), 3, _, #[⟨0, .data⟩], none⟩ (v := ?vd1) rfl (by kernel_rfl) (fun _ _ _ h => h) (Or.inl ⟨by rfl, ?hyd1⟩) (by assumption) ?_
    case hyd1 => (intro wz hSw; (try dsimp only at hSw); obtain ⟨z0, z1, z2, z3⟩ := cell4 hSw; go_simp; try with_reducible rfl)
    (try simp only [putz])
    refine WHt 2 ⟨some 7, .binOp .lss 3 (.tmp 6) (.const (.int .i64 1)) 3, 4, _, #[⟨1, .data⟩], none⟩ (v := ?vd2) rfl (by kernel_rfl) (fun _ _ _ h => h) (Or.inl ⟨by rfl, ?hyd2⟩) (by assumption) ?_
    case hyd2 => (intro wz hSw; (try dsimp only at hSw); obtain ⟨z0, z1, z2, z3⟩ := cell4 hSw; go_simp; try with_reducible rfl)
    (try simp only [putz])
    refine WHt 3 ⟨some 8, .move (.tmp 7), 4, _, #[⟨2, .data⟩], none⟩ (v := ?vd3) rfl (by kernel_rfl) (fun _ _ _ h => h) (Or.inl ⟨by rfl, ?hyd3⟩) (by assumption) ?_
    case hyd3 => (intro wz hSw; (try dsimp only at hSw); obtain ⟨z0, z1, z2, z3⟩ := cell4 hSw; go_simp; try with_reducible rfl)
    (try simp only [putz])
    refine WHt 4 ⟨some 9, .fieldAddr 24 (.tmp 1) 0, 0, _, #[⟨3, .guard⟩], some (3, false)⟩ (v := ?vd4) rfl (by kernel_rfl) (fun _ _ _ h => h) (Or.inl ⟨by rfl, ?hyd4⟩) (by assumption) ?_
    case hyd4 => (intro wz hSw; (try dsimp only at hSw); obtain ⟨z0, z1, z2, z3⟩ := cell4 hSw; go_simp; try with_reducible rfl)
    (try simp only [putz])
    refine WHt 5 ⟨some 10, .load 3 (.tmp 9), 3, _, #[⟨4, .data⟩, ⟨3, .guard⟩], some (3, false)⟩ (v := ?vd5) rfl (by kernel_rfl) (fun _ _ _ h => h) (Or.inl ⟨by rfl, ?hyd5⟩) (by assumption) ?_
    case hyd5 => (intro wz hSw; (try dsimp only at hSw); obtain ⟨z0, z1, z2, z3⟩ := cell4 hSw; go_simp; try with_reducible rfl)
    (try simp only [putz])
    refine WHt 6 ⟨some 11, .binOp .gtr 3 (.tmp 10) (.const (.int .i64 7)) 3, 4, _, #[⟨5, .data⟩, ⟨3, .guard⟩], some (3, false)⟩ (v := ?vd6) rfl (by kernel_rfl) (fun _ _ _ h => h) (Or.inl ⟨by rfl, ?hyd6⟩) (by assumption) ?_
    case hyd6 => (intro wz hSw; (try dsimp only at hSw); obtain ⟨z0, z1, z2, z3⟩ := cell4 hSw; go_simp; try with_reducible rfl)
    (try simp only [putz])
    refine WHt 7 ⟨some 12, .pick (.tmp 8) (.const (.bool true)) (.tmp 11), 4, _, #[⟨3, .data⟩, ⟨6, .data⟩], none⟩ (v := ?vd7) rfl (by kernel_rfl) (fun _ _ _ h => h) (Or.inl ⟨by rfl, ?hyd7⟩) (by assumption) ?_
    case hyd7 => (intro wz hSw; (try dsimp only at hSw); obtain ⟨z0, z1, z2, z3⟩ := cell4 hSw; go_simp; try with_reducible rfl)
    (try simp only [putz])
    refine WHt 8 ⟨some 13, .move (.tmp 12), 4, _, #[⟨7, .data⟩, ⟨3, .chain⟩], none⟩ (v := ?vd8) rfl (by kernel_rfl) (fun _ _ _ h => h) (Or.inl ⟨by rfl, ?hyd8⟩) (by assumption) ?_
    case hyd8 => (intro wz hSw; (try dsimp only at hSw); obtain ⟨z0, z1, z2, z3⟩ := cell4 hSw; go_simp; try with_reducible rfl)
    (try simp only [putz])
    refine WHt 9 ⟨some 14, .fieldAddr 24 (.tmp 1) 3, 0, _, #[⟨8, .guard⟩], some (8, false)⟩ (v := ?vd9) rfl (by kernel_rfl) (fun _ _ _ h => h) (Or.inl ⟨by rfl, ?hyd9⟩) (by assumption) ?_
    case hyd9 => (intro wz hSw; (try dsimp only at hSw); obtain ⟨z0, z1, z2, z3⟩ := cell4 hSw; go_simp; try with_reducible rfl)
    (try simp only [putz])
    refine WHt 10 ⟨some 15, .load 22 (.tmp 14), 22, _, #[⟨9, .data⟩, ⟨8, .guard⟩], some (8, false)⟩ (v := ?vd10) rfl (by kernel_rfl) (fun _ _ _ h => h) (Or.inl ⟨by rfl, ?hyd10⟩) (by assumption) ?_
    case hyd10 => (intro wz hSw; (try dsimp only at hSw); obtain ⟨z0, z1, z2, z3⟩ := cell4 hSw; go_simp; try with_reducible rfl)
    (try simp only [putz])
    refine WHt 11 ⟨some 16, .call { callee := .builtin .len, args := #[.tmp 15], argTypes := #[22] }, 3, _, #[⟨10, .data⟩, ⟨8, .guard⟩], some (8, false)⟩ (v := ?vd11) rfl (by kernel_rfl) (fun _ _ _ h => h) (Or.inl ⟨by rfl, ?hyd11⟩) (by assumption) ?_
    case hyd11 => (intro wz hSw; (try dsimp only at hSw); obtain ⟨z0, z1, z2, z3⟩ := cell4 hSw; go_simp; try with_reducible rfl)
    (try simp only [putz])
    refine WHt 12 ⟨some 17, .fieldAddr 24 (.tmp 1) 0, 0, _, #[⟨8, .guard⟩], some (8, false)⟩ (v := ?vd12) rfl (by kernel_rfl) (fun _ _ _ h => h) (Or.inl ⟨by rfl, ?hyd12⟩) (by assumption) ?_
    case hyd12 => (intro wz hSw; (try dsimp only at hSw); obtain ⟨z0, z1, z2, z3⟩ := cell4 hSw; go_simp; try with_reducible rfl)
    (try simp only [putz])
    refine WHt 13 ⟨some 18, .load 3 (.tmp 17), 3, _, #[⟨12, .data⟩, ⟨8, .guard⟩], some (8, false)⟩ (v := ?vd13) rfl (by kernel_rfl) (fun _ _ _ h => h) (Or.inl ⟨by rfl, ?hyd13⟩) (by assumption) ?_
    case hyd13 => (intro wz hSw; (try dsimp only at hSw); obtain ⟨z0, z1, z2, z3⟩ := cell4 hSw; go_simp; try with_reducible rfl)
    (try simp only [putz])
    refine wpAnyH_ready (rs := [14]) (by kernel_rfl) (by simp) ?_
    refine AllReadyH.cons (o := ⟨some 19, .call { callee := .value (.func 68), args := #[.tmp 18], argTypes := #[3] }, 3, _, #[⟨13, .data⟩, ⟨8, .chain⟩, ⟨8, .guard⟩], some (8, false)⟩) rfl (fun K hK => ?_) AllReadyH.nil
    go_simp
    refine (arity_any _ _).mono ?_; rintro e w1 ⟨rfl, rfl⟩
    go_wp2_with fail
    refine hK.out _ _ ?_ (fun hHeld => ?_)
    · exact HBX.out
    clear hK K
    (try simp only [putz])
    refine WHt 15 ⟨some 20, .binOp .neq 3 (.tmp 16) (.tmp 19) 3, 4, _, #[⟨11, .data⟩, ⟨14, .data⟩, ⟨8, .guard⟩], some (8, false)⟩ (v := ?vd15) rfl (by kernel_rfl) (fun _ _ _ h => h) (Or.inl ⟨by rfl, ?hyd15⟩) (by assumption) ?_
    case hyd15 => (intro wz hSw; (try dsimp only at hSw); obtain ⟨z0, z1, z2, z3⟩ := cell4 hSw; go_simp; try with_reducible rfl)
    (try simp only [putz])
    refine WHt 16 ⟨some 21, .pick (.tmp 13) (.const (.bool true)) (.tmp 20), 4, _, #[⟨8, .data⟩, ⟨15, .data⟩], none⟩ (v := ?vd16) rfl (by kernel_rfl) (fun _ _ _ h => h) (Or.inl ⟨by rfl, ?hyd16⟩) (by assumption) ?_
    case hyd16 => (intro wz hSw; (try dsimp only at hSw); obtain ⟨z0, z1, z2, z3⟩ := cell4 hSw; go_simp; try with_reducible rfl)
    (try simp only [putz])
    refine wpAnyH_done (by kernel_rfl) ?_ _
    go_wp2
    go_ret
    exact ⟨by rw [RES.out]; rfl, HB.out⟩
  have q4 : ((!V.nm.toList.isEmpty) == (V.k == 4)) = true := by
    have h4' : ¬ V.nm.toList.isEmpty = (V.k == 4) := h4
    revert h4'
    cases V.nm.toList.isEmpty <;> cases (V.k == 4) <;> simp
  have q4b : ((!V.nm.toList.isEmpty) != (V.k == 4)) = false := by rw [bne, q4]; rfl
  by_cases h5 : V.vr < 0
  · have q5 := decide_eq_true h5
    have RES : Hid (shp V = false) := Lib.hid (by rw [shp_eq]; simp only [headOk]; rw [show decide (0 ≤ V.vr) = false from decide_eq_false (by omega)]; simp)
    clear hA
    go_enter Tryz.func45, Tryz.ntmps45
    go_wp2_with fail
    refine wp_region_held_drew (S := fun w' => w'.heap[w.heap.size]? = some (.cells #[.int .i64 V.k, .string V.nm, .int .i64 V.vr, .slice A args.length c] 24 (0, 0))) (by kernel_rfl) ?_ (fun hHeld => ?_)
    · exact HBX.out
    refine WHt 0 ⟨some 5, .fieldAddr 24 (.tmp 1) 0, 0, _, #[], none⟩ (v := ?ve0) rfl (by kernel_rfl) (fun _ _ _ h => h) (Or.inl ⟨by rfl, ?hye0⟩) (by assumption) ?_
    case hye0 => (intro wz hSw; (try dsimp only at hSw); obtain ⟨z0, z1, z2, z3⟩ := cell4 hSw; go_simp; try with_reducible rfl)
    (try simp only [putz])
    refine WHt 1 ⟨some 6, .load 3 (.tmp 5), 3, _, #[⟨0, .data⟩], none⟩ (v := ?ve1) rfl (by kernel_rfl) (fun _ _ _ h => h) (Or.inl ⟨by rfl, ?hye1⟩) (by assumption) ?_
    case hye1 => (intro wz hSw; (try dsimp only at hSw); obtain ⟨z0, z1, z2, z3⟩ := cell4 hSw; go_simp; try with_reducible rfl)
    (try simp only [putz])
    refine WHt 2 ⟨some 7, .binOp .lss 3 (.tmp 6) (.const (.int .i64 1)) 3, 4, _, #[⟨1, .data⟩], none⟩ (v := ?ve2) rfl (by kernel_rfl) (fun _ _ _ h => h) (Or.inl ⟨by rfl, ?hye2⟩) (by assumption) ?_
    case hye2 => (intro wz hSw; (try dsimp only at hSw); obtain ⟨z0, z1, z2, z3⟩ := cell4 hSw; go_simp; try with_reducible rfl)
    (try simp only [putz])
    refine WHt 3 ⟨some 8, .move (.tmp 7), 4, _, #[⟨2, .data⟩], none⟩ (v := ?ve3) rfl (by kernel_rfl) (fun _ _ _ h => h) (Or.inl ⟨by rfl, ?hye3⟩) (by assumption) ?_
    case hye3 => (intro wz hSw; (try dsimp only at hSw); obtain ⟨z0, z1, z2, z3⟩ := cell4 hSw; go_simp; try with_reducible rfl)
    (try simp only [putz])
    refine WHt 4 ⟨some 9, .fieldAddr 24 (.tmp 1) 0, 0, _, #[⟨3, .guard⟩], some (3, false)⟩ (v := ?ve4) rfl (by kernel_rfl) (fun _ _ _ h => h) (Or.inl ⟨by rfl, ?hye4⟩) (by assumption) ?_
    case hye4 => (intro wz hSw; (try dsimp only at hSw); obtain ⟨z0, z1, z2, z3⟩ := cell4 hSw; go_simp; try with_reducible rfl)
    (try simp only [putz])
    refine WHt 5 ⟨some 10, .load 3 (.tmp 9), 3, _, #[⟨4, .data⟩, ⟨3, .guard⟩], some (3, false)⟩ (v := ?ve5) rfl (by kernel_rfl) (fun _ _ _ h => h) (Or.inl ⟨by rfl, ?hye5⟩) (by assumption) ?_
    case hye5 => (intro wz hSw; (try dsimp only at hSw); obtain ⟨z0, z1, z2, z3⟩ := cell4 hSw; go_simp; try with_reducible rfl)
    (try simp only [putz])
    refine WHt 6 ⟨some 11, .binOp .gtr 3 (.tmp 10) (.const (.int .i64 7)) 3, 4, _, #[⟨5, .data⟩, ⟨3, .guard⟩], some (3, false)⟩ (v := ?ve6) rfl (by kernel_rfl) (fun _ _ _ h => h) (Or.inl ⟨by rfl, ?hye6⟩) (by assumption) ?_
    case hye6 => (intro wz hSw; (try dsimp only at hSw); obtain ⟨z0, z1, z2, z3⟩ := cell4 hSw; go_simp; try with_reducible rfl)
    (try simp only [putz])
    refine WHt 7 ⟨some 12, .pick (.tmp 8) (.const (.bool true)) (.tmp 11), 4, _, #[⟨3, .data⟩, ⟨6, .data⟩], none⟩ (v := ?ve7) rfl (by kernel_rfl) (fun _ _ _ h => h) (Or.inl ⟨by rfl, ?hye7⟩) (by assumption) ?_
    case hye7 => (intro wz hSw; (try dsimp only at hSw); obtain ⟨z0, z1, z2, z3⟩ := cell4 hSw; go_simp; try with_reducible rfl)
    (try simp only [putz])
    refine WHt 8 ⟨some 13, .move (.tmp 12), 4, _, #[⟨7, .data⟩, ⟨3, .chain⟩], none⟩ (v := ?ve8) rfl (by kernel_rfl) (fun _ _ _ h => h) (Or.inl ⟨by rfl, ?hye8⟩) (by assumption) ?_
    case hye8 => (intro wz hSw; (try dsimp only at hSw); obtain ⟨z0, z1, z2, z3⟩ := cell4 hSw; go_simp; try with_reducible rfl)
    (try simp only [putz])
    refine WHt 9 ⟨some 14, .fieldAddr 24 (.tmp 1) 3, 0, _, #[⟨8, .guard⟩], some (8, false)⟩ (v := ?ve9) rfl (by kernel_rfl) (fun _ _ _ h => h) (Or.inl ⟨by rfl, ?hye9⟩) (by assumption) ?_
    case hye9 => (intro wz hSw; (try dsimp only at hSw); obtain ⟨z0, z1, z2, z3⟩ := cell4 hSw; go_simp; try with_reducible rfl)
    (try simp only [putz])
    refine WHt 10 ⟨some 15, .load 22 (.tmp 14), 22, _, #[⟨9, .data⟩, ⟨8, .guard⟩], some (8, false)⟩ (v := ?ve10) rfl (by kernel_rfl) (fun _ _ _ h => h) (Or.inl ⟨by rfl, ?hye10⟩) (by assumption) ?_
    case hye10 => (intro wz hSw; (try dsimp only at hSw); obtain ⟨z0, z1, z2, z3⟩ := cell4 hSw; go_simp; try with_reducible rfl)
    (try simp only [putz])
    refine WHt 11 ⟨some 16, .call { callee := .builtin .len, args := #[.tmp 15], argTypes := #[22] }, 3, _, #[⟨10, .data⟩, ⟨8, .guard⟩], some (8, false)⟩ (v := ?ve11) rfl (by kernel_rfl) (fun _ _ _ h => h) (Or.inl ⟨by rfl, ?hye11⟩) (by assumption) ?_
    case hye11 => (intro wz hSw; (try dsimp only at hSw); obtain ⟨z0, z1, z2, z3⟩ := cell4 hSw; go_simp; try with_reducible rfl)
    (try simp only [putz])
    refine WHt 12 ⟨some 17, .fieldAddr 24 (.tmp 1) 0, 0, _, #[⟨8, .guard⟩], some (8, false)⟩ (v := ?ve12) rfl (by kernel_rfl) (fun _ _ _ h => h) (Or.inl ⟨by rfl, ?hye12⟩) (by assumption) ?_
    case hye12 => (intro wz hSw; (try dsimp only at hSw); obtain ⟨z0, z1, z2, z3⟩ := cell4 hSw; go_simp; try with_reducible rfl)
    (try simp only [putz])
    refine WHt 13 ⟨some 18, .load 3 (.tmp 17), 3, _, #[⟨12, .data⟩, ⟨8, .guard⟩], some (8, false)⟩ (v := ?ve13) rfl (by kernel_rfl) (fun _ _ _ h => h) (Or.inl ⟨by rfl, ?hye13⟩) (by assumption) ?_
    case hye13 => (intro wz hSw; (try dsimp only at hSw); obtain ⟨z0, z1, z2, z3⟩ := cell4 hSw; go_simp; try with_reducible rfl)
    (try simp only [putz])
    refine wpAnyH_ready (rs := [14]) (by kernel_rfl) (by simp) ?_
    refine AllReadyH.cons (o := ⟨some 19, .call { callee := .value (.func 68), args := #[.tmp 18], argTypes := #[3] }, 3, _, #[⟨13, .data⟩, ⟨8, .chain⟩, ⟨8, .guard⟩], some (8, false)⟩) rfl (fun K hK => ?_) AllReadyH.nil
    go_simp
    refine (arity_any _ _).mono ?_; rintro e w1 ⟨rfl, rfl⟩
    go_wp2_with fail
    refine hK.out _ _ ?_ (fun hHeld => ?_)
    · exact HBX.out
    clear hK K
    (try simp only [putz])
    refine WHt 15 ⟨some 20, .binOp .neq 3 (.tmp 16) (.tmp 19) 3, 4, _, #[⟨11, .data⟩, ⟨14, .data⟩, ⟨8, .guard⟩], some (8, false)⟩ (v := ?ve15) rfl (by kernel_rfl) (fun _ _ _ h => h) (Or.inl ⟨by rfl, ?hye15⟩) (by assumption) ?_
    case hye15 => (intro wz hSw; (try dsimp only at hSw); obtain ⟨z0, z1, z2, z3⟩ := cell4 hSw; go_simp; try with_reducible rfl)
    (try simp only [putz])
    refine WHt 16 ⟨some 21, .pick (.tmp 13) (.const (.bool true)) (.tmp 20), 4, _, #[⟨8, .data⟩, ⟨15, .data⟩], none⟩ (v := ?ve16) rfl (by kernel_rfl) (fun _ _ _ h => h) (Or.inl ⟨by rfl, ?hye16⟩) (by assumption) ?_
    case hye16 => (intro wz hSw; (try dsimp only at hSw); obtain ⟨z0, z1, z2, z3⟩ := cell4 hSw; go_simp; try with_reducible rfl)
    (try simp only [putz])
    refine wpAnyH_done (by kernel_rfl) ?_ _
    go_wp2
    go_ret
    exact ⟨by rw [RES.out]; rfl, HB.out⟩
  have q5 := decide_eq_false h5
  by_cases h6 : 1999 < V.vr
  · have q6 := decide_eq_true h6
    have RES : Hid (shp V = false) := Lib.hid (by rw [shp_eq]; simp only [headOk]; rw [show decide (V.vr ≤ 1999) = false from decide_eq_false (by omega)]; simp)
    clear hA
    go_enter Tryz.func45, Tryz.ntmps45
    go_wp2_with fail
    refine wp_region_held_drew (S := fun w' => w'.heap[w.heap.size]? = some (.cells #[.int .i64 V.k, .string V.nm, .int .i64 V.vr, .slice A args.length c] 24 (0, 0))) (by kernel_rfl) ?_ (fun hHeld => ?_)
    · exact HBX.out
    refine WHt 0 ⟨some 5, .fieldAddr 24 (.tmp 1) 0, 0, _, #[], none⟩ (v := ?vf0) rfl (by kernel_rfl) (fun _ _ _ h => h) (Or.inl ⟨by rfl, ?hyf0⟩) (by assumption) ?_
    case hyf0 => (intro wz hSw; (try dsimp only at hSw); obtain ⟨z0, z1, z2, z3⟩ := cell4 hSw; go_simp; try with_reducible rfl)
    (try simp only [putz])
    refine WHt 1 ⟨some 6, .load 3 (.tmp 5), 3, _, #[⟨0, .data⟩], none⟩ (v := ?vf1) rfl (by kernel_rfl) (fun _ _ _ h => h) (Or.inl ⟨by rfl, ?hyf1⟩) (by assumption) ?_
    case hyf1 => (intro wz hSw; (try dsimp only at hSw); obtain ⟨z0, z1, z2, z3⟩ := cell4 hSw; go_simp; try with_reducible rfl)
    (try simp only [putz])
    refine WHt 2 ⟨some 7, .binOp .lss 3 (.tmp 6) (.const (.int .i64 1)) 3, 4, _, #[⟨1, .data⟩], none⟩ (v := ?vf2) rfl (by kernel_rfl) (fun _ _ _ h => h) (Or.inl ⟨by rfl, ?hyf2⟩) (by assumption) ?_
    case hyf2 => (intro wz hSw; (try dsimp only at hSw); obtain ⟨z0, z1, z2, z3⟩ := cell4 hSw; go_simp; try with_reducible rfl)
    (try simp only [putz])
    refine WHt 3 ⟨some 8, .move (.tmp 7), 4, _, #[⟨2, .data⟩], none⟩ (v := ?vf3) rfl (by kernel_rfl) (fun _ _ _ h => h) (Or.inl ⟨by rfl, ?hyf3⟩) (by assumption) ?_
    case hyf3 => (intro wz hSw; (try dsimp only at hSw); obtain ⟨z0, z1, z2, z3⟩ := cell4 hSw; go_simp; try with_reducible rfl)
    (try simp only [putz])
    refine WHt 4 ⟨some 9, .fieldAddr 24 (.tmp 1) 0, 0, _, #[⟨3, .guard⟩], some (3, false)⟩ (v := ?vf4) rfl (by kernel_rfl) (fun _ _ _ h => h) (Or.inl ⟨by rfl, ?hyf4⟩) (by assumption) ?_
    case hyf4 => (intro wz hSw; (try dsimp only at hSw); obtain ⟨z0, z1, z2, z3⟩ := cell4 hSw; go_simp; try with_reducible rfl)
    (try simp only [putz])
    refine WHt 5 ⟨some 10, .load 3 (.tmp 9), 3, _, #[⟨4, .data⟩, ⟨3, .guard⟩], some (3, false)⟩ (v := ?vf5) rfl (by kernel_rfl) (fun _ _ _ h => h) (Or.inl ⟨by rfl, ?hyf5⟩) (by assumption) ?_
    case hyf5 => (intro wz hSw; (try dsimp only at hSw); obtain ⟨z0, z1, z2, z3⟩ := cell4 hSw; go_simp; try with_reducible rfl)
    (try simp only [putz])
    refine WHt 6 ⟨some 11, .binOp .gtr 3 (.tmp 10) (.const (.int .i64 7)) 3, 4, _, #[⟨5, .data⟩, ⟨3, .guard⟩], some (3, false)⟩ (v := ?vf6) rfl (by kernel_rfl) (fun _ _ _ h => h) (Or.inl ⟨by rfl, ?hyf6⟩) (by assumption) ?_
    case hyf6 => (intro wz hSw; (try dsimp only at hSw); obtain ⟨z0, z1, z2, z3⟩ := cell4 hSw; go_simp; try with_reducible rfl)
    (try simp only [putz])
    refine WHt 7 ⟨some 12, .pick (.tmp 8) (.const (.bool true)) (.tmp 11), 4, _, #[⟨3, .data⟩, ⟨6, .data⟩], none⟩ (v := ?vf7) rfl (by kernel_rfl) (fun _ _ _ h => h) (Or.inl ⟨by rfl, ?hyf7⟩) (by assumption) ?_
    case hyf7 => (intro wz hSw; (try dsimp only at hSw); obtain ⟨z0, z1, z2, z3⟩ := cell4 hSw; go_simp; try with_reducible rfl)
    (try simp only [putz])
    refine WHt 8 ⟨some 13, .move (.tmp 12), 4, _, #[⟨7, .data⟩, ⟨3, .chain⟩], none⟩ (v := ?vf8) rfl (by kernel_rfl) (fun _ _ _ h => h) (Or.inl ⟨by rfl, ?hyf8⟩) (by assumption) ?_
    case hyf8 => (intro wz hSw; (try dsimp only at hSw); obtain ⟨z0, z1, z2, z3⟩ := cell4 hSw; go_simp; try with_reducible rfl)
    (try simp only [putz])
    refine WHt 9 ⟨some 14, .fieldAddr 24 (.tmp 1) 3, 0, _, #[⟨8, .guard⟩], some (8, false)⟩ (v := ?vf9) rfl (by kernel_rfl) (fun _ _ _ h => h) (Or.inl ⟨by rfl, ?hyf9⟩) (by assumption) ?_
    case hyf9 => (intro wz hSw; (try dsimp only at hSw); obtain ⟨z0, z1, z2, z3⟩ := cell4 hSw; go_simp; try with_reducible rfl)
    (try simp only [putz])
    refine WHt 10 ⟨some 15, .load 22 (.tmp 14), 22, _, #[⟨9, .data⟩, ⟨8, .guard⟩], some (8, false)⟩ (v := ?vf10) rfl (by kernel_rfl) (fun _ _ _ h => h) (Or.inl ⟨by rfl, ?hyf10⟩) (by assumption) ?_
    case hyf10 => (intro wz hSw; (try dsimp only at hSw); obtain ⟨z0, z1, z2, z3⟩ := cell4 hSw; go_simp; try with_reducible rfl)
    (try simp only [putz])
    refine WHt 11 ⟨some 16, .call { callee := .builtin .len, args := #[.tmp 15], argTypes := #[22] }, 3, _, #[⟨10, .data⟩, ⟨8, .guard⟩], some (8, false)⟩ (v := ?vf11) rfl (by kernel_rfl) (fun _ _ _ h => h) (Or.inl ⟨by rfl, ?hyf11⟩) (by assumption) ?_
    case hyf11 => (intro wz hSw; (try dsimp only at hSw); obtain ⟨z0, z1, z2, z3⟩ := cell4 hSw; go_simp; try with_reducible rfl)
    (try simp only [putz])
    refine WHt 12 ⟨some 17, .fieldAddr 24 (.tmp 1) 0, 0, _, #[⟨8, .guard⟩], some (8, false)⟩ (v := ?vf12) rfl (by kernel_rfl) (fun _ _ _ h => h) (Or.inl ⟨by rfl, ?hyf12⟩) (by assumption) ?_
    case hyf12 => (intro wz hSw; (try dsimp only at hSw); obtain ⟨z0, z1, z2, z3⟩ := cell4 hSw; go_simp; try with_reducible rfl)
    (try simp only [putz])
    refine WHt 13 ⟨some 18, .load 3 (.tmp 17), 3, _, #[⟨12, .data⟩, ⟨8, .guard⟩], some (8, false)⟩ (v := ?vf13) rfl (by kernel_rfl) (fun _ _ _ h => h) (Or.inl ⟨by rfl, ?hyf13⟩) (by assumption) ?_
    case hyf13 => (intro wz hSw; (try dsimp only at hSw); obtain ⟨z0, z1, z2, z3⟩ := cell4 hSw; go_simp; try with_reducible rfl)
    (try simp only [putz])
    refine wpAnyH_ready (rs := [14]) (by kernel_rfl) (by simp) ?_
    refine AllReadyH.cons (o := ⟨some 19, .call { callee := .value (.func 68), args := #[.tmp 18], argTypes := #[3] }, 3, _, #[⟨13, .data⟩, ⟨8, .chain⟩, ⟨8, .guard⟩], some (8, false)⟩) rfl (fun K hK => ?_) AllReadyH.nil
    go_simp
    refine (arity_any _ _).mono ?_; rintro e w1 ⟨rfl, rfl⟩
    go_wp2_with fail
    refine hK.out _ _ ?_ (fun hHeld => ?_)
    · exact HBX.out
    clear hK K
    (try simp only [putz])
    refine WHt 15 ⟨some 20, .binOp .neq 3 (.tmp 16) (.tmp 19) 3, 4, _, #[⟨11, .data⟩, ⟨14, .data⟩, ⟨8, .guard⟩], some (8, false)⟩ (v := ?vf15) rfl (by kernel_rfl) (fun _ _ _ h => h) (Or.inl ⟨by rfl, ?hyf15⟩) (by assumption) ?_
    case hyf15 => (intro wz hSw; (try dsimp only at hSw); obtain ⟨z0, z1, z2, z3⟩ := cell4 hSw; go_simp; try with_reducible rfl)
    (try simp only [putz])
    refine WHt 16 ⟨some 21, .pick (.tmp 13) (.const (.bool true)) (.tmp 20), 4, _, #[⟨8, .data⟩, ⟨15, .data⟩], none⟩ (v := ?vf16) rfl (by kernel_rfl) (fun _ _ _ h => h) (Or.inl ⟨by rfl, ?hyf16⟩) (by assumption) ?_
    case hyf16 => (intro wz hSw; (try dsimp only at hSw); obtain ⟨z0, z1, z2, z3⟩ := cell4 hSw; go_simp; try with_reducible rfl)
    (try simp only [putz])
    refine wpAnyH_done (by kernel_rfl) ?_ _
    go_wp2
    go_ret
    exact ⟨by rw [RES.out]; rfl, HB.out⟩
  have q6 := decide_eq_false h6
  by_cases h7 : V.vr ≠ 0 ∧ V.k ≠ 7
  · have q7 : (V.vr == 0) = false := beq_eq_false_iff_ne.2 h7.1
    have q7b : (V.vr != 0) = true := by rw [bne, q7]; rfl
    have q8 : (V.k == 7) = false := beq_eq_false_iff_ne.2 h7.2
    have q8b : (V.k != 7) = true := by rw [bne, q8]; rfl
    have RES : Hid (shp V = false) := Lib.hid (by rw [shp_eq]; simp only [headOk]; rw [q7, q8]; simp)
    clear hA
    go_enter Tryz.func45, Tryz.ntmps45
    go_wp2_with fail
    refine wp_region_held_drew (S := fun w' => w'.heap[w.heap.size]? = some (.cells #[.int .i64 V.k, .string V.nm, .int .i64 V.vr, .slice A args.length c] 24 (0, 0))) (by kernel_rfl) ?_ (fun hHeld => ?_)
    · exact HBX.out
    refine WHt 0 ⟨some 5, .fieldAddr 24 (.tmp 1) 0, 0, _, #[], none⟩ (v := ?vg0) rfl (by kernel_rfl) (fun _ _ _ h => h) (Or.inl ⟨by rfl, ?hyg0⟩) (by assumption) ?_
    case hyg0 => (intro wz hSw; (try dsimp only at hSw); obtain ⟨z0, z1, z2, z3⟩ := cell4 hSw; go_simp; try with_reducible rfl)
    (try simp only [putz])
    refine WHt 1 ⟨some 6, .load 3 (.tmp 5), 3, _, #[⟨0, .data⟩], none⟩ (v := ?vg1) rfl (by kernel_rfl) (fun _ _ _ h => h) (Or.inl ⟨by rfl, ?hyg1⟩) (by assumption) ?_
    case hyg1 => (intro wz hSw; (try dsimp only at hSw); obtain ⟨z0, z1, z2, z3⟩ := cell4 hSw; go_simp; try with_reducible rfl)
    (try simp only [putz])
    refine WHt 2 ⟨some 7, .binOp .lss 3 (.tmp 6) (.const (.int .i64 1)) 3, 4, _, #[⟨1, .data⟩], none⟩ (v := ?vg2) rfl (by kernel_rfl) (fun _ _ _ h => h) (Or.inl ⟨by rfl, ?hyg2⟩) (by assumption) ?_
    case hyg2 => (intro wz hSw; (try dsimp only at hSw); obtain ⟨z0, z1, z2, z3⟩ := cell4 hSw; go_simp; try with_reducible rfl)
    (try simp only [putz])
    refine WHt 3 ⟨some 8, .move (.tmp 7), 4, _, #[⟨2, .data⟩], none⟩ (v := ?vg3) rfl (by kernel_rfl) (fun _ _ _ h => h) (Or.inl ⟨by rfl, ?hyg3⟩) (by assumption) ?_
    case hyg3 => (intro wz hSw; (try dsimp only at hSw); obtain ⟨z0, z1, z2, z3⟩ := cell4 hSw; go_simp; try with_reducible rfl)
    (try simp only [putz])
    refine WHt 4 ⟨some 9, .fieldAddr 24 (.tmp 1) 0, 0, _, #[⟨3, .guard⟩], some (3, false)⟩ (v := ?vg4) rfl (by kernel_rfl) (fun _ _ _ h => h) (Or.inl ⟨by rfl, ?hyg4⟩) (by assumption) ?_
    case hyg4 => (intro wz hSw; (try dsimp only at hSw); obtain ⟨z0, z1, z2, z3⟩ := cell4 hSw; go_simp; try with_reducible rfl)
    (try simp only [putz])
    refine WHt 5 ⟨some 10, .load 3 (.tmp 9), 3, _, #[⟨4, .data⟩, ⟨3, .guard⟩], some (3, false)⟩ (v := ?vg5) rfl (by kernel_rfl) (fun _ _ _ h => h) (Or.inl ⟨by rfl, ?hyg5⟩) (by assumption) ?_
    case hyg5 => (intro wz hSw; (try dsimp only at hSw); obtain ⟨z0, z1, z2, z3⟩ := cell4 hSw; go_simp; try with_reducible rfl)
    (try simp only [putz])
    refine WHt 6 ⟨some 11, .binOp .gtr 3 (.tmp 10) (.const (.int .i64 7)) 3, 4, _, #[⟨5, .data⟩, ⟨3, .guard⟩], some (3, false)⟩ (v := ?vg6) rfl (by kernel_rfl) (fun _ _ _ h => h) (Or.inl ⟨by rfl, ?hyg6⟩) (by assumption) ?_
    case hyg6 => (intro wz hSw; (try dsimp only at hSw); obtain ⟨z0, z1, z2, z3⟩ := cell4 hSw; go_simp; try with_reducible rfl)
    (try simp only [putz])
    refine WHt 7 ⟨some 12, .pick (.tmp 8) (.const (.bool true)) (.tmp 11), 4, _, #[⟨3, .data⟩, ⟨6, .data⟩], none⟩ (v := ?vg7) rfl (by kernel_rfl) (fun _ _ _ h => h) (Or.inl ⟨by rfl, ?hyg7⟩) (by assumption) ?_
    case hyg7 => (intro wz hSw; (try dsimp only at hSw); obtain ⟨z0, z1, z2, z3⟩ := cell4 hSw; go_simp; try with_reducible rfl)
    (try simp only [putz])
    refine WHt 8 ⟨some 13, .move (.tmp 12), 4, _, #[⟨7, .data⟩, ⟨3, .chain⟩], none⟩ (v := ?vg8) rfl (by kernel_rfl) (fun _ _ _ h => h) (Or.inl ⟨by rfl, ?hyg8⟩) (by assumption) ?_
    case hyg8 => (intro wz hSw; (try dsimp only at hSw); obtain ⟨z0, z1, z2, z3⟩ := cell4 hSw; go_simp; try with_reducible rfl)
    (try simp only [putz])
    refine WHt 9 ⟨some 14, .fieldAddr 24 (.tmp 1) 3, 0, _, #[⟨8, .guard⟩], some (8, false)⟩ (v := ?vg9) rfl (by kernel_rfl) (fun _ _ _ h => h) (Or.inl ⟨by rfl, ?hyg9⟩) (by assumption) ?_
    case hyg9 => (intro wz hSw; (try dsimp only at hSw); obtain ⟨z0, z1, z2, z3⟩ := cell4 hSw; go_simp; try with_reducible rfl)
    (try simp only [putz])
    refine WHt 10 ⟨some 15, .load 22 (.tmp 14), 22, _, #[⟨9, .data⟩, ⟨8, .guard⟩], some (8, false)⟩ (v := ?vg10) rfl (by kernel_rfl) (fun _ _ _ h => h) (Or.inl ⟨by rfl, ?hyg10⟩) (by assumption) ?_
    case hyg10 => (intro wz hSw; (try dsimp only at hSw); obtain ⟨z0, z1, z2, z3⟩ := cell4 hSw; go_simp; try with_reducible rfl)
    (try simp only [putz])
    refine WHt 11 ⟨some 16, .call { callee := .builtin .len, args := #[.tmp 15], argTypes := #[22] }, 3, _, #[⟨10, .data⟩, ⟨8, .guard⟩], some (8, false)⟩ (v := ?vg11) rfl (by kernel_rfl) (fun _ _ _ h => h) (Or.inl ⟨by rfl, ?hyg11⟩) (by assumption) ?_
    case hyg11 => (intro wz hSw; (try dsimp only at hSw); obtain ⟨z0, z1, z2, z3⟩ := cell4 hSw; go_simp; try with_reducible rfl)
    (try simp only [putz])
    refine WHt 12 ⟨some 17, .fieldAddr 24 (.tmp 1) 0, 0, _, #[⟨8, .guard⟩], some (8, false)⟩ (v := ?vg12) rfl (by kernel_rfl) (fun _ _ _ h => h) (Or.inl ⟨by rfl, ?hyg12⟩) (by assumption) ?_
    case hyg12 => (intro wz hSw; (try dsimp only at hSw); obtain ⟨z0, z1, z2, z3⟩ := cell4 hSw; go_simp; try with_reducible rfl)
    (try simp only [putz])
    refine WHt 13 ⟨some 18, .load 3 (.tmp 17), 3, _, #[⟨12, .data⟩, ⟨8, .guard⟩], some (8, false)⟩ (v := ?vg13) rfl (by kernel_rfl) (fun _ _ _ h => h) (Or.inl ⟨by rfl, ?hyg13⟩) (by assumption) ?_
    case hyg13 => (intro wz hSw; (try dsimp only at hSw); obtain ⟨z0, z1, z2, z3⟩ := cell4 hSw; go_simp; try with_reducible rfl)
    (try simp only [putz])
    refine wpAnyH_ready (rs := [14]) (by kernel_rfl) (by simp) ?_
    refine AllReadyH.cons (o := ⟨some 19, .call { callee := .value (.func 68), args := #[.tmp 18], argTypes := #[3] }, 3, _, #[⟨13, .data⟩, ⟨8, .chain⟩, ⟨8, .guard⟩], some (8, false)⟩) rfl (fun K hK => ?_) AllReadyH.nil
    go_simp
    refine (arity_any _ _).mono ?_; rintro e w1 ⟨rfl, rfl⟩
    go_wp2_with fail
    refine hK.out _ _ ?_ (fun hHeld => ?_)
    · exact HBX.out
    clear hK K
    (try simp only [putz])
    refine WHt 15 ⟨some 20, .binOp .neq 3 (.tmp 16) (.tmp 19) 3, 4, _, #[⟨11, .data⟩, ⟨14, .data⟩, ⟨8, .guard⟩], some (8, false)⟩ (v := ?vg15) rfl (by kernel_rfl) (fun _ _ _ h => h) (Or.inl ⟨by rfl, ?hyg15⟩) (by assumption) ?_
    case hyg15 => (intro wz hSw; (try dsimp only at hSw); obtain ⟨z0, z1, z2, z3⟩ := cell4 hSw; go_simp; try with_reducible rfl)
    (try simp only [putz])
    refine WHt 16 ⟨some 21, .pick (.tmp 13) (.const (.bool true)) (.tmp 20), 4, _, #[⟨8, .data⟩, ⟨15, .data⟩], none⟩ (v := ?vg16) rfl (by kernel_rfl) (fun _ _ _ h => h) (Or.inl ⟨by rfl, ?hyg16⟩) (by assumption) ?_
    case hyg16 => (intro wz hSw; (try dsimp only at hSw); obtain ⟨z0, z1, z2, z3⟩ := cell4 hSw; go_simp; try with_reducible rfl)
    (try simp only [putz])
    refine wpAnyH_done (by kernel_rfl) ?_ _
    go_wp2
    go_ret
    exact ⟨by rw [RES.out]; rfl, HB.out⟩
  have HOK : Hid (headOk V = true) := Lib.hid (by
    simp only [headOk]
    rw [show decide (1 ≤ V.k) = true from decide_eq_true (by omega), show decide (V.k ≤ 7) = true from decide_eq_true (by omega), show decide ((V.args.length : Int) = arT V.k) = true from decide_eq_true (by rw [← HAR.out]; exact h3), show ((!emptyB V.nm) == (V.k == 4)) = true from q4, show decide (0 ≤ V.vr) = true from decide_eq_true (by omega), show decide (V.vr ≤ 1999) = true from decide_eq_true (by omega)]
    by_cases h8 : V.vr = 0
    · rw [h8]; rfl
    · have h9 : V.k = 7 := by
        by_cases h9 : V.k = 7
        · exact h9
        · exact absurd ⟨h8, h9⟩ h7
      rw [h9]; simp)
  have SHP : Hid (shp V = shpL args) := Lib.hid (by rw [shp_eq, HOK.out, ← HAR.out]; rfl)
  have q78 : ((V.vr == 0) = true ∧ (V.vr != 0) = false) ∨ ((V.vr == 0) = false ∧ (V.vr != 0) = true ∧ (V.k == 7) = true ∧ (V.k != 7) = false) := by
    by_cases h8 : V.vr = 0
    · left; rw [h8]; exact ⟨rfl, rfl⟩
    · right
      have h9 : V.k = 7 := by
        by_cases h9 : V.k = 7
        · exact h9
        · exact absurd ⟨h8, h9⟩ h7
      have e : (V.vr == 0) = false := beq_eq_false_iff_ne.2 h8
      refine ⟨e, by rw [bne, e]; rfl, by rw [h9]; rfl, by rw [h9]; rfl⟩
  have HA := Lib.hid hA
  clear hA h1 h2 h3 h4 h5 h6 h7 HOK HAR
  rcases q78 with ⟨q7, q7b⟩ | ⟨q7, q7b, q8, q8b⟩
  · go_enter Tryz.func45, Tryz.ntmps45
    go_wp2_with fail
    refine wp_region_held_drew (S := fun w' => w'.heap[w.heap.size]? = some (.cells #[.int .i64 V.k, .string V.nm, .int .i64 V.vr, .slice A args.length c] 24 (0, 0))) (by kernel_rfl) ?_ (fun hHeld => ?_)
    · exact HBX.out
    refine WHt 0 ⟨some 5, .fieldAddr 24 (.tmp 1) 0, 0, _, #[], none⟩ (v := ?vh0) rfl (by kernel_rfl) (fun _ _ _ h => h) (Or.inl ⟨by rfl, ?hyh0⟩) (by assumption) ?_
    case hyh0 => (intro wz hSw; (try dsimp only at hSw); obtain ⟨z0, z1, z2, z3⟩ := cell4 hSw; go_simp; try with_reducible rfl)
    (try simp only [putz])
    refine WHt 1 ⟨some 6, .load 3 (.tmp 5), 3, _, #[⟨0, .data⟩], none⟩ (v := ?vh1) rfl (by kernel_rfl) (fun _ _ _ h => h) (Or.inl ⟨by rfl, ?hyh1⟩) (by assumption) ?_
    case hyh1 => (intro wz hSw; (try dsimp only at hSw); obtain ⟨z0, z1, z2, z3⟩ := cell4 hSw; go_simp; try with_reducible rfl)
    (try simp only [putz])
    refine WHt 2 ⟨some 7, .binOp .lss 3 (.tmp 6) (.const (.int .i64 1)) 3, 4, _, #[⟨1, .data⟩], none⟩ (v := ?vh2) rfl (by kernel_rfl) (fun _ _ _ h => h) (Or.inl ⟨by rfl, ?hyh2⟩) (by assumption) ?_
    case hyh2 => (intro wz hSw; (try dsimp only at hSw); obtain ⟨z0, z1, z2, z3⟩ := cell4 hSw; go_simp; try with_reducible rfl)
    (try simp only [putz])
    refine WHt 3 ⟨some 8, .move (.tmp 7), 4, _, #[⟨2, .data⟩], none⟩ (v := ?vh3) rfl (by kernel_rfl) (fun _ _ _ h => h) (Or.inl ⟨by rfl, ?hyh3⟩) (by assumption) ?_
    case hyh3 => (intro wz hSw; (try dsimp only at hSw); obtain ⟨z0, z1, z2, z3⟩ := cell4 hSw; go_simp; try with_reducible rfl)
    (try simp only [putz])
    refine WHt 4 ⟨some 9, .fieldAddr 24 (.tmp 1) 0, 0, _, #[⟨3, .guard⟩], some (3, false)⟩ (v := ?vh4) rfl (by kernel_rfl) (fun _ _ _ h => h) (Or.inl ⟨by rfl, ?hyh4⟩) (by assumption) ?_
    case hyh4 => (intro wz hSw; (try dsimp only at hSw); obtain ⟨z0, z1, z2, z3⟩ := cell4 hSw; go_simp; try with_reducible rfl)
    (try simp only [putz])
    refine WHt 5 ⟨some 10, .load 3 (.tmp 9), 3, _, #[⟨4, .data⟩, ⟨3, .guard⟩], some (3, false)⟩ (v := ?vh5) rfl (by kernel_rfl) (fun _ _ _ h => h) (Or.inl ⟨by rfl, ?hyh5⟩) (by assumption) ?_
    case hyh5 => (intro wz hSw; (try dsimp only at hSw); obtain ⟨z0, z1, z2, z3⟩ := cell4 hSw; go_simp; try with_reducible rfl)
    (try simp only [putz])
    refine WHt 6 ⟨some 11, .binOp .gtr 3 (.tmp 10) (.const (.int .i64 7)) 3, 4, _, #[⟨5, .data⟩, ⟨3, .guard⟩], some (3, false)⟩ (v := ?vh6) rfl (by kernel_rfl) (fun _ _ _ h => h) (Or.inl ⟨by rfl, ?hyh6⟩) (by assumption) ?_
    case hyh6 => (intro wz hSw; (try dsimp only at hSw); obtain ⟨z0, z1, z2, z3⟩ := cell4 hSw; go_simp; try with_reducible rfl)
    (try simp only [putz])
    refine WHt 7 ⟨some 12, .pick (.tmp 8) (.const (.bool true)) (.tmp 11), 4, _, #[⟨3, .data⟩, ⟨6, .data⟩], none⟩ (v := ?vh7) rfl (by kernel_rfl) (fun _ _ _ h => h) (Or.inl ⟨by rfl, ?hyh7⟩) (by assumption) ?_
    case hyh7 => (intro wz hSw; (try dsimp only at hSw); obtain ⟨z0, z1, z2, z3⟩ := cell4 hSw; go_simp; try with_reducible rfl)
    (try simp only [putz])
    refine WHt 8 ⟨some 13, .move (.tmp 12), 4, _, #[⟨7, .data⟩, ⟨3, .chain⟩], none⟩ (v := ?vh8) rfl (by kernel_rfl) (fun _ _ _ h => h) (Or.inl ⟨by rfl, ?hyh8⟩) (by assumption) ?_
    case hyh8 => (intro wz hSw; (try dsimp only at hSw); obtain ⟨z0, z1, z2, z3⟩ := cell4 hSw; go_simp; try with_reducible rfl)
    (try simp only [putz])
    refine WHt 9 ⟨some 14, .fieldAddr 24 (.tmp 1) 3, 0, _, #[⟨8, .guard⟩], some (8, false)⟩ (v := ?vh9) rfl (by kernel_rfl) (fun _ _ _ h => h) (Or.inl ⟨by rfl, ?hyh9⟩) (by assumption) ?_
    case hyh9 => (intro wz hSw; (try dsimp only at hSw); obtain ⟨z0, z1, z2, z3⟩ := cell4 hSw; go_simp; try with_reducible rfl)
    (try simp only [putz])
    refine WHt 10 ⟨some 15, .load 22 (.tmp 14), 22, _, #[⟨9, .data⟩, ⟨8, .guard⟩], some (8, false)⟩ (v := ?vh10) rfl (by kernel_rfl) (fun _ _ _ h => h) (Or.inl ⟨by rfl, ?hyh10⟩) (by assumption) ?_
    case hyh10 => (intro wz hSw; (try dsimp only at hSw); obtain ⟨z0, z1, z2, z3⟩ := cell4 hSw; go_simp; try with_reducible rfl)
    (try simp only [putz])
    refine WHt 11 ⟨some 16, .call { callee := .builtin .len, args := #[.tmp 15], argTypes := #[22] }, 3, _, #[⟨10, .data⟩, ⟨8, .guard⟩], some (8, false)⟩ (v := ?vh11) rfl (by kernel_rfl) (fun _ _ _ h => h) (Or.inl ⟨by rfl, ?hyh11⟩) (by assumption) ?_
    case hyh11 => (intro wz hSw; (try dsimp only at hSw); obtain ⟨z0, z1, z2, z3⟩ := cell4 hSw; go_simp; try with_reducible rfl)
    (try simp only [putz])
    refine WHt 12 ⟨some 17, .fieldAddr 24 (.tmp 1) 0, 0, _, #[⟨8, .guard⟩], some (8, false)⟩ (v := ?vh12) rfl (by kernel_rfl) (fun _ _ _ h => h) (Or.inl ⟨by rfl, ?hyh12⟩) (by assumption) ?_
    case hyh12 => (intro wz hSw; (try dsimp only at hSw); obtain ⟨z0, z1, z2, z3⟩ := cell4 hSw; go_simp; try with_reducible rfl)
    (try simp only [putz])
    refine WHt 13 ⟨some 18, .load 3 (.tmp 17), 3, _, #[⟨12, .data⟩, ⟨8, .guard⟩], some (8, false)⟩ (v := ?vh13) rfl (by kernel_rfl) (fun _ _ _ h => h) (Or.inl ⟨by rfl, ?hyh13⟩) (by assumption) ?_
    case hyh13 => (intro wz hSw; (try dsimp only at hSw); obtain ⟨z0, z1, z2, z3⟩ := cell4 hSw; go_simp; try with_reducible rfl)
    (try simp only [putz])
    refine wpAnyH_ready (rs := [14]) (by kernel_rfl) (by simp) ?_
    refine AllReadyH.cons (o := ⟨some 19, .call { callee := .value (.func 68), args := #[.tmp 18], argTypes := #[3] }, 3, _, #[⟨13, .data⟩, ⟨8, .chain⟩, ⟨8, .guard⟩], some (8, false)⟩) rfl (fun K hK => ?_) AllReadyH.nil
    go_simp
    refine (arity_any _ _).mono ?_; rintro e w1 ⟨rfl, rfl⟩
    go_wp2_with fail
    refine hK.out _ _ ?_ (fun hHeld => ?_)
    · exact HBX.out
    clear hK K
    (try simp only [putz])
    refine WHt 15 ⟨some 20, .binOp .neq 3 (.tmp 16) (.tmp 19) 3, 4, _, #[⟨11, .data⟩, ⟨14, .data⟩, ⟨8, .guard⟩], some (8, false)⟩ (v := ?vh15) rfl (by kernel_rfl) (fun _ _ _ h => h) (Or.inl ⟨by rfl, ?hyh15⟩) (by assumption) ?_
    case hyh15 => (intro wz hSw; (try dsimp only at hSw); obtain ⟨z0, z1, z2, z3⟩ := cell4 hSw; go_simp; try with_reducible rfl)
    (try simp only [putz])
    refine WHt 16 ⟨some 21, .pick (.tmp 13) (.const (.bool true)) (.tmp 20), 4, _, #[⟨8, .data⟩, ⟨15, .data⟩], none⟩ (v := ?vh16) rfl (by kernel_rfl) (fun _ _ _ h => h) (Or.inl ⟨by rfl, ?hyh16⟩) (by assumption) ?_
    case hyh16 => (intro wz hSw; (try dsimp only at hSw); obtain ⟨z0, z1, z2, z3⟩ := cell4 hSw; go_simp; try with_reducible rfl)
    (try simp only [putz])
    refine wpAnyH_done (by kernel_rfl) ?_ _
    have c3x := (cell4 hBX).2.2.2
    have c0x := (cell4 hBX).1
    have c1x := (cell4 hBX).2.1
    have c2x := (cell4 hBX).2.2.1
    clear hBX hHeld
    go_wp2
    go_loopw [50] (fun i wr => ShI w V args A c i wr) (fun i _ => args.length - (intOf i).toNat)
    case atStart => exact ⟨0, by omega, rfl, Lib.hid (by simp [shpL]), HB⟩
    case round =>
      obtain ⟨k, hk, rfl, HNO, HW⟩ := hrel
      clear c0x c1x c2x c3x q1 q2 q3 q3b q4 q4b q5 q6 q7 q7b
      by_cases hlt : k < args.length
      · have hlti : (k : Int) < (args.length : Int) := by omega
        obtain ⟨b, o, rfl, hb, hr⟩ := HA.out.at (by omega)
        obtain ⟨A', c', x0, x1, x2, x3, hin⟩ := hr wr HW.out k hlt
        have CALL : Hid (∀ W, Below wr.heap.size wr W → Calls Tryz.prog 45 #[.agg #[.int .i64 args[k].k, .string args[k].nm, .int .i64 args[k].vr, .slice A' args[k].args.length c']] W fun e w' => e = .returned (.bool (shp args[k])) ∧ Below W.heap.size W w') := Lib.hid (fun W hW => HI.out args[k] _ W (HBG.out _ (List.getElem_mem hlt)) (hin.later hW))
        clear hr hin hb HI
        cases hd : shp args[k]
        · rw [hd] at CALL
          have HN2 : Hid (shpL args = false) := Lib.hid (shpL_no hlt hd)
          clear hd HNO
          go_wp2_with fail
          refine (CALL.out _ (below_alloc wr _)).mono ?_; rintro e w1 ⟨rfl, hb1⟩
          have HB1 := Lib.hid (bt HW.out (bt (below_alloc wr (.cells #[.int .i64 args[k].k, .string args[k].nm, .int .i64 args[k].vr, .slice A' args[k].args.length c'] 24)) hb1))
          clear hb1 CALL
          go_wp2
          go_ret
          exact ⟨by rw [SHP.out, HN2.out]; rfl, HB1.out⟩
        · rw [hd] at CALL
          have HN2 : Hid (shpL (args.take (k + 1)) = true) := Lib.hid ((shpL_take hlt HNO.out).trans hd)
          clear hd HNO
          go_wp2_with fail
          refine (CALL.out _ (below_alloc wr _)).mono ?_; rintro e w1 ⟨rfl, hb1⟩
          have HB1 := Lib.hid (bt HW.out (bt (below_alloc wr (.cells #[.int .i64 args[k].k, .string args[k].nm, .int .i64 args[k].vr, .slice A' args[k].args.length c'] 24)) hb1))
          clear hb1 CALL x0 x1 x2 x3
          go_wp2
          go_roundw
          case rel => exact ⟨k + 1, by omega, by go_num, HN2, HB1⟩
          case measure => simp [intOf]; omega
      · have HN2 : Hid (shpL args = true) := Lib.hid (by have := HNO.out; rwa [List.take_of_length_le (by omega)] at this)
        have hge : ¬ (k : Int) < (args.length : Int) := by omega
        go_wp2
        go_ret
        exact ⟨by rw [SHP.out, HN2.out]; rfl, HW.out⟩
  · go_enter Tryz.func45, Tryz.ntmps45
    go_wp2_with fail
    refine wp_region_held_drew (S := fun w' => w'.heap[w.heap.size]? = some (.cells #[.int .i64 V.k, .string V.nm, .int .i64 V.vr, .slice A args.length c] 24 (0, 0))) (by kernel_rfl) ?_ (fun hHeld => ?_)
    · exact HBX.out
    refine WHt 0 ⟨some 5, .fieldAddr 24 (.tmp 1) 0, 0, _, #[], none⟩ (v := ?vi0) rfl (by kernel_rfl) (fun _ _ _ h => h) (Or.inl ⟨by rfl, ?hyi0⟩) (by assumption) ?_
    case hyi0 => (intro wz hSw; (try dsimp only at hSw); obtain ⟨z0, z1, z2, z3⟩ := cell4 hSw; go_simp; try with_reducible rfl)
    (try simp only [putz])
    refine WHt 1 ⟨some 6, .load 3 (.tmp 5), 3, _, #[⟨0, .data⟩], none⟩ (v := ?vi1) rfl (by kernel_rfl) (fun _ _ _ h => h) (Or.inl ⟨by rfl, ?hyi1⟩) (by assumption) ?_
    case hyi1 => (intro wz hSw; (try dsimp only at hSw); obtain ⟨z0, z1, z2, z3⟩ := cell4 hSw; go_simp; try with_reducible rfl)
    (try simp only [putz])
    refine WHt 2 ⟨some 7, .binOp .lss 3 (.tmp 6) (.const (.int .i64 1)) 3, 4, _, #[⟨1, .data⟩], none⟩ (v := ?vi2) rfl (by kernel_rfl) (fun _ _ _ h => h) (Or.inl ⟨by rfl, ?hyi2⟩) (by assumption) ?_
    case hyi2 => (intro wz hSw; (try dsimp only at hSw); obtain ⟨z0, z1, z2, z3⟩ := cell4 hSw; go_simp; try with_reducible rfl)
    (try simp only [putz])
    refine WHt 3 ⟨some 8, .move (.tmp 7), 4, _, #[⟨2, .data⟩], none⟩ (v := ?vi3) rfl (by kernel_rfl) (fun _ _ _ h => h) (Or.inl ⟨by rfl, ?hyi3⟩) (by assumption) ?_
    case hyi3 => (intro wz hSw; (try dsimp only at hSw); obtain ⟨z0, z1, z2, z3⟩ := cell4 hSw; go_simp; try with_reducible rfl)
    (try simp only [putz])
    refine WHt 4 ⟨some 9, .fieldAddr 24 (.tmp 1) 0, 0, _, #[⟨3, .guard⟩], some (3, false)⟩ (v := ?vi4) rfl (by kernel_rfl) (fun _ _ _ h => h) (Or.inl ⟨by rfl, ?hyi4⟩) (by assumption) ?_
    case hyi4 => (intro wz hSw; (try dsimp only at hSw); obtain ⟨z0, z1, z2, z3⟩ := cell4 hSw; go_simp; try with_reducible rfl)
    (try simp only [putz])
    refine WHt 5 ⟨some 10, .load 3 (.tmp 9), 3, _, #[⟨4, .data⟩, ⟨3, .guard⟩], some (3, false)⟩ (v := ?vi5) rfl (by kernel_rfl) (fun _ _ _ h => h) (Or.inl ⟨by rfl, ?hyi5⟩) (by assumption) ?_
    case hyi5 => (intro wz hSw; (try dsimp only at hSw); obtain ⟨z0, z1, z2, z3⟩ := cell4 hSw; go_simp; try with_reducible rfl)
    (try simp only [putz])
    refine WHt 6 ⟨some 11, .binOp .gtr 3 (.tmp 10) (.const (.int .i64 7)) 3, 4, _, #[⟨5, .data⟩, ⟨3, .guard⟩], some (3, false)⟩ (v := ?vi6) rfl (by kernel_rfl) (fun _ _ _ h => h) (Or.inl ⟨by rfl, ?hyi6⟩) (by assumption) ?_
    case hyi6 => (intro wz hSw; (try dsimp only at hSw); obtain ⟨z0, z1, z2, z3⟩ := cell4 hSw; go_simp; try with_reducible rfl)
    (try simp only [putz])
    refine WHt 7 ⟨some 12, .pick (.tmp 8) (.const (.bool true)) (.tmp 11), 4, _, #[⟨3, .data⟩, ⟨6, .data⟩], none⟩ (v := ?vi7) rfl (by kernel_rfl) (fun _ _ _ h => h) (Or.inl ⟨by rfl, ?hyi7⟩) (by assumption) ?_
    case hyi7 => (intro wz hSw; (try dsimp only at hSw); obtain ⟨z0, z1, z2, z3⟩ := cell4 hSw; go_simp; try with_reducible rfl)
    (try simp only [putz])
    refine WHt 8 ⟨some 13, .move (.tmp 12), 4, _, #[⟨7, .data⟩, ⟨3, .chain⟩], none⟩ (v := ?vi8) rfl (by kernel_rfl) (fun _ _ _ h => h) (Or.inl ⟨by rfl, ?hyi8⟩) (by assumption) ?_
    case hyi8 => (intro wz hSw; (try dsimp only at hSw); obtain ⟨z0, z1, z2, z3⟩ := cell4 hSw; go_simp; try with_reducible rfl)
    (try simp only [putz])
    refine WHt 9 ⟨some 14, .fieldAddr 24 (.tmp 1) 3, 0, _, #[⟨8, .guard⟩], some (8, false)⟩ (v := ?vi9) rfl (by kernel_rfl) (fun _ _ _ h => h) (Or.inl ⟨by rfl, ?hyi9⟩) (by assumption) ?_
    case hyi9 => (intro wz hSw; (try dsimp only at hSw); obtain ⟨z0, z1, z2, z3⟩ := cell4 hSw; go_simp; try with_reducible rfl)
    (try simp only [putz])
    refine WHt 10 ⟨some 15, .load 22 (.tmp 14), 22, _, #[⟨9, .data⟩, ⟨8, .guard⟩], some (8, false)⟩ (v := ?vi10) rfl (by kernel_rfl) (fun _ _ _ h => h) (Or.inl ⟨by rfl, ?hyi10⟩) (by assumption) ?_
    case hyi10 => (intro wz hSw; (try dsimp only at hSw); obtain ⟨z0, z1, z2, z3⟩ := cell4 hSw; go_simp; try with_reducible rfl)
    (try simp only [putz])
    refine WHt 11 ⟨some 16, .call { callee := .builtin .len, args := #[.tmp 15], argTypes := #[22] }, 3, _, #[⟨10, .data⟩, ⟨8, .guard⟩], some (8, false)⟩ (v := ?vi11) rfl (by kernel_rfl) (fun _ _ _ h => h) (Or.inl ⟨by rfl, ?hyi11⟩) (by assumption) ?_
    case hyi11 => (intro wz hSw; (try dsimp only at hSw); obtain ⟨z0, z1, z2, z3⟩ := cell4 hSw; go_simp; try with_reducible rfl)
    (try simp only [putz])
    refine WHt 12 ⟨some 17, .fieldAddr 24 (.tmp 1) 0, 0, _, #[⟨8, .guard⟩], some (8, false)⟩ (v := ?vi12) rfl (by kernel_rfl) (fun _ _ _ h => h) (Or.inl ⟨by rfl, ?hyi12⟩) (by assumption) ?_
    case hyi12 => (intro wz hSw; (try dsimp only at hSw); obtain ⟨z0, z1, z2, z3⟩ := cell4 hSw; go_simp; try with_reducible rfl)
    (try simp only [putz])
    refine WHt 13 ⟨some 18, .load 3 (.tmp 17), 3, _, #[⟨12, .data⟩, ⟨8, .guard⟩], some (8, false)⟩ (v := ?vi13) rfl (by kernel_rfl) (fun _ _ _ h => h) (Or.inl ⟨by rfl, ?hyi13⟩) (by assumption) ?_
    case hyi13 => (intro wz hSw; (try dsimp only at hSw); obtain ⟨z0, z1, z2, z3⟩ := cell4 hSw; go_simp; try with_reducible rfl)
    (try simp only [putz])
    refine wpAnyH_ready (rs := [14]) (by kernel_rfl) (by simp) ?_
    refine AllReadyH.cons (o := ⟨some 19, .call { callee := .value (.func 68), args := #[.tmp 18], argTypes := #[3] }, 3, _, #[⟨13, .data⟩, ⟨8, .chain⟩, ⟨8, .guard⟩], some (8, false)⟩) rfl (fun K hK => ?_) AllReadyH.nil
    go_simp
    refine (arity_any _ _).mono ?_; rintro e w1 ⟨rfl, rfl⟩
    go_wp2_with fail
    refine hK.out _ _ ?_ (fun hHeld => ?_)
    · exact HBX.out
    clear hK K
    (try simp only [putz])
    refine WHt 15 ⟨some 20, .binOp .neq 3 (.tmp 16) (.tmp 19) 3, 4, _, #[⟨11, .data⟩, ⟨14, .data⟩, ⟨8, .guard⟩], some (8, false)⟩ (v := ?vi15) rfl (by kernel_rfl) (fun _ _ _ h => h) (Or.inl ⟨by rfl, ?hyi15⟩) (by assumption) ?_
    case hyi15 => (intro wz hSw; (try dsimp only at hSw); obtain ⟨z0, z1, z2, z3⟩ := cell4 hSw; go_simp; try with_reducible rfl)
    (try simp only [putz])
    refine WHt 16 ⟨some 21, .pick (.tmp 13) (.const (.bool true)) (.tmp 20), 4, _, #[⟨8, .data⟩, ⟨15, .data⟩], none⟩ (v := ?vi16) rfl (by kernel_rfl) (fun _ _ _ h => h) (Or.inl ⟨by rfl, ?hyi16⟩) (by assumption) ?_
    case hyi16 => (intro wz hSw; (try dsimp only at hSw); obtain ⟨z0, z1, z2, z3⟩ := cell4 hSw; go_simp; try with_reducible rfl)
    (try simp only [putz])
    refine wpAnyH_done (by kernel_rfl) ?_ _
    have c3x := (cell4 hBX).2.2.2
    have c0x := (cell4 hBX).1
    have c1x := (cell4 hBX).2.1
    have c2x := (cell4 hBX).2.2.1
    clear hBX hHeld
    go_wp2
    go_loopw [50] (fun i wr => ShI w V args A c i wr) (fun i _ => args.length - (intOf i).toNat)
    case atStart => exact ⟨0, by omega, rfl, Lib.hid (by simp [shpL]), HB⟩
    case round =>
      obtain ⟨k, hk, rfl, HNO, HW⟩ := hrel
      clear c0x c1x c2x c3x q1 q2 q3 q3b q4 q4b q5 q6 q7 q7b
      by_cases hlt : k < args.length
      · have hlti : (k : Int) < (args.length : Int) := by omega
        obtain ⟨b, o, rfl, hb, hr⟩ := HA.out.at (by omega)
        obtain ⟨A', c', x0, x1, x2, x3, hin⟩ := hr wr HW.out k hlt
        have CALL : Hid (∀ W, Below wr.heap.size wr W → Calls Tryz.prog 45 #[.agg #[.int .i64 args[k].k, .string args[k].nm, .int .i64 args[k].vr, .slice A' args[k].args.length c']] W fun e w' => e = .returned (.bool (shp args[k])) ∧ Below W.heap.size W w') := Lib.hid (fun W hW => HI.out args[k] _ W (HBG.out _ (List.getElem_mem hlt)) (hin.later hW))
        clear hr hin hb HI
        cases hd : shp args[k]
        · rw [hd] at CALL
          have HN2 : Hid (shpL args = false) := Lib.hid (shpL_no hlt hd)
          clear hd HNO
          go_wp2_with fail
          refine (CALL.out _ (below_alloc wr _)).mono ?_; rintro e w1 ⟨rfl, hb1⟩
          have HB1 := Lib.hid (bt HW.out (bt (below_alloc wr (.cells #[.int .i64 args[k].k, .string args[k].nm, .int .i64 args[k].vr, .slice A' args[k].args.length c'] 24)) hb1))
          clear hb1 CALL
          go_wp2
          go_ret
          exact ⟨by rw [SHP.out, HN2.out]; rfl, HB1.out⟩
        · rw [hd] at CALL
          have HN2 : Hid (shpL (args.take (k + 1)) = true) := Lib.hid ((shpL_take hlt HNO.out).trans hd)
          clear hd HNO
          go_wp2_with fail
          refine (CALL.out _ (below_alloc wr _)).mono ?_; rintro e w1 ⟨rfl, hb1⟩
          have HB1 := Lib.hid (bt HW.out (bt (below_alloc wr (.cells #[.int .i64 args[k].k, .string args[k].nm, .int .i64 args[k].vr, .slice A' args[k].args.length c'] 24)) hb1))
          clear hb1 CALL x0 x1 x2 x3
          go_wp2
          go_roundw
          case rel => exact ⟨k + 1, by omega, by go_num, HN2, HB1⟩
          case measure => simp [intOf]; omega
      · have HN2 : Hid (shpL args = true) := Lib.hid (by have := HNO.out; rwa [List.take_of_length_le (by omega)] at this)
        have hge : ¬ (k : Int) < (args.length : Int) := by omega
        go_wp2
        go_ret
        exact ⟨by rw [SHP.out, HN2.out]; rfl, HW.out⟩
end Go.Proofs.YtifopogkbjhkjaaGreatDoor
