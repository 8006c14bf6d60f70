import Derived.Test.YtclilpabdcdeoaaDoorRl
namespace Go.Proofs.YtclilpabdcdeoaaDoor
open Go.ChangeShapes Go.WideShapes Go.ChangeAt Go.RowKit
set_option linter.unusedVariables false
set_option linter.unusedSimpArgs false
theorem row7 {w : World} {b o : Nat} {l : List VT} (h : VRow w (some ⟨b, o, none⟩) l) (k : Nat) (hk : k < l.length) : okV w l[k] b (o + k * 7) := by
  rcases h with h | ⟨b', o', e, _, h⟩
  · omega
  · injection e with e; injection e with e1 e2; subst e1 e2; exact okL_at h k hk
def allB (f : VT → VT → Bool) : List VT → List VT → Bool
  | a :: l, b :: m => f a b && allB f l m
  | _, _ => true
def sameD : Nat → VT → VT → Bool
  | 0, _, _ => true
  | d + 1, V, U => (V.k == U.k) && (V.n == U.n) && (V.nm.toList == U.nm.toList) && (V.node == U.node) && (V.at_ == U.at_) && (V.args.length == U.args.length) && allB (sameD d) V.args U.args
theorem allB_drop (f : VT → VT → Bool) (l m : List VT) (h : l.length = m.length) (k : Nat) (hk : k < l.length) : allB f (l.drop k) (m.drop k) = (f l[k] (m[k]'(by omega)) && allB f (l.drop (k + 1)) (m.drop (k + 1))) := by
  rw [List.drop_eq_getElem_cons hk, List.drop_eq_getElem_cons (show k < m.length by omega)]; rfl
theorem bN (n B : Nat) (w : World) : Below B w (w.drewN n) := ⟨rfl, rfl, rfl, Nat.le_refl _, fun _ _ => rfl⟩
theorem okV_cells {w : World} {V : VT} {b o : Nat} (h : okV w V b o) : ∃ A c, w.cell? ⟨b, o, none⟩ = some (.int .i64 V.k) ∧ w.cell? ⟨b, o + 1, none⟩ = some (.int .i64 V.n) ∧ w.cell? ⟨b, o + 2, none⟩ = some (.string V.nm) ∧ w.cell? ⟨b, o + 3, none⟩ = some (.slice A V.args.length c) ∧ w.cell? ⟨b, o + 4, none⟩ = some (.int .i64 V.node) ∧ w.cell? ⟨b, o + 6, none⟩ = some (.int .i64 V.at_) ∧ VRow w A V.args := by
  rw [okV_eq] at h
  obtain ⟨_, _, c0, c1, c2, ⟨A, c, c3, hA⟩, c4, _, c6⟩ := h
  exact ⟨A, c, c0, c1, c2, c3, c4, c6, hA⟩
def SameI (w : World) (d : Nat) (l m : List VT) (i : Value) (wr : World) : Prop := ∃ k : Nat, k ≤ l.length ∧ i = .int .i64 k ∧ allB (sameD d) l m = allB (sameD d) (l.drop k) (m.drop k) ∧ Below w.heap.size w wr
set_option maxRecDepth 100000 in
set_option maxHeartbeats 8000000 in
theorem same_V : ∀ (d : Nat) (V U : VT) (b1 o1 b2 o2 : Nat) (dp : Int) (w : World), bigD d V = false → 0 ≤ dp → dp + d ≤ 1000 → okV w V b1 o1 → okV w U b2 o2 →
    Calls Tryd.prog 32 #[.pointer (some ⟨b1, o1, none⟩), .pointer (some ⟨b2, o2, none⟩), .int .i64 dp] w fun e w' => e = .returned (.bool (sameD d V U)) ∧ Below w.heap.size w w' := by
  intro d
  induction d with
  | zero => intro V U b1 o1 b2 o2 dp w h; cases h
  | succ d ih =>
    intro V U b1 o1 b2 o2 dp w hbig hdp0 hdp h1 h2
    obtain ⟨A, c, p0, p1, p2, p3, p4, p6, hA⟩ := okV_cells h1
    obtain ⟨B, e, q0, q1, q2, q3, q4, q6, hB⟩ := okV_cells h2
    obtain ⟨g1, g2, g3⟩ := big_parts hbig
    have dd : decide ((131072 : Int) < dp) = false := decide_eq_false (by omega)
    have hsp : sameD (d + 1) V U = ((V.k == U.k) && (V.n == U.n) && (V.nm.toList == U.nm.toList) && (V.node == U.node) && (V.at_ == U.at_) && (V.args.length == U.args.length) && allB (sameD d) V.args U.args) := rfl
    rw [hsp]
    have IH := Lib.hid ih
    have HA := Lib.hid hA
    have HB := Lib.hid hB
    have G3 := Lib.hid g3
    clear ih hA hB g3 g2 hsp h1 h2 hbig
    obtain ⟨l, hl⟩ : ∃ l, l = V.args := ⟨_, rfl⟩
    obtain ⟨m, hm⟩ : ∃ m, m = U.args := ⟨_, rfl⟩
    rw [← hl] at p3 HA G3 g1 ⊢
    rw [← hm] at q3 HB ⊢
    clear hl hm
    cases e0 : (V.k == U.k)
    · have e0' : (V.k != U.k) = true := by first | (show (!(V.k == U.k)) = true; rw [e0]; rfl)
      go_enter Tryd.func32, Tryd.ntmps32
      go_wp2
      go_quiet (fail)
      go_wp2
      go_ret
      exact ⟨by simp only [Bool.and_false, Bool.false_and, Bool.true_and, Bool.and_true]; rfl, bN _ _ _⟩
    have e0' : (V.k != U.k) = false := by first | (show (!(V.k == U.k)) = false; rw [e0]; rfl)
    cases e1 : (V.n == U.n)
    · have e1' : (V.n != U.n) = true := by first | (show (!(V.n == U.n)) = true; rw [e1]; rfl)
      go_enter Tryd.func32, Tryd.ntmps32
      go_wp2
      go_quiet (fail)
      go_wp2
      go_ret
      exact ⟨by simp only [Bool.and_false, Bool.false_and, Bool.true_and, Bool.and_true]; rfl, bN _ _ _⟩
    have e1' : (V.n != U.n) = false := by first | (show (!(V.n == U.n)) = false; rw [e1]; rfl)
    cases e2 : (V.nm.toList == U.nm.toList)
    · have e2' : (V.nm.toList != U.nm.toList) = true := by first | (show (!(V.nm.toList == U.nm.toList)) = true; rw [e2]; rfl)
      go_enter Tryd.func32, Tryd.ntmps32
      go_wp2
      go_quiet (fail)
      go_wp2
      go_ret
      exact ⟨by simp only [Bool.and_false, Bool.false_and, Bool.true_and, Bool.and_true]; rfl, bN _ _ _⟩
    have e2' : (V.nm.toList != U.nm.toList) = false := by first | (show (!(V.nm.toList == U.nm.toList)) = false; rw [e2]; rfl)
    cases e3 : (V.node == U.node)
    · have e3' : (V.node != U.node) = true := by first | (show (!(V.node == U.node)) = true; rw [e3]; rfl)
      go_enter Tryd.func32, Tryd.ntmps32
      go_wp2
      go_quiet (fail)
      go_wp2
      go_ret
      exact ⟨by simp only [Bool.and_false, Bool.false_and, Bool.true_and, Bool.and_true]; rfl, bN _ _ _⟩
    have e3' : (V.node != U.node) = false := by first | (show (!(V.node == U.node)) = false; rw [e3]; rfl)
    cases e4 : (V.at_ == U.at_)
    · have e4' : (V.at_ != U.at_) = true := by first | (show (!(V.at_ == U.at_)) = true; rw [e4]; rfl)
      go_enter Tryd.func32, Tryd.ntmps32
      go_wp2
      go_quiet (fail)
      go_wp2
      go_ret
      exact ⟨by simp only [Bool.and_false, Bool.false_and, Bool.true_and, Bool.and_true]; rfl, bN _ _ _⟩
    have e4' : (V.at_ != U.at_) = false := by first | (show (!(V.at_ == U.at_)) = false; rw [e4]; rfl)
    by_cases hlen : l.length = m.length
    · have dl : ((l.length : Int) == (m.length : Int)) = true := by rw [hlen]; simp
      have dl' : ((l.length : Int) != (m.length : Int)) = false := by simp [bne, dl]
      have dn : (l.length == m.length) = true := by rw [hlen]; simp
      have dn' : (l.length != m.length) = false := by simp [bne, dn]
      have HSP : Hid ((true && true && true && true && true && (l.length == m.length) && allB (sameD d) l m) = allB (sameD d) l m) := Lib.hid (by rw [dn]; rfl)
      rw [HSP.out]
      have HLEN := Lib.hid hlen
      have G1 : Hid (l.length ≤ 4) := Lib.hid g1
      clear hlen HSP
      go_enter Tryd.func32, Tryd.ntmps32
      go_wp2
      go_quiet (fail)
      go_wp2
      go_quiet (fail)
      go_wp2
      go_loopw [7, 81] (fun _ i wr => SameI w d l m i wr) (fun _ i _ => l.length - (intOf i).toNat)
      case atStart => exact ⟨0, by omega, rfl, rfl, bN _ _ _⟩
      case round =>
        obtain ⟨k, hk, rfl, hall, hbl⟩ := hrel
        have HALL := Lib.hid hall
        have HBL := Lib.hid hbl
        have HK : Hid (k ≤ 4) := Lib.hid (by omega)
        clear hall hbl
        have r3 := (HBL.out.cell (p := ⟨b1, o1 + 3, none⟩) (World.block_lt_of_cell? w _ p3)).trans p3
        have s3 := (HBL.out.cell (p := ⟨b2, o2 + 3, none⟩) (World.block_lt_of_cell? w _ q3)).trans q3
        by_cases hlt : k < l.length
        · have hltm : k < m.length := by have := HLEN.out; omega
          obtain ⟨ab, ao, rfl⟩ : ∃ b o, A = some ⟨b, o, none⟩ := by
            rcases HA.out with h | ⟨b', o', e, _⟩
            · omega
            · exact ⟨_, _, e⟩
          obtain ⟨mb, mo, rfl⟩ : ∃ b o, B = some ⟨b, o, none⟩ := by
            rcases HB.out with h | ⟨b', o', e, _⟩
            · omega
            · exact ⟨_, _, e⟩
          have hli : (k : Int) < (l.length : Int) := by omega
          have hmi : (k : Int) < (m.length : Int) := by omega
          have hdr := allB_drop (sameD d) l m HLEN.out k hlt
          have CALL : Hid (∀ q, Calls Tryd.prog 32 #[.pointer (some ⟨ab, ao + k * 7, none⟩), .pointer (some ⟨mb, mo + k * 7, none⟩), .int .i64 (dp + 1)] (wr.drewN q) fun e w' => e = .returned (.bool (sameD d l[k] m[k])) ∧ Below (wr.drewN q).heap.size (wr.drewN q) w') := Lib.hid (fun q =>
            IH.out l[k] m[k] ab (ao + k * 7) mb (mo + k * 7) (dp + 1) (wr.drewN q) (G3.out _ (List.getElem_mem hlt)) (by omega) (by omega) (row7 ((HA.out.later HBL.out).later (bN q _ wr)) k hlt) (row7 ((HB.out.later HBL.out).later (bN q _ wr)) k hltm))
          have hk1 : (k : Int) + 1 = ((k + 1 : Nat) : Int) := by omega
          cases hd : sameD d l[k] m[k]
          · rw [hd] at CALL hdr
            have HN : Hid (allB (sameD d) l m = false) := Lib.hid (HALL.out.trans hdr)
            clear hd hdr HALL HA HB IH G3 hk1
            go_wp2
            have hwr : IntKind.i64.wrap (dp + 1) = dp + 1 := IntWalk.i64_in _ (by omega)
            refine wp_region_held_drew (S := fun w' => w'.cell? ⟨b1, o1 + 3, none⟩ = some (.slice (some ⟨ab, ao, none⟩) l.length c) ∧ w'.cell? ⟨b2, o2 + 3, none⟩ = some (.slice (some ⟨mb, mo, none⟩) m.length e)) (by kernel_rfl) ?_ (fun hHeld => ?_)
            · (try dsimp only); go_keep
            refine wpAnyH_take (i := 0) (oi := { dst := some 84, op := Go.Op.move (Go.Operand.tmp 0), type := 81, pos := _, after := #[], guard := none }) (v := ?va0) rfl (by kernel_rfl) (by kernel_rfl) (by kernel_rfl) (fun _ _ _ h => h) (Or.inl ⟨by rfl, ?hya0⟩) (by assumption) ?_
            case hya0 => (intro wz hSw; (try dsimp only at hSw); go_simp; try with_reducible rfl)
            (try simp only [Act.put, List.setIfInBounds_toArray, List.set_cons_zero, List.set_cons_succ])
            refine wpAnyH_take (i := 1) (oi := { dst := some 85, op := Go.Op.nilCheck (Go.Operand.tmp 84), type := 0, pos := _, after := #[{ on := 0, ground := Go.Ground.data }], guard := none }) (v := ?va1) rfl (by kernel_rfl) (by kernel_rfl) (by kernel_rfl) (fun _ _ _ h => h) (Or.inl ⟨by rfl, ?hya1⟩) (by assumption) ?_
            case hya1 => (intro wz hSw; (try dsimp only at hSw); go_simp; try with_reducible rfl)
            (try simp only [Act.put, List.setIfInBounds_toArray, List.set_cons_zero, List.set_cons_succ])
            refine wpAnyH_take (i := 2) (oi := { dst := some 86, op := Go.Op.fieldAddr 26 (Go.Operand.tmp 85) 3, type := 0, pos := _, after := #[{ on := 1, ground := Go.Ground.data }], guard := none }) (v := ?va2) rfl (by kernel_rfl) (by kernel_rfl) (by kernel_rfl) (fun _ _ _ h => h) (Or.inl ⟨by rfl, ?hya2⟩) (by assumption) ?_
            case hya2 => (intro wz hSw; (try dsimp only at hSw); go_simp; try with_reducible rfl)
            (try simp only [Act.put, List.setIfInBounds_toArray, List.set_cons_zero, List.set_cons_succ])
            refine wpAnyH_take (i := 3) (oi := { dst := some 87, op := Go.Op.load 23 (Go.Operand.tmp 86), type := 23, pos := _, after := #[{ on := 2, ground := Go.Ground.data }], guard := none }) (v := ?va3) rfl (by kernel_rfl) (by kernel_rfl) (by kernel_rfl) (fun _ _ _ h => h) (Or.inl ⟨by rfl, ?hya3⟩) (by assumption) ?_
            case hya3 => (intro wz hSw; (try dsimp only at hSw); go_simp; try with_reducible rfl)
            (try simp only [Act.put, List.setIfInBounds_toArray, List.set_cons_zero, List.set_cons_succ])
            refine wpAnyH_take (i := 4) (oi := { dst := some 88, op := Go.Op.move (Go.Operand.tmp 7), type := 3, pos := _, after := #[], guard := none }) (v := ?va4) rfl (by kernel_rfl) (by kernel_rfl) (by kernel_rfl) (fun _ _ _ h => h) (Or.inl ⟨by rfl, ?hya4⟩) (by assumption) ?_
            case hya4 => (intro wz hSw; (try dsimp only at hSw); go_simp; try with_reducible rfl)
            (try simp only [Act.put, List.setIfInBounds_toArray, List.set_cons_zero, List.set_cons_succ])
            refine wpAnyH_take (i := 5) (oi := { dst := some 89, op := Go.Op.indexAddr 23 (Go.Operand.tmp 87) (Go.Operand.tmp 88), type := 0, pos := _, after := #[{ on := 3, ground := Go.Ground.data }, { on := 4, ground := Go.Ground.data }], guard := none }) (v := ?va5) rfl (by kernel_rfl) (by kernel_rfl) (by kernel_rfl) (fun _ _ _ h => h) (Or.inl ⟨by rfl, ?hya5⟩) (by assumption) ?_
            case hya5 => (intro wz hSw; (try dsimp only at hSw); go_simp; try with_reducible rfl)
            (try simp only [Act.put, List.setIfInBounds_toArray, List.set_cons_zero, List.set_cons_succ])
            refine wpAnyH_take (i := 6) (oi := { dst := some 90, op := Go.Op.move (Go.Operand.tmp 1), type := 81, pos := _, after := #[], guard := none }) (v := ?va6) rfl (by kernel_rfl) (by kernel_rfl) (by kernel_rfl) (fun _ _ _ h => h) (Or.inl ⟨by rfl, ?hya6⟩) (by assumption) ?_
            case hya6 => (intro wz hSw; (try dsimp only at hSw); go_simp; try with_reducible rfl)
            (try simp only [Act.put, List.setIfInBounds_toArray, List.set_cons_zero, List.set_cons_succ])
            refine wpAnyH_take (i := 7) (oi := { dst := some 91, op := Go.Op.nilCheck (Go.Operand.tmp 90), type := 0, pos := _, after := #[{ on := 6, ground := Go.Ground.data }], guard := none }) (v := ?va7) rfl (by kernel_rfl) (by kernel_rfl) (by kernel_rfl) (fun _ _ _ h => h) (Or.inl ⟨by rfl, ?hya7⟩) (by assumption) ?_
            case hya7 => (intro wz hSw; (try dsimp only at hSw); go_simp; try with_reducible rfl)
            (try simp only [Act.put, List.setIfInBounds_toArray, List.set_cons_zero, List.set_cons_succ])
            refine wpAnyH_take (i := 8) (oi := { dst := some 92, op := Go.Op.fieldAddr 26 (Go.Operand.tmp 91) 3, type := 0, pos := _, after := #[{ on := 7, ground := Go.Ground.data }], guard := none }) (v := ?va8) rfl (by kernel_rfl) (by kernel_rfl) (by kernel_rfl) (fun _ _ _ h => h) (Or.inl ⟨by rfl, ?hya8⟩) (by assumption) ?_
            case hya8 => (intro wz hSw; (try dsimp only at hSw); go_simp; try with_reducible rfl)
            (try simp only [Act.put, List.setIfInBounds_toArray, List.set_cons_zero, List.set_cons_succ])
            refine wpAnyH_take (i := 9) (oi := { dst := some 93, op := Go.Op.load 23 (Go.Operand.tmp 92), type := 23, pos := _, after := #[{ on := 8, ground := Go.Ground.data }], guard := none }) (v := ?va9) rfl (by kernel_rfl) (by kernel_rfl) (by kernel_rfl) (fun _ _ _ h => h) (Or.inl ⟨by rfl, ?hya9⟩) (by assumption) ?_
            case hya9 => (intro wz hSw; (try dsimp only at hSw); go_simp; try with_reducible rfl)
            (try simp only [Act.put, List.setIfInBounds_toArray, List.set_cons_zero, List.set_cons_succ])
            refine wpAnyH_take (i := 10) (oi := { dst := some 94, op := Go.Op.move (Go.Operand.tmp 7), type := 3, pos := _, after := #[], guard := none }) (v := ?va10) rfl (by kernel_rfl) (by kernel_rfl) (by kernel_rfl) (fun _ _ _ h => h) (Or.inl ⟨by rfl, ?hya10⟩) (by assumption) ?_
            case hya10 => (intro wz hSw; (try dsimp only at hSw); go_simp; try with_reducible rfl)
            (try simp only [Act.put, List.setIfInBounds_toArray, List.set_cons_zero, List.set_cons_succ])
            refine wpAnyH_take (i := 11) (oi := { dst := some 95, op := Go.Op.indexAddr 23 (Go.Operand.tmp 93) (Go.Operand.tmp 94), type := 0, pos := _, after := #[{ on := 9, ground := Go.Ground.data }, { on := 10, ground := Go.Ground.data }], guard := none }) (v := ?va11) rfl (by kernel_rfl) (by kernel_rfl) (by kernel_rfl) (fun _ _ _ h => h) (Or.inl ⟨by rfl, ?hya11⟩) (by assumption) ?_
            case hya11 => (intro wz hSw; (try dsimp only at hSw); go_simp; try with_reducible rfl)
            (try simp only [Act.put, List.setIfInBounds_toArray, List.set_cons_zero, List.set_cons_succ])
            refine wpAnyH_take (i := 12) (oi := { dst := some 96, op := Go.Op.move (Go.Operand.tmp 2), type := 3, pos := _, after := #[], guard := none }) (v := ?va12) rfl (by kernel_rfl) (by kernel_rfl) (by kernel_rfl) (fun _ _ _ h => h) (Or.inl ⟨by rfl, ?hya12⟩) (by assumption) ?_
            case hya12 => (intro wz hSw; (try dsimp only at hSw); go_simp; try with_reducible rfl)
            (try simp only [Act.put, List.setIfInBounds_toArray, List.set_cons_zero, List.set_cons_succ])
            refine wpAnyH_take (i := 13) (oi := { dst := some 97, op := Go.Op.binOp Go.BinOp.add 3 (Go.Operand.tmp 96) (Go.Operand.const (Go.Value.int Go.IntKind.i64 1)) 3, type := 3, pos := _, after := #[{ on := 12, ground := Go.Ground.data }], guard := none }) (v := ?va13) rfl (by kernel_rfl) (by kernel_rfl) (by kernel_rfl) (fun _ _ _ h => h) (Or.inl ⟨by rfl, ?hya13⟩) (by assumption) ?_
            case hya13 => (intro wz hSw; (try dsimp only at hSw); go_simp; try with_reducible rfl)
            (try simp only [Act.put, List.setIfInBounds_toArray, List.set_cons_zero, List.set_cons_succ])
            refine wpAnyH_ready (rs := [14]) (by kernel_rfl) (by simp) ?_
            refine AllReadyH.cons (o := { dst := some 98, op := Go.Op.call { callee := Go.Callee.value (Go.Operand.func 32), args := #[Go.Operand.tmp 89, Go.Operand.tmp 95, Go.Operand.tmp 97], argTypes := #[81, 81, 3] }, type := 4, pos := _, after := #[{ on := 5, ground := Go.Ground.data }, { on := 11, ground := Go.Ground.data }, { on := 13, ground := Go.Ground.data }], guard := none }) rfl (fun K hK => ?_) AllReadyH.nil
            go_simp
            refine Calls.mono (CALL.out _) ?_; rintro e w4 ⟨rfl, hb4⟩
            have BB : Hid (Below w.heap.size w w4) := Lib.hid (HBL.out.trans ((bN 1 _ wr).trans (hb4.mono (by have := HBL.out.size; exact this))))
            have r4 := (BB.out.cell (p := ⟨b1, o1 + 3, none⟩) (World.block_lt_of_cell? w _ p3)).trans p3
            have s4 := (BB.out.cell (p := ⟨b2, o2 + 3, none⟩) (World.block_lt_of_cell? w _ q3)).trans q3
            clear hb4 CALL
            go_wp2_with fail
            refine hK.out _ _ ?_ (fun hHeld => ?_)
            · (try dsimp only); go_keep
            clear hK K
            (try simp only [Act.put, List.setIfInBounds_toArray, List.set_cons_zero, List.set_cons_succ])
            refine wpAnyH_take (i := 15) (oi := { dst := some 99, op := Go.Op.unOp Go.UnOp.not 4 (Go.Operand.tmp 98), type := 4, pos := _, after := #[{ on := 14, ground := Go.Ground.data }], guard := none }) (v := ?va15) rfl (by kernel_rfl) (by kernel_rfl) (by kernel_rfl) (fun _ _ _ h => h) (Or.inl ⟨by rfl, ?hya15⟩) (by assumption) ?_
            case hya15 => (intro wz hSw; (try dsimp only at hSw); go_simp; try with_reducible rfl)
            (try simp only [Act.put, List.setIfInBounds_toArray, List.set_cons_zero, List.set_cons_succ])
            refine wpAnyH_done (by kernel_rfl) ?_ _
            clear hwr
            go_wp2
            go_ret
            exact ⟨by rw [HN.out]; rfl, BB.out⟩
          · rw [hd] at CALL hdr
            have HN : Hid (allB (sameD d) l m = allB (sameD d) (l.drop (k + 1)) (m.drop (k + 1))) := Lib.hid (HALL.out.trans hdr)
            clear hd hdr HALL HA HB IH G3 hk1
            go_wp2
            have hwr : IntKind.i64.wrap (dp + 1) = dp + 1 := IntWalk.i64_in _ (by omega)
            refine wp_region_held_drew (S := fun w' => w'.cell? ⟨b1, o1 + 3, none⟩ = some (.slice (some ⟨ab, ao, none⟩) l.length c) ∧ w'.cell? ⟨b2, o2 + 3, none⟩ = some (.slice (some ⟨mb, mo, none⟩) m.length e)) (by kernel_rfl) ?_ (fun hHeld => ?_)
            · (try dsimp only); go_keep
            refine wpAnyH_take (i := 0) (oi := { dst := some 84, op := Go.Op.move (Go.Operand.tmp 0), type := 81, pos := _, after := #[], guard := none }) (v := ?vb0) rfl (by kernel_rfl) (by kernel_rfl) (by kernel_rfl) (fun _ _ _ h => h) (Or.inl ⟨by rfl, ?hyb0⟩) (by assumption) ?_
            case hyb0 => (intro wz hSw; (try dsimp only at hSw); go_simp; try with_reducible rfl)
            (try simp only [Act.put, List.setIfInBounds_toArray, List.set_cons_zero, List.set_cons_succ])
            refine wpAnyH_take (i := 1) (oi := { dst := some 85, op := Go.Op.nilCheck (Go.Operand.tmp 84), type := 0, pos := _, after := #[{ on := 0, ground := Go.Ground.data }], guard := none }) (v := ?vb1) rfl (by kernel_rfl) (by kernel_rfl) (by kernel_rfl) (fun _ _ _ h => h) (Or.inl ⟨by rfl, ?hyb1⟩) (by assumption) ?_
            case hyb1 => (intro wz hSw; (try dsimp only at hSw); go_simp; try with_reducible rfl)
            (try simp only [Act.put, List.setIfInBounds_toArray, List.set_cons_zero, List.set_cons_succ])
            refine wpAnyH_take (i := 2) (oi := { dst := some 86, op := Go.Op.fieldAddr 26 (Go.Operand.tmp 85) 3, type := 0, pos := _, after := #[{ on := 1, ground := Go.Ground.data }], guard := none }) (v := ?vb2) rfl (by kernel_rfl) (by kernel_rfl) (by kernel_rfl) (fun _ _ _ h => h) (Or.inl ⟨by rfl, ?hyb2⟩) (by assumption) ?_
            case hyb2 => (intro wz hSw; (try dsimp only at hSw); go_simp; try with_reducible rfl)
            (try simp only [Act.put, List.setIfInBounds_toArray, List.set_cons_zero, List.set_cons_succ])
            refine wpAnyH_take (i := 3) (oi := { dst := some 87, op := Go.Op.load 23 (Go.Operand.tmp 86), type := 23, pos := _, after := #[{ on := 2, ground := Go.Ground.data }], guard := none }) (v := ?vb3) rfl (by kernel_rfl) (by kernel_rfl) (by kernel_rfl) (fun _ _ _ h => h) (Or.inl ⟨by rfl, ?hyb3⟩) (by assumption) ?_
            case hyb3 => (intro wz hSw; (try dsimp only at hSw); go_simp; try with_reducible rfl)
            (try simp only [Act.put, List.setIfInBounds_toArray, List.set_cons_zero, List.set_cons_succ])
            refine wpAnyH_take (i := 4) (oi := { dst := some 88, op := Go.Op.move (Go.Operand.tmp 7), type := 3, pos := _, after := #[], guard := none }) (v := ?vb4) rfl (by kernel_rfl) (by kernel_rfl) (by kernel_rfl) (fun _ _ _ h => h) (Or.inl ⟨by rfl, ?hyb4⟩) (by assumption) ?_
            case hyb4 => (intro wz hSw; (try dsimp only at hSw); go_simp; try with_reducible rfl)
            (try simp only [Act.put, List.setIfInBounds_toArray, List.set_cons_zero, List.set_cons_succ])
            refine wpAnyH_take (i := 5) (oi := { dst := some 89, op := Go.Op.indexAddr 23 (Go.Operand.tmp 87) (Go.Operand.tmp 88), type := 0, pos := _, after := #[{ on := 3, ground := Go.Ground.data }, { on := 4, ground := Go.Ground.data }], guard := none }) (v := ?vb5) rfl (by kernel_rfl) (by kernel_rfl) (by kernel_rfl) (fun _ _ _ h => h) (Or.inl ⟨by rfl, ?hyb5⟩) (by assumption) ?_
            case hyb5 => (intro wz hSw; (try dsimp only at hSw); go_simp; try with_reducible rfl)
            (try simp only [Act.put, List.setIfInBounds_toArray, List.set_cons_zero, List.set_cons_succ])
            refine wpAnyH_take (i := 6) (oi := { dst := some 90, op := Go.Op.move (Go.Operand.tmp 1), type := 81, pos := _, after := #[], guard := none }) (v := ?vb6) rfl (by kernel_rfl) (by kernel_rfl) (by kernel_rfl) (fun _ _ _ h => h) (Or.inl ⟨by rfl, ?hyb6⟩) (by assumption) ?_
            case hyb6 => (intro wz hSw; (try dsimp only at hSw); go_simp; try with_reducible rfl)
            (try simp only [Act.put, List.setIfInBounds_toArray, List.set_cons_zero, List.set_cons_succ])
            refine wpAnyH_take (i := 7) (oi := { dst := some 91, op := Go.Op.nilCheck (Go.Operand.tmp 90), type := 0, pos := _, after := #[{ on := 6, ground := Go.Ground.data }], guard := none }) (v := ?vb7) rfl (by kernel_rfl) (by kernel_rfl) (by kernel_rfl) (fun _ _ _ h => h) (Or.inl ⟨by rfl, ?hyb7⟩) (by assumption) ?_
            case hyb7 => (intro wz hSw; (try dsimp only at hSw); go_simp; try with_reducible rfl)
            (try simp only [Act.put, List.setIfInBounds_toArray, List.set_cons_zero, List.set_cons_succ])
            refine wpAnyH_take (i := 8) (oi := { dst := some 92, op := Go.Op.fieldAddr 26 (Go.Operand.tmp 91) 3, type := 0, pos := _, after := #[{ on := 7, ground := Go.Ground.data }], guard := none }) (v := ?vb8) rfl (by kernel_rfl) (by kernel_rfl) (by kernel_rfl) (fun _ _ _ h => h) (Or.inl ⟨by rfl, ?hyb8⟩) (by assumption) ?_
            case hyb8 => (intro wz hSw; (try dsimp only at hSw); go_simp; try with_reducible rfl)
            (try simp only [Act.put, List.setIfInBounds_toArray, List.set_cons_zero, List.set_cons_succ])
            refine wpAnyH_take (i := 9) (oi := { dst := some 93, op := Go.Op.load 23 (Go.Operand.tmp 92), type := 23, pos := _, after := #[{ on := 8, ground := Go.Ground.data }], guard := none }) (v := ?vb9) rfl (by kernel_rfl) (by kernel_rfl) (by kernel_rfl) (fun _ _ _ h => h) (Or.inl ⟨by rfl, ?hyb9⟩) (by assumption) ?_
            case hyb9 => (intro wz hSw; (try dsimp only at hSw); go_simp; try with_reducible rfl)
            (try simp only [Act.put, List.setIfInBounds_toArray, List.set_cons_zero, List.set_cons_succ])
            refine wpAnyH_take (i := 10) (oi := { dst := some 94, op := Go.Op.move (Go.Operand.tmp 7), type := 3, pos := _, after := #[], guard := none }) (v := ?vb10) rfl (by kernel_rfl) (by kernel_rfl) (by kernel_rfl) (fun _ _ _ h => h) (Or.inl ⟨by rfl, ?hyb10⟩) (by assumption) ?_
            case hyb10 => (intro wz hSw; (try dsimp only at hSw); go_simp; try with_reducible rfl)
            (try simp only [Act.put, List.setIfInBounds_toArray, List.set_cons_zero, List.set_cons_succ])
            refine wpAnyH_take (i := 11) (oi := { dst := some 95, op := Go.Op.indexAddr 23 (Go.Operand.tmp 93) (Go.Operand.tmp 94), type := 0, pos := _, after := #[{ on := 9, ground := Go.Ground.data }, { on := 10, ground := Go.Ground.data }], guard := none }) (v := ?vb11) rfl (by kernel_rfl) (by kernel_rfl) (by kernel_rfl) (fun _ _ _ h => h) (Or.inl ⟨by rfl, ?hyb11⟩) (by assumption) ?_
            case hyb11 => (intro wz hSw; (try dsimp only at hSw); go_simp; try with_reducible rfl)
            (try simp only [Act.put, List.setIfInBounds_toArray, List.set_cons_zero, List.set_cons_succ])
            refine wpAnyH_take (i := 12) (oi := { dst := some 96, op := Go.Op.move (Go.Operand.tmp 2), type := 3, pos := _, after := #[], guard := none }) (v := ?vb12) rfl (by kernel_rfl) (by kernel_rfl) (by kernel_rfl) (fun _ _ _ h => h) (Or.inl ⟨by rfl, ?hyb12⟩) (by assumption) ?_
            case hyb12 => (intro wz hSw; (try dsimp only at hSw); go_simp; try with_reducible rfl)
            (try simp only [Act.put, List.setIfInBounds_toArray, List.set_cons_zero, List.set_cons_succ])
            refine wpAnyH_take (i := 13) (oi := { dst := some 97, op := Go.Op.binOp Go.BinOp.add 3 (Go.Operand.tmp 96) (Go.Operand.const (Go.Value.int Go.IntKind.i64 1)) 3, type := 3, pos := _, after := #[{ on := 12, ground := Go.Ground.data }], guard := none }) (v := ?vb13) rfl (by kernel_rfl) (by kernel_rfl) (by kernel_rfl) (fun _ _ _ h => h) (Or.inl ⟨by rfl, ?hyb13⟩) (by assumption) ?_
            case hyb13 => (intro wz hSw; (try dsimp only at hSw); go_simp; try with_reducible rfl)
            (try simp only [Act.put, List.setIfInBounds_toArray, List.set_cons_zero, List.set_cons_succ])
            refine wpAnyH_ready (rs := [14]) (by kernel_rfl) (by simp) ?_
            refine AllReadyH.cons (o := { dst := some 98, op := Go.Op.call { callee := Go.Callee.value (Go.Operand.func 32), args := #[Go.Operand.tmp 89, Go.Operand.tmp 95, Go.Operand.tmp 97], argTypes := #[81, 81, 3] }, type := 4, pos := _, after := #[{ on := 5, ground := Go.Ground.data }, { on := 11, ground := Go.Ground.data }, { on := 13, ground := Go.Ground.data }], guard := none }) rfl (fun K hK => ?_) AllReadyH.nil
            go_simp
            refine Calls.mono (CALL.out _) ?_; rintro e w4 ⟨rfl, hb4⟩
            have BB : Hid (Below w.heap.size w w4) := Lib.hid (HBL.out.trans ((bN 1 _ wr).trans (hb4.mono (by have := HBL.out.size; exact this))))
            have r4 := (BB.out.cell (p := ⟨b1, o1 + 3, none⟩) (World.block_lt_of_cell? w _ p3)).trans p3
            have s4 := (BB.out.cell (p := ⟨b2, o2 + 3, none⟩) (World.block_lt_of_cell? w _ q3)).trans q3
            clear hb4 CALL
            go_wp2_with fail
            refine hK.out _ _ ?_ (fun hHeld => ?_)
            · (try dsimp only); go_keep
            clear hK K
            (try simp only [Act.put, List.setIfInBounds_toArray, List.set_cons_zero, List.set_cons_succ])
            refine wpAnyH_take (i := 15) (oi := { dst := some 99, op := Go.Op.unOp Go.UnOp.not 4 (Go.Operand.tmp 98), type := 4, pos := _, after := #[{ on := 14, ground := Go.Ground.data }], guard := none }) (v := ?vb15) rfl (by kernel_rfl) (by kernel_rfl) (by kernel_rfl) (fun _ _ _ h => h) (Or.inl ⟨by rfl, ?hyb15⟩) (by assumption) ?_
            case hyb15 => (intro wz hSw; (try dsimp only at hSw); go_simp; try with_reducible rfl)
            (try simp only [Act.put, List.setIfInBounds_toArray, List.set_cons_zero, List.set_cons_succ])
            refine wpAnyH_done (by kernel_rfl) ?_ _
            clear hwr
            go_wp2
            go_roundw
            case rel => exact ⟨k + 1, by omega, by go_num, HN.out, BB.out⟩
            case measure => simp [intOf]; omega
        · have hge : ¬ (k : Int) < (l.length : Int) := by omega
          have HN : Hid (allB (sameD d) l m = true) := Lib.hid (by
            rw [HALL.out, List.drop_eq_nil_of_le (by omega)]; rfl)
          clear HALL
          go_wp2
          go_ret
          exact ⟨by rw [HN.out]; rfl, HBL.out⟩
    · have dl : ((l.length : Int) == (m.length : Int)) = false := beq_eq_false_iff_ne.2 (by omega)
      have dl' : ((l.length : Int) != (m.length : Int)) = true := by simp [bne, dl]
      have dn : (l.length == m.length) = false := beq_eq_false_iff_ne.2 hlen
      have dn' : (l.length != m.length) = true := by simp [bne, dn]
      go_enter Tryd.func32, Tryd.ntmps32
      go_wp2
      go_quiet (fail)
      go_wp2
      go_quiet (fail)
      go_wp2
      go_ret
      exact ⟨by simp only [dn, Bool.and_false, Bool.false_and, Bool.true_and, Bool.and_true]; rfl, (bN _ _ _).trans (bN _ _ _)⟩
theorem okV_later {w w' : World} {V : VT} {b o : Nat} (hb : Below w.heap.size w w') (h : okV w V b o) : okV w' V b o := by
  have hlt : b < w.heap.size := ((okV_eq _ _ _ _).1 h).1
  have h1 : VRow w (some ⟨b, o, none⟩) [V] := .inr ⟨b, o, rfl, hlt, by rw [okL, okL]; exact ⟨h, trivial⟩⟩
  have := row7 (h1.later hb) 0 (by simp)
  simpa using this
theorem okV_box {w : World} {V : VT} {A : Option Addr} {c : Nat} {e : Value} (hn : -9223372036854775808 ≤ V.n ∧ V.n ≤ 9223372036854775807) (hA : VRow w A V.args) : okV (w.alloc (.cells #[.int .i64 V.k, .int .i64 V.n, .string V.nm, .slice A V.args.length c, .int .i64 V.node, e, .int .i64 V.at_] 26)) V w.heap.size 0 := by
  have hx : ∀ (j : Nat) (v : Value), #[.int .i64 V.k, .int .i64 V.n, .string V.nm, .slice A V.args.length c, .int .i64 V.node, e, .int .i64 V.at_][j]? = some v → (w.alloc (.cells #[.int .i64 V.k, .int .i64 V.n, .string V.nm, .slice A V.args.length c, .int .i64 V.node, e, .int .i64 V.at_] 26)).cell? ⟨w.heap.size, j, none⟩ = some v := fun j v h => by
    have := (MapKept.heap_alloc w (.cells #[.int .i64 V.k, .int .i64 V.n, .string V.nm, .slice A V.args.length c, .int .i64 V.node, e, .int .i64 V.at_] 26)).1
    unfold World.cell?
    rw [this]; simpa using h
  rw [okV_eq]
  exact ⟨by show _ < (w.heap.push _).size; simp, hn, hx 0 _ rfl, hx 1 _ rfl, hx 2 _ rfl, ⟨A, c, hx 3 _ rfl, hA.later (below_alloc _ _)⟩, hx 4 _ rfl, ⟨e, hx 5 _ rfl⟩, hx 6 _ rfl⟩
set_option maxRecDepth 100000 in
set_option maxHeartbeats 4000000 in
theorem Same_any {w : World} {V U : VT} {v u : Value} {d : Nat} (hb : bigD (d + 1) V = false) (hd : d ≤ 100) (hv : VIn w V v) (hu : VIn w U u) : Calls Tryd.prog 15 #[v, u] w fun e w' => e = .returned (.bool (sameD (d + 1) V U)) ∧ Below w.heap.size w w' := by
  obtain ⟨A, c, e, rfl, hn, hA⟩ := hv
  have hu' := hu.later (below_alloc w (.cells #[.int .i64 V.k, .int .i64 V.n, .string V.nm, .slice A V.args.length c, .int .i64 V.node, e, .int .i64 V.at_] 26))
  obtain ⟨B, c2, e2, rfl, hn2, hB⟩ := hu'
  have h1 := okV_box (c := c) (e := e) hn hA
  have h2 := okV_box (c := c2) (e := e2) hn2 hB
  have h3 := okV_later (below_alloc _ (.cells #[.int .i64 U.k, .int .i64 U.n, .string U.nm, .slice B U.args.length c2, .int .i64 U.node, e2, .int .i64 U.at_] 26)) h1
  have hsz : ∀ o, (w.alloc o).heap.size = w.heap.size + 1 := fun o => by show (w.heap.push o).size = _; simp
  rw [hsz] at h2
  have CL := Lib.hid (same_V (d + 1) V U _ _ _ _ 0 _ hb (by omega) (by omega) h3 h2)
  have BA := Lib.hid ((below_alloc w (.cells #[.int .i64 V.k, .int .i64 V.n, .string V.nm, .slice A V.args.length c, .int .i64 V.node, e, .int .i64 V.at_] 26)).trans ((below_alloc _ (.cells #[.int .i64 U.k, .int .i64 U.n, .string U.nm, .slice B U.args.length c2, .int .i64 U.node, e2, .int .i64 U.at_] 26)).mono (by rw [hsz]; omega)))
  clear h1 h2 h3 hA hB hu hn hn2 hb hsz
  go_enter Tryd.func15, Tryd.ntmps15
  go_wp2_with fail
  refine CL.out.mono ?_; rintro e w1 ⟨rfl, hb1⟩
  have B1 := Lib.hid (BA.out.trans (hb1.mono BA.out.size))
  clear hb1 BA CL
  go_wp2
  go_ret
  exact ⟨rfl, B1.out⟩
end Go.Proofs.YtclilpabdcdeoaaDoor
