import Derived.Test.YtaidlcnfkdaijaaBeq
namespace Go.Proofs.Ytaidlcnfkdaijaa
open Go.ChangeShapes Go.WideShapes Go.ChangeAt Go.RowKit
set_option linter.unusedVariables false
theorem DPost.of {w w' : World} {g : Nat} {ov nv v : Value} {at_ done n : Nat} {shift : Int} {old new ys : List Nat} (r : Wr w' w.heap.size g ov nv at_ done shift v n ys) (hb : Below w.heap.size w w')
    (h : ∃ l, PS old ys = some l ∧ l.flatten = new ∧ ys.length ≤ new.length + 8) (h16 : old = new → ys.length ≤ 16) : DPost w old new (.returned v) w' := by
  obtain ⟨l, h1, h2, h3⟩ := h
  have hn := own_len r.own
  subst hn
  exact ⟨v, ys, l, rfl, r.own, h1, h2, h3, h16, hb⟩
theorem wrote_none (new : List Nat) : wrote new 0 0 = [] := rfl
theorem wk_sh (F k a : Nat) (hF : F ≤ 5000) (hk : k ≤ 5000) (ha : a ≤ 5000) : IntKind.i64.wrap ((F : Int) + k) = F + k ∧ IntKind.i64.wrap ((F : Int) + k - a) = F + k - a := by
  refine ⟨?_, ?_⟩ <;> (simp only [IntKind.wrap_i64]; omega)
theorem head_same {w : World} {B g : Nat} {ov nv v : Value} {at_ done n : Nat} (y : Nat) {shift : Int} {xs : List Nat} (r : Wr w B g ov nv at_ done shift v n xs) (hy : y < 1000000) (hn : n ≤ 90000) :
    Calls Try.prog 17 #[.pointer (some ⟨g, 0, none⟩), .int .u8 1, .slice (some ⟨w.heap.size, 0, none⟩) 2 2] (w.alloc (.cells #[.int .i64 0, .int .i64 y] 3)) fun e w' => ∃ v' n', e = .returned (.tuple #[]) ∧ Wr w' B g ov nv at_ done shift v' n' (xs ++ 1 :: (putF 9 0 ++ putF 9 y)) ∧ Below B w w' :=
  head_two (kind := 1) (x := 0) r (by omega) (by omega) hy hn
theorem head_copy {w : World} {B g : Nat} {ov nv v : Value} {at_ done n : Nat} (x y : Nat) {shift : Int} {xs : List Nat} (r : Wr w B g ov nv at_ done shift v n xs) (hx : x < 1000000) (hy : y < 1000000) (hn : n ≤ 90000) :
    Calls Try.prog 17 #[.pointer (some ⟨g, 0, none⟩), .int .u8 1, .slice (some ⟨w.heap.size, 0, none⟩) 2 2] (w.alloc (.cells #[.int .i64 x, .int .i64 y] 3)) fun e w' => ∃ v' n', e = .returned (.tuple #[]) ∧ Wr w' B g ov nv at_ done shift v' n' (xs ++ 1 :: (putF 9 x ++ putF 9 y)) ∧ Below B w w' :=
  head_two (kind := 1) r (by omega) hx hy hn
theorem same_ok (old new : List Nat) (h : old = new) (h0 : 0 < new.length) (hl : new.length ≤ 420) : (∃ l, PS old ([] ++ 1 :: (putF 9 0 ++ putF 9 new.length)) = some l ∧ l.flatten = new ∧ ([] ++ 1 :: (putF 9 0 ++ putF 9 new.length)).length ≤ new.length + 8) ∧ ([] ++ 1 :: (putF 9 0 ++ putF 9 new.length)).length ≤ 16 := by
  subst h
  have h1 : (putF 9 0).length = 1 := by rw [putF_small 9 0 (by omega)]; rfl
  have h2 := putF_two old.length (by omega)
  refine ⟨⟨_, (Codes.snoc .nil (full_copied old 0 old.length h0 (by omega) (by omega) (by omega))).all, by simp, ?_⟩, ?_⟩
  all_goals (simp only [List.nil_append, List.length_cons, List.length_append]; omega)
set_option maxRecDepth 100000 in
set_option maxHeartbeats 4000000 in
theorem diff_any {w : World} {A B : Option Addr} {no co nn cn : Nat} {old new : List Nat} (so : Sl w A no co old) (sn : Sl w B nn cn new) (ho : no ≤ 420) (hn : nn ≤ 420) (hob : ∀ j, old.getD j 0 < 256) (hnb : ∀ j, new.getD j 0 < 256) :
    Calls Try.prog 13 #[.slice A no co, .slice B nn cn] w fun e w' => DPost w old new e w' := by
  have BQ : Hid (∀ W, Below w.heap.size w W → Calls Try.prog 16 #[.slice A no co, .slice B nn cn] W fun e w' => ∃ q : Bool, e = .returned (.bool q) ∧ (q = true ↔ strB old = strB new) ∧ Below W.heap.size W w') := Lib.hid (fun W hW => bequal_any (so.below hW) (sn.below hW))
  have EQB : Hid (strB old = strB new → old = new) := Lib.hid (strB_inj old new hob hnb)
  have SO := Lib.hid so; have SN := Lib.hid sn
  have LO := so.1; have LN := sn.1
  have hbig : ¬ (4194304 : Int) < (nn : Int) := by omega
  have WS := Lib.hid (Wr.start w (.slice A no co) (.slice B nn cn))
  clear so sn hob hnb
  rcases Nat.eq_zero_or_pos nn with h0 | h0
  · subst h0
    go_enter Try.func13, Try.ntmps13
    go_wp2
    refine wp_loop_rounds 1 ?_
    rw [rounds_succ]
    go_wp2_with fail
    refine (write_any (below_alloc w _) WS.out SN.out (Nat.le_refl _) hn (by omega)).mono ?_
    rintro e w2 ⟨v, n, rfl, r2, hb2⟩
    have c5 := r2.obj.c5
    rw [wrote_none, List.append_nil] at r2
    have FIN : Hid (DPost w old new (.returned v) w2) := Lib.hid (DPost.of r2 ((below_alloc w _).trans hb2) ⟨[], rfl, by have := List.eq_nil_of_length_eq_zero LN; rw [this]; rfl, by simp⟩ (fun _ => by simp))
    clear r2 hb2
    go_wp2
    go_ret
    exact FIN.out
  · have h0' : (0 : Int) < (nn : Int) := by omega
    go_enter Try.func13, Try.ntmps13
    go_wp2_with fail
    refine (BQ.out _ (below_alloc w _)).mono ?_
    rintro e w1 ⟨q, rfl, hq, hb1⟩
    have B1 := Lib.hid ((below_alloc w (.cells #[.slice A no co, .slice B nn cn, .int .i64 0, .int .i64 0, .int .i64 0, .slice none 0 0] 41)).trans (hb1.mono (by simp)))
    have R1 := Lib.hid (WS.out.below hb1)
    have HQ := Lib.hid hq
    clear hq hb1
    cases q with
    | true =>
      have EQ : Hid (old = new) := Lib.hid (EQB.out (HQ.out.1 rfl))
      go_wp2_with fail
      refine (head_same nn R1.out (by omega) (by omega)).mono ?_
      rintro e w2 ⟨v, n, rfl, r2, hb2⟩
      have c5 := r2.obj.c5
      have SM := same_ok old new EQ.out (by omega) (by omega)
      rw [LN] at SM
      have FIN : Hid (DPost w old new (.returned v) w2) := Lib.hid (DPost.of r2 (B1.out.trans hb2) (by rw [LN]; exact SM.1) (fun _ => SM.2))
      clear r2 hb2 SM
      go_wp2
      go_ret
      exact FIN.out
    | false =>
      have NE : Hid (old ≠ new) := Lib.hid (fun e => by have := HQ.out.2 (by rw [e]); cases this)
      have I0 := Lib.hid (Inv.start old new)
      go_wp2
      go_loopw [6, 7] (fun _ _ wr => ∃ (at_ done n : Nat) (shift : Int) (v : Value) (xs : List Nat), at_ ≤ nn ∧ -1000 ≤ shift ∧ shift ≤ 1000 ∧ Hid (Wr wr w.heap.size w.heap.size (.slice A no co) (.slice B nn cn) at_ done shift v n xs) ∧ Hid (Below w.heap.size w wr) ∧ Hid (Inv old new at_ done xs)) (fun _ _ wr => nn - atOf wr w.heap.size)
      case atStart => exact ⟨0, 0, 0, 0, _, [], by omega, by omega, by omega, R1, B1, I0⟩
      case round =>
        obtain ⟨at_, done, n, shift, v, xs, hat, hs1, hs2, r, hb, inv⟩ := hrel
        have c2 := r.out.obj.c2
        have hnl : n ≤ 420 := by have := own_len r.out.own; have := inv.out.len; have := inv.out.le; omega
        by_cases hal : at_ < nn
        · have hal' : (at_ : Int) < (nn : Int) := by omega
          go_wp2_with fail
          refine (run_any r.out.obj (SO.out.below hb.out) (SN.out.below hb.out) hs1 hs2 hat ho hn).mono ?_
          rintro e w2 ⟨f, k, rfl, hb2, hk, hk420⟩
          have r2 := Lib.hid (r.out.below hb2)
          have B2 := Lib.hid (hb.out.trans (hb2.mono hb.out.size))
          have c2' := r2.out.obj.c2
          have f2 := r2.out.obj.f 2
          have HK := Lib.hid hk
          have AT := Lib.hid (atOf_eq r.out.obj)
          clear hb2 hk c2
          by_cases hk16 : k < 16
          · have d1 := decide_eq_true (show (k : Int) < 16 by omega)
            have d2 := decide_eq_true hk16
            have r3 := Lib.hid (r2.out.set2 (at_ + 1))
            have I3 : Hid (Inv old new (at_ + 1) done xs) := Lib.hid (inv.out.next (by omega))
            have B3 : Hid (Below w.heap.size w (w2.setCell ⟨w.heap.size, 2, none⟩ (.int .i64 ((at_ + 1 : Nat) : Int)))) := Lib.hid (B2.out.setCell (Nat.le_refl _) _)
            have ME : Hid (nn - atOf (w2.setCell ⟨w.heap.size, 2, none⟩ (.int .i64 ((at_ + 1 : Nat) : Int))) w.heap.size < nn - atOf wr w.heap.size) := Lib.hid (by rw [AT.out, atOf_eq r3.out.obj]; omega)
            clear hk16
            go_wp2
            go_roundw
            case rel => exact ⟨at_ + 1, done, n, shift, v, xs, by omega, hs1, hs2, r3, B3, I3⟩
            case measure => exact ME.out
          · have d1 := decide_eq_false (show ¬ (k : Int) < 16 by omega)
            have d2 := decide_eq_false hk16
            obtain ⟨F, rfl, he⟩ := HK.out (by omega)
            have e1 := he.1; have e2 := he.2.1
            have I3 := Lib.hid (inv.out.copied (by omega) (by omega) (by omega) he)
            have HWL := (inv.out.wr (by omega)).2
            obtain ⟨N, hN⟩ : ∃ N : Nat, (at_ : Int) + (k : Int) = N := ⟨at_ + k, by omega⟩
            obtain ⟨P, hP⟩ : ∃ P : Nat, (F : Int) + (k : Int) = P := ⟨F + k, by omega⟩
            obtain ⟨Z, hZ⟩ : ∃ Z : Int, (P : Int) - (N : Int) = Z := ⟨_, rfl⟩
            have eN : at_ + k = N := by omega
            have hNn : N ≤ nn := by omega
            have hPn : P ≤ 1000 := by omega
            have hZ1 : -1000 ≤ Z := by omega
            have hZ2 : Z ≤ 1000 := by omega
            rw [eN] at I3
            have hFk : F < 1000000 ∧ k < 1000000 := by omega
            go_wp2_with fail
            refine (write_any B2.out r2.out SN.out hat hn (by omega)).mono ?_
            rintro e w3 ⟨v3, n3, rfl, r3, hb3⟩
            have B3 := Lib.hid (B2.out.trans hb3)
            have R3 := Lib.hid r3
            have HN3 : Hid (n3 ≤ 90000) := Lib.hid (by have := own_len r3.own; omega)
            clear r3 hb3 c2'
            go_wp2_with fail
            refine (head_copy F k R3.out hFk.1 hFk.2 HN3.out).mono ?_
            rintro e w4 ⟨v4, n4, rfl, r4, hb4⟩
            have B4 := Lib.hid (B3.out.trans hb4)
            have x2 := r4.obj.c2; have y2 := r4.obj.f 2; have x3 := r4.obj.c3; have y3 := r4.obj.f 3; have x4 := r4.obj.c4; have y4 := r4.obj.f 4
            have s2 := r4.set2 N
            have s3 := s2.set3 N
            have s4 := s3.set4 Z
            have b4 : Below w.heap.size w (((w4.setCell ⟨w.heap.size, 2, none⟩ (.int .i64 N)).setCell ⟨w.heap.size, 3, none⟩ (.int .i64 N)).setCell ⟨w.heap.size, 4, none⟩ (.int .i64 Z)) := ((B4.out.setCell (Nat.le_refl _) _).setCell (Nat.le_refl _) _).setCell (Nat.le_refl _) _
            have ME : Hid (nn - atOf (((w4.setCell ⟨w.heap.size, 2, none⟩ (.int .i64 N)).setCell ⟨w.heap.size, 3, none⟩ (.int .i64 N)).setCell ⟨w.heap.size, 4, none⟩ (.int .i64 Z)) w.heap.size < nn - atOf wr w.heap.size) := Lib.hid (by rw [AT.out, atOf_eq s4.obj]; omega)
            have S4 := Lib.hid s4
            have b4 := Lib.hid b4
            clear s2 s3 s4 r4 hb4
            clear HWL he eN
            go_wp2
            go_roundw
            case rel => exact ⟨N, N, n4, Z, v4, _, hNn, hZ1, hZ2, S4, b4, I3⟩
            case measure => exact ME.out
        · have hal' : ¬ (at_ : Int) < (nn : Int) := by omega
          have HGE : Hid (nn ≤ at_) := Lib.hid (by omega)
          go_wp2_with fail
          refine (write_any hb.out r.out SN.out hat hn (by omega)).mono ?_
          rintro e w2 ⟨v2, n2, rfl, r2, hb2⟩
          have c5 := r2.obj.c5
          have FIN : Hid (DPost w old new (.returned v2) w2) := Lib.hid (DPost.of r2 (hb.out.trans hb2) (inv.out.fin (by omega) (by have := HGE.out; omega)) (fun e => absurd e NE.out))
          clear r2 hb2
          go_wp2
          go_ret
          exact FIN.out
end Go.Proofs.Ytaidlcnfkdaijaa
