import Derived.Test.YtaidlcnfkdaijaaHead
import Derived.Deep.RegionHeld3
import Derived.Deep.AppendLies
import Derived.Deep.RegionLaw
namespace Go.Proofs.Ytaidlcnfkdaijaa
open Go.ChangeShapes Go.WideShapes Go.ChangeAt Go.RowKit
set_option linter.unusedVariables false
def wrote (new : List Nat) (done at_ : Nat) : List Nat := if done < at_ then (2 :: putF 9 (at_ - done)) ++ (new.drop done).take (at_ - done) else []
theorem Wr.alloc {w : World} {B g : Nat} {ov nv v : Value} {at_ done n : Nat} {shift : Int} {xs : List Nat} (r : Wr w B g ov nv at_ done shift v n xs) (o : Obj) : Wr (w.alloc o) B g ov nv at_ done shift v n xs :=
  ⟨r.obj.below (below_alloc w o), r.own.alloc o, r.ne, r.le⟩
theorem Wr.drewN {w : World} {B g : Nat} {ov nv v : Value} {at_ done n : Nat} {shift : Int} {xs : List Nat} (r : Wr w B g ov nv at_ done shift v n xs) (k : Nat) : Wr (w.drewN k) B g ov nv at_ done shift v n xs :=
  ⟨r.obj, r.own, r.ne, r.le⟩
theorem Wr.drew {w : World} {B g : Nat} {ov nv v : Value} {at_ done n : Nat} {shift : Int} {xs : List Nat} (r : Wr w B g ov nv at_ done shift v n xs) : Wr w.drew B g ov nv at_ done shift v n xs :=
  ⟨r.obj, r.own, r.ne, r.le⟩
theorem below_drew' {B : Nat} {w x : World} (h : Below B w x) : Below B w x.drew := ⟨h.os, h.tape, h.output, h.size, h.block⟩
theorem gr_of {w w' : World} {v : Value} {gg n cap : Nat} (hg : w.grownBy w' v.ownBlock) (hat : v.ownBlock = some gg ∨ gg = w.heap.size) : Gr w w' v (.slice (some ⟨gg, 0, none⟩) n cap) := by
  refine ⟨⟨hg.os, hg.tape, hg.output, hg.size, hg.block⟩, ?_⟩
  rcases hat with e | e
  · exact .inl (by rw [e]; rfl)
  · right; intro k hk; simp [Value.ownBlock] at hk; omega
theorem head_one {w : World} {B g : Nat} {ov nv v : Value} {at_ done n kind x : Nat} {shift : Int} {xs : List Nat} (r : Wr w B g ov nv at_ done shift v n xs) (hk : kind < 256) (hx : x < 1000000) (hn : n ≤ 90000) :
    Calls Try.prog 17 #[.pointer (some ⟨g, 0, none⟩), .int .u8 kind, .slice (some ⟨w.heap.size, 0, none⟩) 1 1] (w.alloc (.cells #[.int .i64 x] 3)) fun e w' => ∃ v' n', e = .returned (.tuple #[]) ∧ Wr w' B g ov nv at_ done shift v' n' (xs ++ kind :: putF 9 x) ∧ Below B w w' := by
  have hlt := r.obj.lt
  refine (head_any (ls := [x]) (r.alloc _) hk (by omega) (fun e => by have := (r.own.lt _ e).2; omega) (by simp) ?_ (by simp) ?_ hn).mono ?_
  · intro j hj
    have := new_cell w (.int .i64 x) 3
    match j, hj with
    | 0, _ => exact this
  · intro j
    match j with
    | 0 => exact hx
    | k + 1 => simp
  · rintro e w' ⟨v', n', he, h1, h2⟩
    exact ⟨v', n', he, by simpa [encs] using h1, ((Below.refl _ _).alloc (Nat.le_of_lt (Nat.lt_of_le_of_lt r.le hlt)) _).trans h2⟩
theorem head_two {w : World} {B g : Nat} {ov nv v : Value} {at_ done n kind x y : Nat} {shift : Int} {xs : List Nat} (r : Wr w B g ov nv at_ done shift v n xs) (hk : kind < 256) (hx : x < 1000000) (hy : y < 1000000) (hn : n ≤ 90000) :
    Calls Try.prog 17 #[.pointer (some ⟨g, 0, none⟩), .int .u8 kind, .slice (some ⟨w.heap.size, 0, none⟩) 2 2] (w.alloc (.cells #[.int .i64 x, .int .i64 y] 3)) fun e w' => ∃ v' n', e = .returned (.tuple #[]) ∧ Wr w' B g ov nv at_ done shift v' n' (xs ++ kind :: (putF 9 x ++ putF 9 y)) ∧ Below B w w' := by
  have hlt := r.obj.lt
  refine (head_any (ls := [x, y]) (r.alloc _) hk (by omega) (fun e => by have := (r.own.lt _ e).2; omega) (by simp) ?_ (by simp) ?_ hn).mono ?_
  · intro j hj
    have := (MapKept.heap_alloc w (Obj.cells #[.int .i64 x, .int .i64 y] 3)).1
    match j, hj with
    | 0, _ => unfold World.cell?; rw [this]; rfl
    | 1, _ => unfold World.cell?; rw [this]; rfl
  · intro j
    match j with
    | 0 => exact hx
    | 1 => exact hy
    | k + 2 => simp
  · rintro e w' ⟨v', n', he, h1, h2⟩
    exact ⟨v', n', he, by simpa [encs] using h1, ((Below.refl _ _).alloc (Nat.le_of_lt (Nat.lt_of_le_of_lt r.le hlt)) _).trans h2⟩
theorem head_w {w : World} {k B g : Nat} {ov nv v : Value} {at_ done n : Nat} (x : Nat) {shift : Int} {xs : List Nat} (r : Wr w B g ov nv at_ done shift v n xs) (hx : x < 1000000) (hn : n ≤ 90000) :
    Calls Try.prog 17 #[.pointer (some ⟨g, 0, none⟩), .int .u8 2, .slice (some ⟨w.heap.size, 0, none⟩) 1 1] ((w.drewN k).alloc (.cells #[.int .i64 x] 3)) fun e w' => ∃ v' n', e = .returned (.tuple #[]) ∧ Wr w' B g ov nv at_ done shift v' n' (xs ++ 2 :: putF 9 x) ∧ Below B w w' := by
  refine (head_one (kind := 2) (r.drewN k) (by omega) hx hn).mono ?_
  rintro e w' ⟨v', n', he, h1, h2⟩
  exact ⟨v', n', he, h1, ⟨h2.os, h2.tape, h2.output, h2.size, h2.block⟩⟩
theorem head_c {w : World} {k B g : Nat} {ov nv v : Value} {at_ done n : Nat} (x y : Nat) {shift : Int} {xs : List Nat} (r : Wr w B g ov nv at_ done shift v n xs) (hx : x < 1000000) (hy : y < 1000000) (hn : n ≤ 90000) :
    Calls Try.prog 17 #[.pointer (some ⟨g, 0, none⟩), .int .u8 1, .slice (some ⟨w.heap.size, 0, none⟩) 2 2] ((w.drewN k).alloc (.cells #[.int .i64 x, .int .i64 y] 3)) fun e w' => ∃ v' n', e = .returned (.tuple #[]) ∧ Wr w' B g ov nv at_ done shift v' n' (xs ++ 1 :: (putF 9 x ++ putF 9 y)) ∧ Below B w w' := by
  refine (head_two (kind := 1) (r.drewN k) (by omega) hx hy hn).mono ?_
  rintro e w' ⟨v', n', he, h1, h2⟩
  exact ⟨v', n', he, h1, ⟨h2.os, h2.tape, h2.output, h2.size, h2.block⟩⟩
set_option maxRecDepth 100000 in
set_option maxHeartbeats 4000000 in
theorem write_any {w0 w : World} {g nn cn : Nat} {ov v : Value} {Bn : Option Addr} {at_ done n : Nat} {shift : Int} {xs new : List Nat} (hw : Below w0.heap.size w0 w) (r : Wr w w0.heap.size g ov (.slice Bn nn cn) at_ done shift v n xs) (sn : Sl w0 Bn nn cn new)
    (hat : at_ ≤ nn) (hnn : nn ≤ 420) (hn : n ≤ 80000) :
    Calls Try.prog 19 #[.pointer (some ⟨g, 0, none⟩)] w fun e w' => ∃ v' n', e = .returned (.tuple #[]) ∧ Wr w' w0.heap.size g ov (.slice Bn nn cn) at_ done shift v' n' (xs ++ wrote new done at_) ∧ Below w0.heap.size w w' := by
  have c2 := r.obj.c2; have c3 := r.obj.c3
  by_cases hda : done < at_
  · have d1 := decide_eq_true (show (done : Int) < (at_ : Int) by omega)
    have d2 := decide_eq_true hda
    obtain ⟨s1, s2, s3⟩ := sn
    obtain ⟨h, o, rfl, hlt, hc⟩ := s3 (by omega)
    obtain ⟨D, hD⟩ : ∃ D : Nat, at_ - done = D := ⟨at_ - done, rfl⟩
    have hDD : D = at_ - done := by omega
    have WT : Hid (wrote new done at_ = (2 :: putF 9 D) ++ (new.drop done).take D) := Lib.hid (by unfold wrote; rw [if_pos hda, hDD])
    have R := Lib.hid r; have HW := Lib.hid hw; have HC := Lib.hid hc
    have hD2 : D ≤ 420 := by omega
    have hcn : ¬ cn = done := by omega
    have dle : done ≤ at_ := by omega
    have ale : at_ ≤ cn := by omega
    obtain ⟨i0, hi0, hz0, hz1, hz2⟩ := info_parts info5
    have WQ : Hid (IntKind.i64.wrap ((at_ : Int) - (done : Int)) = (D : Int)) := Lib.hid (by simp only [IntKind.wrap_i64]; omega)
    have HN : Hid (n ≤ 90000) := Lib.hid (by omega)
    have HD : Hid (D < 1000000) := Lib.hid (by omega)
    clear r hw hc hDD
    go_enter Try.func19, Try.ntmps19
    go_wp2
    go_quiet (fail)
    go_wp2_with fail
    have wq := WQ.out
    go_region_held3 (fun w' => w'.cell? ⟨g, 2, none⟩ = some (.int .i64 at_) ∧ w'.cell? ⟨g, 3, none⟩ = some (.int .i64 done)) (go_keep)
      ((go_at_call 17; refine (head_w D R.out HD.out HN.out).mono ?_; rintro e w1 ⟨v1, n1, rfl, r1, hb1⟩; have y2 := r1.obj.c2; have y3 := r1.obj.c3))
    clear y2 y3 c2 c3
    have A1 := r1.obj.c1; have A2 := r1.obj.c2; have A3 := r1.obj.c3; have A5 := r1.obj.c5; have F5 := r1.obj.f 5
    have r1 := r1.drew; have hb1 := below_drew' hb1
    have R1 := Lib.hid r1; have HB1 := Lib.hid hb1
    have NEWS : Hid (∀ (W : World), Below w0.heap.size w W → ∀ j u, (bys ((new.drop done).take D))[j]? = some u → W.cell? ((⟨h, o + done, none⟩ : Addr).add j) = some u) := Lib.hid (fun W hW j u hu => by
      have hj : j < D := by
        have := (List.getElem?_eq_some_iff.1 hu).1
        rw [bys_len, List.length_take] at this; omega
      have e1 : (⟨h, o + done, none⟩ : Addr).add j = ⟨h, o + (done + j), none⟩ := by rw [Go.WideShapes.add_plain]; congr 1; omega
      rw [e1, hW.cell (p := ⟨h, o + (done + j), none⟩) hlt, HW.out.cell (p := ⟨h, o + (done + j), none⟩) hlt, HC.out (done + j) (by omega), ← hu]
      simp [bys, hj, show done + j < new.length by omega])
    have LEN : Hid ((bys ((new.drop done).take D)).length = D * 1) := Lib.hid (by rw [bys_len, List.length_take, List.length_drop]; omega)
    have n1e := own_len r1.own
    have HN1 : Hid (n1 + D ≤ maxLen ∧ (n1 + D) * 1 ≤ 140737488355328) := Lib.hid (by
      have := (putF_len 9 D).2
      have e := own_len R.out.own
      rw [List.length_append, List.length_cons] at n1e; unfold maxLen; omega)
    have HD0 : Hid (0 < D) := Lib.hid (by omega)
    have HBS : Hid (w0.heap.size ≤ w1.drew.heap.size) := Lib.hid (Nat.le_trans (Nat.le_of_lt (Nat.lt_of_le_of_lt R.out.le R.out.obj.lt)) hb1.size)
    clear n1e wq r1 hb1
    go_wp2_with fail
    go_region_law ((refine step_append_lies _ (by rfl) _ _ _ (by rfl) w0.heap.size 5 i0 (.int .u8 0) 1 1 Try.underlying22 hi0 hz0 hz1 hz2 rfl (by decide) v1 n1 _ (by rfl) R1.out.own ⟨h, o + done, none⟩ D (cn - done) (bys ((new.drop done).take D)) (by rfl) LEN.out (NEWS.out _ HB1.out) (bys_one _) HD0.out HN1.out.1 HN1.out.2 HBS.out _ rfl ?_; intro gg cap w2 own2 hgrow hat hlt2; have G2 := Lib.hid (gr_of (n := n1 + D) (cap := cap) hgrow hat); have o2 := R1.out.obj' G2.out; have z5 := o2.c5; have f5 := o2.f 5))
    all_goals (
      have own2' : w2.ownsRow w0.heap.size 5 1 (.slice (some ⟨gg, 0, none⟩) (n1 + D) cap) (n1 + D) (bys ((xs ++ 2 :: putF 9 D) ++ (new.drop done).take D)) := by rw [bys_app]; exact own2
      obtain ⟨ST, SB⟩ := R1.out.step own2' G2.out
      have FIN := Lib.hid (And.intro ST (HB1.out.trans SB))
      clear ST SB own2' own2 hgrow hat o2
      go_wp2
      go_returns
      refine ⟨.slice (some ⟨gg, 0, none⟩) (n1 + D) cap, n1 + D, rfl, ?_, FIN.out.2⟩
      rw [WT.out, ← List.append_assoc]
      exact FIN.out.1)
  · have d1 := decide_eq_false (show ¬ (done : Int) < (at_ : Int) by omega)
    have d2 := decide_eq_false hda
    have WT : Hid (wrote new done at_ = []) := Lib.hid (by unfold wrote; rw [if_neg hda])
    have R := Lib.hid r
    clear r
    go_enter Try.func19, Try.ntmps19
    go_wp2
    go_quiet (fail)
    go_wp2
    go_returns
    exact ⟨v, n, rfl, by rw [WT.out, List.append_nil]; exact R.out.drewN _, (Below.refl _ _).trans (show Below _ w _ from ⟨rfl, rfl, rfl, Nat.le_refl _, fun _ _ => rfl⟩)⟩
end Go.Proofs.Ytaidlcnfkdaijaa
