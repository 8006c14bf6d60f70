import Derived.Test.YtdnakmbfkpjaeaaDoorAwake
namespace Go.Proofs.YtdnakmbfkpjaeaaDoor
open Go.ChangeShapes Go.WideShapes Go.ChangeAt Go.RowKit
set_option linter.unusedVariables false
/-- a row of one's own, apart from the tape. -/
def Ap (vf iv ov : Value) (g : Nat) : Prop := ∀ k, vf.ownBlock = some k → k ≠ g ∧ iv.ownBlock ≠ some k ∧ ov.ownBlock ≠ some k
def firsts (inp : List Int) (i : Nat) : List Int := (List.range i).map fun j => inp.getD j 0
theorem firsts_len (inp : List Int) (i : Nat) : (firsts inp i).length = i := by simp [firsts]
theorem firsts_succ (inp : List Int) (i : Nat) : firsts inp (i + 1) = firsts inp i ++ [inp.getD i 0] := by simp [firsts, List.range_succ]
theorem firsts_at (inp : List Int) (n i : Nat) (h : i < n) : (its (firsts inp n))[i]? = some (.int .i64 (inp.getD i 0)) := by
  rw [its_at _ i (by rw [firsts_len]; exact h)]
  simp [firsts, List.getD, h]
theorem getD_min (inp : List Int) (i : Nat) : inp.getD (min i inp.length) 0 = inp.getD i 0 := by
  by_cases h : i < inp.length
  · rw [Nat.min_eq_left (by omega)]
  · rw [Nat.min_eq_right (by omega), List.getD, List.getD, List.getElem?_eq_none (by omega), List.getElem?_eq_none (by omega)]
theorem tp_ge {w : World} {B g : Nat} {iv ov : Value} {inp out : List Int} {rd : Nat} (t : Tp w B g iv ov inp out rd) : ∀ k, k = g → B ≤ k := fun k h => h ▸ t.le
structure St (wr w : World) (g : Nat) (iv ov vf : Value) (inp out : List Int) (rd i : Nat) : Prop where
  tp : Tp wr w.heap.size g iv ov inp out rd
  own : wr.ownsRow w.heap.size 2 1 vf i (its (firsts inp i))
  ap : Ap vf iv ov g
  below : Below w.heap.size w wr
theorem St.read {wr w w2 : World} {g : Nat} {iv ov vf : Value} {inp out : List Int} {rd rd' i : Nat} (s : St wr w g iv ov vf inp out rd i) (t : Tp w2 w.heap.size g iv ov inp out rd') (f : Frm wr w2 (· = g)) : St w2 w g iv ov vf inp out rd' i :=
  ⟨t, own_frm s.own f (fun k h e => (s.ap k h).1 e), s.ap, s.below.trans (f.below (tp_ge s.tp) s.below.size)⟩
theorem St.print {wr w w2 : World} {g : Nat} {iv ov ov' vf : Value} {inp out out' : List Int} {rd i : Nat} (s : St wr w g iv ov vf inp out rd i) (t : Tp w2 w.heap.size g iv ov' inp out' rd) (f : Frm wr w2 (Mine g ov)) (n : ∀ k, ov'.ownBlock = some k → ov.ownBlock = some k ∨ wr.heap.size ≤ k) : St w2 w g iv ov' vf inp out' rd i := by
  refine ⟨t, own_frm s.own f (fun k h e => ?_), fun k h => ⟨(s.ap k h).1, (s.ap k h).2.1, fun e => ?_⟩, s.below.trans (f.below (mine_ge s.tp) s.below.size)⟩
  · rcases e with e | e
    · exact (s.ap k h).1 e
    · exact (s.ap k h).2.2 e
  · rcases n k e with e | e
    · exact (s.ap k h).2.2 e
    · have := (s.own.lt k h).2; omega
theorem St.back {wr w w2 : World} {g : Nat} {iv ov ov' vf : Value} {inp out out' : List Int} {rd rd' i : Nat} (s : St wr w g iv ov vf inp out rd i) (t : Tp w2 w.heap.size g iv ov' inp out' rd') (f : Frm wr w2 (· = g)) (n : ov'.ownBlock = ov.ownBlock) : St w2 w g iv ov' vf inp out' rd' i :=
  ⟨t, own_frm s.own f (fun k h e => (s.ap k h).1 e), fun k h => ⟨(s.ap k h).1, (s.ap k h).2.1, by rw [n]; exact (s.ap k h).2.2⟩, s.below.trans (f.below (tp_ge s.tp) s.below.size)⟩
theorem St.calm {wr w w2 : World} {g : Nat} {iv ov vf : Value} {inp out : List Int} {rd i : Nat} (s : St wr w g iv ov vf inp out rd i) (hb : Below wr.heap.size wr w2) : St w2 w g iv ov vf inp out rd i :=
  ⟨s.tp.below hb, own_frm s.own (Frm.of_below hb (Nat.le_refl _) (fun _ => False)) (fun _ _ h => h), s.ap, bt s.below hb⟩
theorem St.add {wr w w2 : World} {g gf cap : Nat} {iv ov vf : Value} {inp out : List Int} {rd i : Nat} {o : Obj} (s : St wr w g iv ov vf inp out rd i) (own2 : w2.ownsRow w.heap.size 2 1 (.slice (some ⟨gf, 0, none⟩) (i + 1) cap) (i + 1) (its (firsts inp (i + 1)))) (hg : (wr.alloc o).grownBy w2 vf.ownBlock) (hat : vf.ownBlock = some gf ∨ gf = wr.heap.size + 1) :
    St w2 w g iv ov (.slice (some ⟨gf, 0, none⟩) (i + 1) cap) inp out rd (i + 1) := by
  have sa := s.calm (below_alloc wr o)
  have f : Frm (wr.alloc o) w2 (fun k => vf.ownBlock = some k) := Frm.of_grown hg (fun k h => h)
  refine ⟨sa.tp.frm f (fun h => (s.ap g h).1 rfl) (fun k h e => (s.ap k e).2.1 h) (fun k h e => (s.ap k e).2.2 h), own2, fun k hk => ?_, sa.below.trans (f.below (fun k h => (s.own.lt k h).1) sa.below.size)⟩
  simp [Value.ownBlock] at hk
  subst hk
  rcases hat with e | e
  · exact s.ap _ e
  · have h1 := s.tp.obj.lt
    refine ⟨by omega, fun h => ?_, fun h => ?_⟩
    · have := (s.tp.rin.lt _ h).2; omega
    · have := (s.tp.rout.lt _ h).2; omega
theorem back_zero {w : World} {B g p : Nat} {iv ov : Value} {inp out : List Int} {rd : Nat} (t : Tp w B g iv ov inp out rd) (hp : p ≤ out.length) (hl : out.length ≤ 100000) (hi : inp.length ≤ 1000) :
    Calls Tryd.prog 9 #[.pointer (some ⟨g, 0, none⟩), .int .i64 0, .int .i64 p] w fun e w' => ∃ ov', e = .returned (.int .i64 0) ∧ Hid (Tp w' B g iv ov' inp (out.take p) 0) ∧ Hid (Frm w w' (· = g)) ∧ Hid (ov'.ownBlock = ov.ownBlock) :=
  back_any (r := 0) t (Nat.zero_le _) hp hl hi
theorem read_i {w : World} {B g : Nat} {iv ov : Value} {inp out : List Int} {i : Nat} (t : Tp w B g iv ov inp out (min i inp.length)) (hl : inp.length ≤ 1000) :
    Calls Tryd.prog 7 #[.pointer (some ⟨g, 0, none⟩)] w fun e w' => ∃ q : Bool, e = .returned (.tuple #[.int .i64 (inp.getD i 0), .bool q]) ∧ Hid (Tp w' B g iv ov inp out (min (i + 1) inp.length)) ∧ Hid (Frm w w' (· = g)) := by
  refine (read_any t hl).mono ?_
  rintro e w' ⟨rd', he, hr, ht, hf⟩
  rw [getD_min] at he
  have : rd' = min (i + 1) inp.length := by omega
  subst this
  exact ⟨_, he, ht, hf⟩
theorem print_i {w : World} {B g j : Nat} {iv ov : Value} {inp outs : List Int} {rd : Nat} (t : Tp w B g iv ov inp (outs.take j) rd) (hl : outs.length ≤ 100000) (hj : j < outs.length) :
    Calls Tryd.prog 8 #[.pointer (some ⟨g, 0, none⟩), .int .i64 (outs.getD j 0)] w fun e w' => ∃ ov', e = .returned (.tuple #[]) ∧ Hid (Tp w' B g iv ov' inp (outs.take (j + 1)) rd) ∧ Hid (Frm w w' (Mine g ov)) ∧ Hid (∀ k, ov'.ownBlock = some k → ov.ownBlock = some k ∨ w.heap.size ≤ k) := by
  have e : outs.take (j + 1) = outs.take j ++ [outs.getD j 0] := by rw [List.take_add_one]; simp [List.getD, hj]
  rw [e]
  exact print_any _ t (by rw [List.length_take]; omega)
set_option maxRecDepth 100000 in
set_option maxHeartbeats 8000000 in
theorem again_mid {w : World} {A B : Option Addr} {n c k d N M : Nat} {inp outs : List Int} (si : SlI w A n c inp) (so : SlI w B k d outs) (hn : n ≤ 50) (hk : k ≤ 30) (hN : N ≤ 60) (hM : M ≤ k) (hr : ∀ j, -9223372036854775808 ≤ outs.getD j 0 ∧ outs.getD j 0 ≤ 9223372036854775807) (htab : HTab w) :
    Calls Tryd.prog 4 #[.slice A n c, .int .i64 N, .int .i64 M, .slice B k d] w fun e w' => e = .returned (.bool true) ∧ Below w.heap.size w w' := by
  obtain ⟨i0, hi0, hz0, hz1, hz2⟩ := info_parts info2
  have b1 := decide_eq_false (show ¬ (50 : Int) < (n : Int) by omega)
  have b2 := decide_eq_false (show ¬ (30 : Int) < (k : Int) by omega)
  have b3 := decide_eq_false (show ¬ (N : Int) < 0 by omega)
  have b4 := decide_eq_false (show ¬ (60 : Int) < (N : Int) by omega)
  have b5 := decide_eq_false (show ¬ (M : Int) < 0 by omega)
  have b6 := decide_eq_false (show ¬ (k : Int) < (M : Int) by omega)
  have b1' := decide_eq_false (show ¬ 50 < n by omega)
  have b2' := decide_eq_false (show ¬ 30 < k by omega)
  have b4' := decide_eq_false (show ¬ 60 < N by omega)
  have b6' := decide_eq_false (show ¬ k < M by omega)
  have LI : Hid (inp.length = n) := Lib.hid si.1
  have LO : Hid (outs.length = k) := Lib.hid so.1
  have SI := Lib.hid si; have SO := Lib.hid so; have HR := Lib.hid hr; have HT := Lib.hid htab
  clear si so hr htab
  go_enter Tryd.func4, Tryd.ntmps4
  go_wp2_with fail
  refine (awake w HT.out).mono ?_; rintro e w1 ⟨rfl, hb1⟩
  have B1 := Lib.hid hb1; clear hb1
  go_wp2_with fail
  refine (new_any (SI.out.below B1.out) (by omega)).mono ?_
  rintro e w2 ⟨g, iv, ov, rfl, t, hb⟩
  have S0 : Hid (St w2 w g iv ov (.slice none 0 0) inp [] (min 0 inp.length) 0) := Lib.hid ⟨by
    have := t.out
    rw [Nat.zero_min]
    exact ⟨this.obj, own_mono this.rin B1.out.size, own_mono this.rout B1.out.size, this.ni, this.no, this.ne, Nat.le_trans B1.out.size this.le, this.rd⟩, World.ownsRow_nil _ _ _ _, fun k h => by simp [Value.ownBlock] at h, bt B1.out hb.out⟩
  clear t hb B1
  go_wp2
  go_loopw [11, 12] (fun fv ix wr => ∃ (i : Nat) (vf : Value), vf = fv ∧ ix = .int .i64 i ∧ i ≤ N ∧ Hid (St wr w g iv ov vf inp [] (min i inp.length) i)) (fun _ ix _ => N - (intOf ix).toNat)
  case atStart => exact ⟨0, _, rfl, rfl, by omega, S0⟩
  case round =>
    obtain ⟨i, vf, rfl, rfl, hi, s⟩ := hrel
    clear S0
    by_cases hil : i < N
    · have hil' : (i : Int) < (N : Int) := by omega
      go_wp2_with fail
      refine (read_i s.out.tp (by have := LI.out; omega)).mono ?_
      rintro e w3 ⟨q, rfl, t3, f3⟩
      have S3 := Lib.hid (s.out.read t3.out f3.out)
      have HS3 := Lib.hid S3.out.below.size
      clear t3 f3
      have HI9 : Hid (i ≤ 1000) := Lib.hid (by omega)
      have hi9 := HI9.out
      go_wp2_with (at_builtin; refine wpList_append_lies _ rfl (.tmp 72) (.tmp 74) 22 rfl w.heap.size 2 i0 (.int .i64 0) 1 8 Tryd.underlying22 hi0 hz0 hz1 hz2 rfl (by decide) _ i _ rfl (S3.out.own.alloc _) ⟨w3.heap.size, 0, none⟩ 1 1 [.int .i64 (inp.getD i 0)] rfl rfl ?c1 ?c2 (by omega) (by unfold maxLen; omega) (by omega) (Nat.le_trans HS3.out (by simp)) (w3.heap.size + 1) (by simp) ?_)
      case c1 =>
        intro j u hj
        match j, hj with
        | 0, hj => simp only [List.getElem?_cons_zero, Option.some.injEq] at hj; subst hj; exact new_cell w3 _ 2
      case c2 => intro u hu; simp only [List.mem_singleton] at hu; subst hu; rfl
      intro gf cap w4 own4 gr4 at4 lt4
      have S4 := Lib.hid (S3.out.add (by rw [firsts_succ, its_app]; exact own4) gr4 at4)
      clear own4 gr4 at4 lt4
      go_wp2
      go_roundw
      case rel => exact ⟨i + 1, _, rfl, by go_num, hil, S4⟩
      case measure => simp [intOf]; omega
    · obtain rfl : i = N := by omega
      have hil' : ¬ (i : Int) < (i : Int) := by omega
      clear hil
      obtain ⟨Af, cf, rfl⟩ := iform s.out.own
      have T0 : Hid (St wr w g iv ov (.slice Af i cf) inp (outs.take 0) (min i inp.length) i) := s
      clear s
      go_wp2
      go_loopw [15] (fun ix wr => ∃ (j : Nat) (ov' : Value), ix = .int .i64 j ∧ j ≤ k ∧ Hid (St wr w g iv ov' (.slice Af i cf) inp (outs.take j) (min i inp.length) i)) (fun ix _ => k - (intOf ix).toNat)
      case atStart => exact ⟨0, ov, rfl, by omega, T0⟩
      case round =>
        clear T0
        obtain ⟨j, ov2, rfl, hj, s⟩ := hrel
        by_cases hjk : j < k
        · have hjk' : (j : Int) < (k : Int) := by omega
          obtain ⟨ho, oo, rfl, hlo, hco⟩ := SO.out.2.2.2 (by omega)
          have x : wr.cell? ⟨ho, oo + j, none⟩ = some (.int .i64 (outs.getD j 0)) := by rw [s.out.below.cell (p := ⟨ho, oo + j, none⟩) hlo]; exact hco j hjk
          have HCO := Lib.hid hco
          clear hco
          go_wp2_with fail
          refine (print_i s.out.tp (by have := LO.out; omega) (by have := LO.out; omega)).mono ?_
          rintro e w3 ⟨ov3, rfl, t3, f3, n3⟩
          have S3 := Lib.hid (s.out.print t3.out f3.out n3.out)
          clear t3 f3 n3
          go_wp2
          go_roundw
          case rel => exact ⟨j + 1, ov3, by go_num, hjk, S3⟩
          case measure => simp [intOf]; omega
        · obtain rfl : j = k := by omega
          have hjk' : ¬ (j : Int) < (j : Int) := by omega
          clear hjk hj
          have TKO : outs.take j = outs := List.take_of_length_le (by have := LO.out; omega)
          have s1 : Hid (St wr w g iv ov2 (.slice Af i cf) inp outs (min i inp.length) i) := Lib.hid (by have := s.out; rw [TKO] at this; exact this)
          clear s TKO
          obtain ⟨tx, htx⟩ : ∃ tx, tx = strU (textL outs) := ⟨_, rfl⟩
          have HTX := Lib.hid htx; clear htx
          go_wp2_with fail
          refine (text_any s1.out.tp (by have := LO.out; omega) HR.out (HT.out wr s1.out.below)).mono ?_
          rintro e w3 ⟨rfl, hb3⟩
          rw [← HTX.out]
          have s3 := Lib.hid (s1.out.calm hb3)
          clear s1 hb3
          go_wp2_with fail
          refine (back_zero s3.out.tp (by have := LO.out; omega) (by have := LO.out; omega) (by have := LI.out; omega)).mono ?_
          rintro e w4 ⟨ov4, rfl, t4, f4, n4⟩
          have s4 : Hid (St w4 w g iv ov4 (.slice Af i cf) inp (outs.take M) (min 0 inp.length) i) := Lib.hid (s3.out.back (by have := t4.out; rw [Nat.zero_min]; exact this) f4.out n4.out)
          clear s3 t4 f4 n4
          go_wp2
          go_loopw [17] (fun ix wr => ∃ (y : Nat), ix = .int .i64 y ∧ y ≤ i ∧ Hid (St wr w g iv ov4 (.slice Af i cf) inp (outs.take M) (min y inp.length) i)) (fun ix _ => i - (intOf ix).toNat)
          case atStart => exact ⟨0, rfl, by omega, s4⟩
          case round =>
            clear s4
            obtain ⟨y, rfl, hy, s⟩ := hrel
            by_cases hyi : y < i
            · have hyi' : (y : Int) < (i : Int) := by omega
              go_wp2_with fail
              refine (read_i s.out.tp (by have := LI.out; omega)).mono ?_
              rintro e w5 ⟨q, rfl, t5, f5⟩
              have s5 := Lib.hid (s.out.read t5.out f5.out)
              clear t5 f5
              obtain ⟨gf, cf', e⟩ := Go.Joins.ownsRow_form s5.out.own (by omega)
              injection e with e1 e2 e3
              subst e1 e3
              have x : w5.cell? ⟨gf, y, none⟩ = some (.int .i64 (inp.getD y 0)) := (s5.out.own.cellAt y (by omega)).trans (firsts_at inp i y hyi)
              obtain ⟨z, hz⟩ : ∃ z, z = inp.getD y 0 := ⟨_, rfl⟩
              rw [← hz] at x ⊢
              have hy0 : (0 : Int) ≤ (y : Int) := Int.natCast_nonneg _
              clear hz
              go_wp2
              go_roundw
              case rel => exact ⟨y + 1, by go_num, hyi, s5⟩
              case measure => simp [intOf]; omega
            · obtain rfl : y = i := by omega
              have hyi' : ¬ (y : Int) < (y : Int) := by omega
              clear hyi hy
              obtain ⟨rd, hrd⟩ : ∃ rd, rd = min y inp.length := ⟨_, rfl⟩
              have s1 : Hid (St wr w g iv ov4 (.slice Af y cf) inp (outs.take M) rd y) := Lib.hid (by rw [hrd]; exact s.out)
              have hr1 : decide ((rd : Int) ≤ (n : Int)) = true := decide_eq_true (by have := LI.out; omega)
              have hr2 : decide ((rd : Int) ≤ (y : Int)) = true := decide_eq_true (by omega)
              have hr3 : decide (rd ≤ n) = true := decide_eq_true (by have := LI.out; omega)
              have hr4 : decide (rd ≤ y) = true := decide_eq_true (by omega)
              clear s hrd
              go_wp2
              go_loopw [20] (fun ix wr => ∃ (z : Nat) (ov' : Value), ix = .int .i64 z ∧ z ≤ j ∧ Hid (St wr w g iv ov' (.slice Af y cf) inp (outs.take z) rd y)) (fun ix _ => j - (intOf ix).toNat)
              case atStart => exact ⟨M, ov4, rfl, hM, s1⟩
              case round =>
                clear s1
                obtain ⟨z, ov5, rfl, hz, s⟩ := hrel
                by_cases hzj : z < j
                · have hzj' : (z : Int) < (j : Int) := by omega
                  obtain ⟨ho, oo, rfl, hlo, hco⟩ := SO.out.2.2.2 (by omega)
                  have x : wr.cell? ⟨ho, oo + z, none⟩ = some (.int .i64 (outs.getD z 0)) := by rw [s.out.below.cell (p := ⟨ho, oo + z, none⟩) hlo]; exact hco z hzj
                  clear hco
                  go_wp2_with fail
                  refine (print_i s.out.tp (by have := LO.out; omega) (by have := LO.out; omega)).mono ?_
                  rintro e w6 ⟨ov6, rfl, t6, f6, n6⟩
                  have S6 := Lib.hid (s.out.print t6.out f6.out n6.out)
                  clear t6 f6 n6
                  go_wp2
                  go_roundw
                  case rel => exact ⟨z + 1, ov6, by go_num, hzj, S6⟩
                  case measure => simp [intOf]; omega
                · obtain rfl : z = j := by omega
                  have hzj' : ¬ (z : Int) < (z : Int) := by omega
                  clear hzj hz
                  have TKO : outs.take z = outs := List.take_of_length_le (by have := LO.out; omega)
                  have s1 : Hid (St wr w g iv ov5 (.slice Af y cf) inp outs rd y) := Lib.hid (by have := s.out; rw [TKO] at this; exact this)
                  clear s TKO
                  go_wp2_with fail
                  refine (marks_any s1.out.tp).mono ?_
                  rintro e w7 ⟨rfl, hb7⟩
                  rw [LO.out]
                  have s7 := Lib.hid (s1.out.calm hb7)
                  clear s1 hb7
                  go_wp2_with fail
                  refine (text_any s7.out.tp (by have := LO.out; omega) HR.out (HT.out _ s7.out.below)).mono ?_
                  rintro e w8 ⟨rfl, hb8⟩
                  rw [← HTX.out]
                  have B8 := Lib.hid (bt s7.out.below hb8)
                  clear s7 hb8
                  go_wp2
                  go_ret
                  exact ⟨rfl, B8.out⟩
end Go.Proofs.YtdnakmbfkpjaeaaDoor
