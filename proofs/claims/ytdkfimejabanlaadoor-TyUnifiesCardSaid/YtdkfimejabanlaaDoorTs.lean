import Derived.Test.YtdkfimejabanlaaDoorTt
namespace Go.Proofs.YtdkfimejabanlaaDoor
open Go.ChangeShapes Go.WideShapes Go.ChangeAt Go.RowKit
set_option linter.unusedVariables false
theorem any_take {α : Type} {p : α → Bool} {l : List α} {k : Nat} (h : k < l.length) (ha : (l.take k).any p = false) : (l.take (k + 1)).any p = p l[k] := by
  rw [List.take_succ_eq_append_getElem h, List.any_append, ha]; simp
theorem any_yes {α : Type} {p : α → Bool} {l : List α} {k : Nat} (h : k < l.length) (ha : p l[k] = true) : l.any p = true := List.any_eq_true.2 ⟨l[k], List.getElem_mem h, ha⟩
def MostOk : Nat → Int → Prop
  | 0, m => m = 0
  | d + 1, m => 1 ≤ m ∧ m ≤ 64 ∧ MostOk d (m / 2)
theorem most64 : MostOk 7 64 := by simp [MostOk]
theorem box3 (w : World) (V : TT) (A : Option Addr) (c n : Nat) (nm : ByteArray) (t : TypeId) : (w.alloc (.cells #[.int .i64 V.k, .string nm, .int .i64 V.vr, .slice A n c] t)).cell? ⟨w.heap.size, 3, none⟩ = some (.slice A n c) := by
  have h := heap_alloc_new w (.cells #[.int .i64 V.k, .string nm, .int .i64 V.vr, .slice A n c] t)
  simp only [World.cell?, h]; rfl
def SmI (w : World) (args : List TT) (d : Nat) (A : Option Addr) (c : Nat) (i : Value) (wr : World) : Prop := ∃ k : Nat, k ≤ args.length ∧ i = .int .i64 k ∧ Hid ((args.take k).any (bigT d) = false) ∧ Hid (Below w.heap.size w wr ∧ w.heap.size < wr.heap.size ∧ wr.cell? ⟨w.heap.size, 3, none⟩ = some (.slice A args.length c))
set_option maxRecDepth 100000 in
set_option maxHeartbeats 4000000 in
theorem small_any : ∀ (d : Nat) (V : TT) (v : Value) (m : Int) (w : World), MostOk d m → TIn w any0 V v → Calls Tryd.prog 23 #[v, .int .i64 m] w fun e w' => e = .returned (.bool (!bigT d V)) ∧ Below w.heap.size w w' := by
  intro d
  induction d with
  | zero =>
    intro V v m w hm ⟨A, c, hv, hA⟩
    have hm : m = 0 := hm
    subst hv hm
    clear hA
    unfold tv
    go_enter Tryd.func23, Tryd.ntmps23
    go_wp2
    go_ret
    exact ⟨rfl, below_alloc _ _⟩
  | succ d ih =>
    intro V v m w hm ⟨A, c, hv, hA⟩
    obtain ⟨m1, m2, m3⟩ := hm
    subst hv
    have HI := Lib.hid ih
    have M3 := Lib.hid m3
    have HA := Lib.hid hA
    have dm : decide (m ≤ 0) = false := decide_eq_false (by omega)
    have hbg : bigT (d + 1) V = (decide (4 < V.args.length) || decide (60 < V.nm.size) || V.args.any (bigT d)) := rfl
    unfold tv
    obtain ⟨args, ha⟩ : ∃ l, l = V.args := ⟨_, rfl⟩
    obtain ⟨nm, hnm⟩ : ∃ l, l = V.nm := ⟨_, rfl⟩
    rw [hbg]
    rw [← ha] at HA ⊢
    rw [← hnm] at ⊢
    clear ih m3 hA hbg ha hnm
    by_cases h4 : 4 < args.length
    · have d4 := decide_eq_true h4
      have d4i : decide ((4 : Int) < (args.length : Int)) = true := decide_eq_true (by omega)
      go_enter Tryd.func23, Tryd.ntmps23
      go_wp2
      go_ret
      exact ⟨by rw [d4]; rfl, below_alloc _ _⟩
    have d4 := decide_eq_false h4
    have d4i : decide ((4 : Int) < (args.length : Int)) = false := decide_eq_false (by omega)
    by_cases h6 : 60 < nm.size
    · have d6 := decide_eq_true h6
      have d6i : decide ((60 : Int) < (nm.size : Int)) = true := decide_eq_true (by omega)
      go_enter Tryd.func23, Tryd.ntmps23
      go_wp2
      go_ret
      exact ⟨by rw [d4, d6]; rfl, below_alloc _ _⟩
    have d6 := decide_eq_false h6
    have d6i : decide ((60 : Int) < (nm.size : Int)) = false := decide_eq_false (by omega)
    have hsp : (decide (4 < args.length) || decide (60 < nm.size) || args.any (bigT d)) = args.any (bigT d) := by rw [d4, d6]; rfl
    rw [hsp]
    have ST : Hid (Below w.heap.size w (w.alloc (.cells #[.int .i64 V.k, .string nm, .int .i64 V.vr, .slice A args.length c] 27)) ∧ w.heap.size < (w.alloc (.cells #[.int .i64 V.k, .string nm, .int .i64 V.vr, .slice A args.length c] 27)).heap.size ∧ (w.alloc (.cells #[.int .i64 V.k, .string nm, .int .i64 V.vr, .slice A args.length c] 27)).cell? ⟨w.heap.size, 3, none⟩ = some (.slice A args.length c)) := Lib.hid ⟨below_alloc _ _, by simp, box3 w V A c _ nm _⟩
    clear hsp d6 h6 d4
    go_enter Tryd.func23, Tryd.ntmps23
    go_wp2
    go_loopw [5] (fun i wr => SmI w args d A c i wr) (fun i _ => args.length - (intOf i).toNat)
    case atStart => exact ⟨0, by omega, rfl, Lib.hid (by simp), ST⟩
    case round =>
      obtain ⟨k, hk, rfl, HNO, HW⟩ := hrel
      have c3 := HW.out.2.2
      by_cases hlt : k < args.length
      · obtain ⟨b, o, rfl, hb, hr⟩ := HA.out.at (by omega)
        obtain ⟨A', c', x0, x1, x2, x3, hin⟩ := hr wr HW.out.1 k hlt
        have CALL : Hid (Calls Tryd.prog 23 #[.agg #[.int .i64 args[k].k, .string args[k].nm, .int .i64 args[k].vr, .slice A' args[k].args.length c'], .int .i64 (m / 2)] wr fun e w' => e = .returned (.bool (!bigT d args[k])) ∧ Below wr.heap.size wr w') := Lib.hid (HI.out args[k] _ (m / 2) wr M3.out hin)
        clear hr hin hb HI HA
        cases hd : bigT d args[k]
        · rw [hd] at CALL
          have HN2 : Hid ((args.take (k + 1)).any (bigT d) = false) := Lib.hid ((any_take hlt HNO.out).trans hd)
          clear hd HNO
          go_wp2_with fail
          refine CALL.out.mono ?_; rintro e w1 ⟨rfl, hb1⟩
          have HB1 := Lib.hid (And.intro (bt HW.out.1 hb1) (And.intro (Nat.lt_of_lt_of_le HW.out.2.1 hb1.size) ((hb1.cell (p := ⟨w.heap.size, 3, none⟩) HW.out.2.1).trans c3)))
          clear hb1 CALL c3 x0 x1 x2 x3
          go_wp2
          go_roundw
          case rel => exact ⟨k + 1, by omega, by go_num, HN2, HB1⟩
          case measure => simp [intOf]; omega
        · rw [hd] at CALL
          have HN2 : Hid (args.any (bigT d) = true) := Lib.hid (any_yes hlt hd)
          clear hd HNO
          go_wp2_with fail
          refine CALL.out.mono ?_; rintro e w1 ⟨rfl, hb1⟩
          have HB1 := Lib.hid (bt HW.out.1 hb1)
          clear hb1 CALL
          go_wp2
          go_ret
          exact ⟨by rw [HN2.out]; rfl, HB1.out⟩
      · have HN2 : Hid (args.any (bigT d) = false) := Lib.hid (by have := HNO.out; rwa [List.take_of_length_le (by omega)] at this)
        have hge : ¬ (k : Int) < (args.length : Int) := by omega
        go_wp2
        go_ret
        exact ⟨by rw [HN2.out]; rfl, HW.out.1⟩
end Go.Proofs.YtdkfimejabanlaaDoor
