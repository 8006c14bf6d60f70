import Derived.Test.YtkecnhogooaccaaNests
import Derived.Laws.CopyOwn
namespace Go.Proofs.Ytkecnhogooaccaa
open Go.ChangeShapes Go.WideShapes Go.ChangeAt Go.RowKit
set_option linter.unusedVariables false
theorem info29 : (Try.prog.info? 29).map (fun i => (i.zero, i.size, i.bytes)) = some (some (.int .u64 0), 1, 8) := by kernel_rfl
theorem own_in {w : World} {B e n c : Nat} {A : Option Addr} {xs : List Int} (h : w.ownsRow B e 1 (.slice A n c) n (wds xs)) : InL .u64 w A n xs := by
  have hl := h.1
  rw [wds_len, Nat.mul_one] at hl
  refine ⟨hl, fun hn => ?_⟩
  obtain ⟨g, cap, e1⟩ := Go.Joins.ownsRow_form h (by omega)
  injection e1 with e1 e2 e3
  subst e1
  refine ⟨g, 0, rfl, (h.lt g rfl).2, fun j hj => ?_⟩
  have := (h.cellAt j (by omega)).trans (wds_at xs j (by omega))
  rwa [Nat.zero_add]
set_option maxRecDepth 100000 in
set_option maxHeartbeats 2000000 in
theorem words_any {w : World} {A : Option Addr} {n c : Nat} {xs : List Int} (h : InL .u64 w A n xs) (hn : n ≤ 1000000) :
    Calls Try.prog 36 #[.slice A n c] w fun e w' => ∃ A' c', e = .returned (.slice A' n c') ∧ Hid (w'.ownsRow w.heap.size 29 1 (.slice A' n c') n (wds xs)) ∧ Hid (Below w.heap.size w w') := by
  obtain ⟨i0, hi0, hz0, hz1, hz2⟩ := info_parts info29
  have H := Lib.hid h
  have HL := Lib.hid h.1
  clear h
  go_enter Try.func36, Try.ntmps36
  go_wp2
  go_loopw [3, 4] (fun v ix wr => ∃ (i : Nat) (A' : Option Addr) (c' : Nat), v = .slice A' i c' ∧ ix = .int .i64 i ∧ i ≤ n ∧ Hid (wr.ownsRow w.heap.size 29 1 (.slice A' i c') i (wds (xs.take i))) ∧ Hid (Below w.heap.size w wr)) (fun _ ix _ => n - (intOf ix).toNat)
  case atStart => exact ⟨0, none, 0, rfl, rfl, by omega, Lib.hid (World.ownsRow_nil _ _ _ _), Lib.hid (Below.refl _ _)⟩
  case round =>
    obtain ⟨i, A', c', rfl, rfl, hi, own, hb⟩ := hrel
    by_cases hin : i < n
    · have hin' : (i : Int) < (n : Int) := by omega
      obtain ⟨b, o, rfl, k⟩ := H.out.at (by omega)
      have x := k wr i hb.out hin
      clear k
      have WB : Hid (w.heap.size ≤ wr.heap.size) := Lib.hid hb.out.size
      go_wp2_with (at_builtin; refine wpList_append_lies _ rfl (.tmp 11) (.tmp 16) 48 rfl w.heap.size 29 i0 (.int .u64 0) 1 8 Try.underlying48 hi0 hz0 hz1 hz2 rfl (by decide) _ i (wds (xs.take i)) rfl (own.out.alloc _) ⟨wr.heap.size, 0, none⟩ 1 1 [.int .u64 (xs.getD i 0)] rfl rfl ?c1 ?c2 (by omega) (by unfold maxLen; omega) (by omega) (Nat.le_trans WB.out (by simp)) (wr.heap.size + 1) (by simp) ?_)
      case c1 =>
        intro j u hj
        match j, hj with
        | 0, hj => simp only [List.getElem?_cons_zero, Option.some.injEq] at hj; subst hj; exact new_cell wr _ 29
      case c2 => intro u hu; simp only [List.mem_singleton] at hu; subst hu; rfl
      intro gf cap w4 own4 gr4 at4 lt4
      have e4 : xs.take (i + 1) = xs.take i ++ [xs.getD i 0] := by
        have hl : i < xs.length := by rw [HL.out]; exact hin
        rw [List.take_succ_eq_append_getElem hl]; simp [List.getD, hl]
      have OWN4 : Hid (w4.ownsRow w.heap.size 29 1 (.slice (some ⟨gf, 0, none⟩) (i + 1) cap) (i + 1) (wds (xs.take (i + 1)))) := Lib.hid (by rw [e4, wds_app]; exact own4)
      have HB4 : Hid (Below w.heap.size w w4) := Lib.hid ((hb.out.alloc WB.out (.cells #[.int .u64 (xs.getD i 0)] 29)).grown gr4 (Nat.le_trans WB.out (by simp)) (fun q hq => (own.out.lt q hq).1))
      clear own4 gr4 at4 lt4 e4 own hb x
      go_wp2
      go_roundw
      case rel => exact ⟨i + 1, _, _, rfl, by go_num, hin, OWN4, HB4⟩
      case measure => simp [intOf]; omega
    · obtain rfl : i = n := by omega
      have hin' : ¬ (i : Int) < (i : Int) := by omega
      have OWN : Hid (wr.ownsRow w.heap.size 29 1 (.slice A' i c') i (wds xs)) := Lib.hid (by have := own.out; rwa [List.take_of_length_le (by rw [HL.out]; omega)] at this)
      clear own hin
      go_wp2
      go_ret
      exact ⟨_, _, rfl, OWN, hb⟩
set_option maxRecDepth 100000 in
set_option maxHeartbeats 2000000 in
theorem back_any {w : World} {A : Option Addr} {n c : Nat} {xs : List Int} (h : InL .u64 w A n xs) (hn : n ≤ 1000000) :
    Calls Try.prog 28 #[.slice A n c] w fun e w' => ∃ A' c', e = .returned (.slice A' n c') ∧ Hid (w'.ownsRow w.heap.size 30 1 (.slice A' n c') n (wds xs)) ∧ Hid (Below w.heap.size w w') := by
  obtain ⟨i0, hi0, hz0, hz1, hz2⟩ := info_parts info30
  have H := Lib.hid h
  have HL := Lib.hid h.1
  clear h
  go_enter Try.func28, Try.ntmps28
  go_wp2
  go_loopw [3, 4] (fun v ix wr => ∃ (i : Nat) (A' : Option Addr) (c' : Nat), v = .slice A' i c' ∧ ix = .int .i64 i ∧ i ≤ n ∧ Hid (wr.ownsRow w.heap.size 30 1 (.slice A' i c') i (wds (xs.take i))) ∧ Hid (Below w.heap.size w wr)) (fun _ ix _ => n - (intOf ix).toNat)
  case atStart => exact ⟨0, none, 0, rfl, rfl, by omega, Lib.hid (World.ownsRow_nil _ _ _ _), Lib.hid (Below.refl _ _)⟩
  case round =>
    obtain ⟨i, A', c', rfl, rfl, hi, own, hb⟩ := hrel
    by_cases hin : i < n
    · have hin' : (i : Int) < (n : Int) := by omega
      obtain ⟨b, o, rfl, k⟩ := H.out.at (by omega)
      have x := k wr i hb.out hin
      clear k
      have WB : Hid (w.heap.size ≤ wr.heap.size) := Lib.hid hb.out.size
      go_wp2_with (at_builtin; refine wpList_append_lies _ rfl (.tmp 11) (.tmp 16) 35 rfl w.heap.size 30 i0 (.int .u64 0) 1 8 Try.underlying35 hi0 hz0 hz1 hz2 rfl (by decide) _ i (wds (xs.take i)) rfl (own.out.alloc _) ⟨wr.heap.size, 0, none⟩ 1 1 [.int .u64 (xs.getD i 0)] rfl rfl ?c1 ?c2 (by omega) (by unfold maxLen; omega) (by omega) (Nat.le_trans WB.out (by simp)) (wr.heap.size + 1) (by simp) ?_)
      case c1 =>
        intro j u hj
        match j, hj with
        | 0, hj => simp only [List.getElem?_cons_zero, Option.some.injEq] at hj; subst hj; exact new_cell wr _ 30
      case c2 => intro u hu; simp only [List.mem_singleton] at hu; subst hu; rfl
      intro gf cap w4 own4 gr4 at4 lt4
      have e4 : xs.take (i + 1) = xs.take i ++ [xs.getD i 0] := by
        have hl : i < xs.length := by rw [HL.out]; exact hin
        rw [List.take_succ_eq_append_getElem hl]; simp [List.getD, hl]
      have OWN4 : Hid (w4.ownsRow w.heap.size 30 1 (.slice (some ⟨gf, 0, none⟩) (i + 1) cap) (i + 1) (wds (xs.take (i + 1)))) := Lib.hid (by rw [e4, wds_app]; exact own4)
      have HB4 : Hid (Below w.heap.size w w4) := Lib.hid ((hb.out.alloc WB.out (.cells #[.int .u64 (xs.getD i 0)] 30)).grown gr4 (Nat.le_trans WB.out (by simp)) (fun q hq => (own.out.lt q hq).1))
      clear own4 gr4 at4 lt4 e4 own hb x
      go_wp2
      go_roundw
      case rel => exact ⟨i + 1, _, _, rfl, by go_num, hin, OWN4, HB4⟩
      case measure => simp [intOf]; omega
    · obtain rfl : i = n := by omega
      have hin' : ¬ (i : Int) < (i : Int) := by omega
      have OWN : Hid (wr.ownsRow w.heap.size 30 1 (.slice A' i c') i (wds xs)) := Lib.hid (by have := own.out; rwa [List.take_of_length_le (by rw [HL.out]; omega)] at this)
      clear own hin
      go_wp2
      go_ret
      exact ⟨_, _, rfl, OWN, hb⟩

/-- rows alike. -/
def sameB (a b : List Int) : Bool := decide (a = b)
set_option maxRecDepth 100000 in
set_option maxHeartbeats 2000000 in
theorem same_len {w : World} {A1 A2 : Option Addr} {n1 n2 c1 c2 : Nat} (hn : n1 ≠ n2) :
    Calls Try.prog 35 #[.slice A1 n1 c1, .slice A2 n2 c2] w fun e w' => e = .returned (.bool false) ∧ Below w.heap.size w w' := by
  have d : ((n1 : Int) == (n2 : Int)) = false := beq_eq_false_iff_ne.2 (by omega)
  have d' : (n1 == n2) = false := beq_eq_false_iff_ne.2 hn
  clear hn
  go_enter Try.func35, Try.ntmps35
  go_wp2
  go_ret
  exact ⟨rfl, Below.refl _ _⟩
theorem sameB_len {a b : List Int} (h : a.length ≠ b.length) : sameB a b = false := decide_eq_false (fun e => h (by rw [e]))
theorem sameB_at {a b : List Int} {i : Nat} (h : a.getD i 0 ≠ b.getD i 0) : sameB a b = false := decide_eq_false (fun e => h (by rw [e]))
theorem sameB_all {a b : List Int} (h : a.length = b.length) (h2 : ∀ j, j < a.length → a.getD j 0 = b.getD j 0) : sameB a b = true := decide_eq_true (by
  apply List.ext_getElem h
  intro i h1 h3
  have := h2 i h1
  simpa [List.getD, h1, h3] using this)
set_option maxRecDepth 100000 in
set_option maxHeartbeats 2000000 in
theorem same_any {w : World} {A1 A2 : Option Addr} {n1 n2 c1 c2 : Nat} {xs ys : List Int} (h1 : InL .u64 w A1 n1 xs) (h2 : InL .u64 w A2 n2 ys) (hm : n1 ≤ 1000000) :
    Calls Try.prog 35 #[.slice A1 n1 c1, .slice A2 n2 c2] w fun e w' => e = .returned (.bool (sameB xs ys)) ∧ Below w.heap.size w w' := by
  by_cases hn : n1 ≠ n2
  · rw [sameB_len (by rw [h1.1, h2.1]; exact hn)]; exact same_len hn
  obtain rfl : n1 = n2 := by omega
  clear hn
  have H1 := Lib.hid h1; have H2 := Lib.hid h2
  clear h1 h2
  go_enter Try.func35, Try.ntmps35
  go_wp2
  go_loopw [5] (fun ix wr => ∃ (i q : Nat), ix = .int .i64 i ∧ i ≤ n1 ∧ wr = w.drewN q ∧ Hid (∀ j, j < i → xs.getD j 0 = ys.getD j 0)) (fun ix _ => n1 - (intOf ix).toNat)
  case atStart => exact ⟨0, 0, rfl, by omega, rfl, Lib.hid (fun j hj => by omega)⟩
  case round =>
    obtain ⟨i, q, rfl, hi, rfl, al⟩ := hrel
    by_cases hin : i < n1
    · have hin' : (i : Int) < (n1 : Int) := by omega
      obtain ⟨b1, o1, rfl, k1⟩ := H1.out.at (by omega)
      obtain ⟨b2, o2, rfl, k2⟩ := H2.out.at (by omega)
      have x1 := k1 w i (Below.refl _ _) hin
      have x2 := k2 w i (Below.refl _ _) hin
      obtain ⟨x, hx⟩ : ∃ x, x = xs.getD i 0 := ⟨_, rfl⟩
      obtain ⟨y, hy⟩ : ∃ y, y = ys.getD i 0 := ⟨_, rfl⟩
      have HX := Lib.hid hx; have HY := Lib.hid hy
      rw [← hx] at x1; rw [← hy] at x2
      clear k1 k2 hx hy
      by_cases he : x = y
      · have AL : Hid (∀ j, j < i + 1 → xs.getD j 0 = ys.getD j 0) := Lib.hid (fun j hj => by
          by_cases hji : j = i
          · rw [hji, ← HX.out, ← HY.out]; exact he
          · exact al.out j (by omega))
        subst he
        clear al
        go_wp2
        go_quiet (fail)
        go_wp2
        go_roundw
        case rel => exact ⟨i + 1, _, by go_num, hin, by first | rfl | (rw [World.drewN_drewN]), AL⟩
        case measure => simp [intOf]; omega
      · have d : (x == y) = false := beq_eq_false_iff_ne.2 he
        have d2 : (x != y) = true := by simp [bne, d]
        have FB : Hid (sameB xs ys = false) := Lib.hid (sameB_at (by rw [← HX.out, ← HY.out]; exact he))
        clear he al
        go_wp2
        go_quiet (fail)
        go_wp2
        go_ret
        exact ⟨by rw [FB.out]; rfl, by first | exact below_drewN _ _ | exact bt (below_drewN w q) (below_drewN _ _)⟩
    · obtain rfl : i = n1 := by omega
      have hin' : ¬ (i : Int) < (i : Int) := by omega
      have FB := Lib.hid (sameB_all (H1.out.1.trans H2.out.1.symm) (fun j hj => al.out j (by rw [H1.out.1] at hj; exact hj)))
      clear hin al
      go_wp2
      go_ret
      exact ⟨by rw [FB.out]; rfl, by first | exact below_drewN _ _ | exact bt (below_drewN w q) (below_drewN _ _)⟩
end Go.Proofs.Ytkecnhogooaccaa
