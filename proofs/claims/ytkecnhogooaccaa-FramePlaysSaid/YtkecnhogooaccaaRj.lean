import Derived.Test.YtkecnhogooaccaaRi
namespace Go.Proofs.Ytkecnhogooaccaa
open Go.ChangeShapes Go.WideShapes Go.ChangeAt Go.RowKit
set_option linter.unusedVariables false
def clv (l : List RX) : List Value := (callsS (l.map (·.f))).map (.int .i64)
theorem clv_len (l : List RX) : (clv l).length = l.length := by simp [clv, callsS]
theorem clv_cons (x : RX) (l : List RX) : clv (x :: l) = clv l ++ [.int .i64 x.f.call] := by simp [clv, callsS]
set_option maxRecDepth 100000 in
set_option maxHeartbeats 4000000 in
theorem rcalls_any {w : World} {B g room : Nat} {fv : Value} {fl : List RX} (t : RS w B g room fv fl) :
    Calls Try.prog 34 #[.pointer (some ⟨g, 0, none⟩)] w fun e w' => ∃ A c, e = .returned (.slice A fl.length c) ∧ Hid (w'.ownsRow w.heap.size 3 1 (.slice A fl.length c) fl.length ((callsS (fl.map (·.f))).map (.int .i64))) ∧ Hid (Below w.heap.size w w') := by
  obtain ⟨i0, hi0, hz0, hz1, hz2⟩ := info_parts info3
  have T := Lib.hid t
  have c1x := t.c1
  have glt := t.glt
  have hlen := t.len.1
  obtain ⟨FA, fc, rfl, hfc, hfA⟩ := t.shape
  obtain ⟨N, hN⟩ : ∃ N, N = fl.length := ⟨_, rfl⟩
  have HN := Lib.hid hN
  rw [← hN] at c1x hlen ⊢
  rw [← hN] at T
  have C1 := Lib.hid c1x
  clear t hN hfA hfc
  go_enter Try.func34, Try.ntmps34
  go_wp2
  go_loopw [3, 4] (fun v ix wr => ∃ (k p : Nat) (z : Int) (A' : Option Addr) (c' : Nat), v = .slice A' p c' ∧ ix = .int .i64 z ∧ z < (N : Int) ∧ -1 ≤ z ∧ p ≤ N ∧ Hid (z + 1 = (k : Int) ∧ k + p = N) ∧ Hid (wr.ownsRow w.heap.size 3 1 (.slice A' p c') p (clv (fl.drop k))) ∧ Hid (Below w.heap.size w wr)) (fun _ ix _ => (intOf ix + 1).toNat)
  case atStart => exact ⟨N, 0, _, none, 0, rfl, rfl, by omega, by omega, by omega, Lib.hid ⟨by omega, by omega⟩, Lib.hid (by rw [List.drop_of_length_le (Nat.le_of_eq HN.out.symm)]; exact World.ownsRow_nil _ _ _ _), Lib.hid (Below.refl _ _)⟩
  case round =>
    obtain ⟨k, p, z, A', c', rfl, rfl, hzN, hzm, hpN, HK, own, hb⟩ := hrel
    clear c1x
    by_cases hz : 0 ≤ z
    · obtain ⟨j, rfl⟩ : ∃ j : Nat, z = j := ⟨z.toNat, by omega⟩
      have hjN : j < N := by omega
      have hj9 : j ≤ 4096 := by omega
      obtain ⟨a, x, b, hfl, ha⟩ := split_at fl j (by rw [← HN.out]; exact hjN)
      have t1 := T.out.below hb.out
      have c1 := t1.c1
      rw [hfl] at t1
      obtain ⟨bf, c2, e1, _, hcell, _⟩ := t1.at
      obtain ⟨_, y1, _, _⟩ := hcell wr (Below.refl _ _)
      injection e1 with e1 e2 e3
      subst e1 e3
      rw [ha] at y1
      have WB : Hid (w.heap.size ≤ wr.heap.size) := Lib.hid hb.out.size
      have CO : Hid (clv (fl.drop j) = clv (fl.drop k) ++ [.int .i64 x.f.call]) := Lib.hid (by
        have hkj : k = j + 1 := by have := HK.out.1; omega
        rw [hkj, hfl, ← ha, List.drop_left, show a ++ x :: b = (a ++ [x]) ++ b by simp, List.drop_left' (by simp), clv_cons])
      have KJ : Hid (j + (p + 1) = N) := Lib.hid (by have := HK.out; omega)
      clear t1 hcell hfl e2 ha hz hzm HK
      go_wp2_with (at_builtin; refine wpList_append_lies _ rfl (.tmp 15) (.tmp 24) 41 rfl w.heap.size 3 i0 (.int .i64 0) 1 8 Try.underlying41 hi0 hz0 hz1 hz2 rfl (by decide) _ p (clv (fl.drop k)) rfl (own.out.alloc _) ⟨wr.heap.size, 0, none⟩ 1 1 [.int .i64 x.f.call] rfl rfl ?c1 ?c2 (by omega) (by unfold maxLen; omega) (by omega) (Nat.le_trans WB.out (by simp)) (wr.heap.size + 1) (by simp) ?_)
      case c1 =>
        intro j u hj
        match j, hj with
        | 0, hj => simp only [List.getElem?_cons_zero, Option.some.injEq] at hj; subst hj; exact new_cell wr _ 3
      case c2 => intro u hu; simp only [List.mem_singleton] at hu; subst hu; rfl
      intro gf cap w4 own4 gr4 at4 lt4
      have OWN4 : Hid (w4.ownsRow w.heap.size 3 1 (.slice (some ⟨gf, 0, none⟩) (p + 1) cap) (p + 1) (clv (fl.drop j))) := Lib.hid (by rw [CO.out]; exact own4)
      have HB4 : Hid (Below w.heap.size w w4) := Lib.hid ((hb.out.alloc WB.out (.cells #[.int .i64 x.f.call] 3)).grown gr4 (Nat.le_trans WB.out (by simp)) (fun q hq => (own.out.lt q hq).1))
      clear own4 gr4 at4 lt4 own hb y1 c1
      go_wp2
      go_roundw
      case rel => exact ⟨j, p + 1, (j : Int) - 1, _, _, rfl, rfl, by omega, by omega, by have := KJ.out; omega, Lib.hid ⟨by omega, KJ.out⟩, OWN4, HB4⟩
      case measure => simp [intOf]
    · obtain rfl : z = -1 := by omega
      obtain rfl : k = 0 := by have := HK.out.1; omega
      obtain rfl : p = N := by have := HK.out.2; omega
      have OWN : Hid (wr.ownsRow w.heap.size 3 1 (.slice A' p c') p (clv fl)) := Lib.hid (by have := own.out; rwa [List.drop_zero] at this)
      clear own HK hz
      go_wp2
      go_ret
      exact ⟨_, _, rfl, OWN, hb⟩
end Go.Proofs.Ytkecnhogooaccaa
