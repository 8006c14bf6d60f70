import Derived.Test.YtkecnhogooaccaaRe
namespace Go.Proofs.Ytkecnhogooaccaa
open Go.ChangeShapes Go.WideShapes Go.ChangeAt Go.RowKit
set_option linter.unusedVariables false
theorem used_pre (fl : List RX) (k : Nat) : used ((fl.take k).map (·.f)) ≤ used (fl.map (·.f)) := by
  have h := used_le ((fl.take k).map (·.f)) ((fl.drop k).map (·.f))
  rwa [← List.map_append, List.take_append_drop] at h
theorem used_at (a b : List RX) (x : RX) : used (((a ++ x :: b).take (a.length + 1)).map (·.f)) = used (((a ++ x :: b).take a.length).map (·.f)) + (2 + x.f.slots.length + x.f.added.length) := by
  have e1 : (a ++ x :: b).take (a.length + 1) = a ++ [x] := by rw [show a ++ x :: b = (a ++ [x]) ++ b by simp, List.take_left' (by simp)]
  have e2 : (a ++ x :: b).take a.length = a := by simp
  rw [e1, e2, List.map_append, List.map_cons, List.map_nil, used_snoc]
  omega
set_option maxRecDepth 100000 in
set_option maxHeartbeats 4000000 in
theorem rused_any {w : World} {B g room : Nat} {fv : Value} {fl : List RX} (t : RS w B g room fv fl) :
    Calls Try.prog 42 #[.pointer (some ⟨g, 0, none⟩)] w fun e w' => e = .returned (.int .i64 (used (fl.map (·.f)))) ∧ Below w.heap.size w w' := by
  have T := Lib.hid t
  have hlen := t.len.1
  obtain ⟨N, hN⟩ : ∃ N, N = fl.length := ⟨_, rfl⟩
  have HN := Lib.hid hN
  have hfit := t.fits
  have hsm := t.small
  rw [← hN] at hlen
  clear t hN
  go_enter Try.func42, Try.ntmps42
  go_wp2
  go_loopw [3, 4] (fun n i wr => ∃ k : Nat, k ≤ N ∧ i = .int .i64 k ∧ n = .int .i64 (used ((fl.take k).map (·.f)) : Nat) ∧ Hid (Below w.heap.size w wr)) (fun _ i _ => N - (intOf i).toNat)
  case atStart => exact ⟨0, Nat.zero_le _, rfl, rfl, Lib.hid (Below.refl _ _)⟩
  case round =>
    obtain ⟨k, hk, rfl, rfl, HB⟩ := hrel
    have T1 := Lib.hid (T.out.below HB.out)
    have hu := used_pre fl k
    obtain ⟨U, hU⟩ : ∃ U, U = used ((fl.take k).map (·.f)) := ⟨_, rfl⟩
    rw [← hU] at hu ⊢
    have HU := Lib.hid hU
    clear hU
    by_cases hlt : k < N
    · have hlti : (k : Int) < (N : Int) := by omega
      obtain ⟨a, x, b, hfl, ha⟩ := split_at fl k (by rw [← HN.out]; exact hlt)
      have t1 := T1.out
      have c1 := t1.c1
      rw [hfl] at t1
      obtain ⟨bf, c', e1, hc', hcell, _⟩ := t1.at
      obtain ⟨_, _, y2, y3⟩ := hcell wr (Below.refl _ _)
      obtain ⟨⟨A1, c1', e2, _, _⟩, ⟨A2, c2', e3, _, _⟩, _⟩ := RX.rows t1
      rw [e2, ha] at y2; rw [e3, ha] at y3
      rw [← hfl, ← HN.out] at e1
      rw [e1] at c1
      have HUS : Hid (used ((fl.take (k + 1)).map (·.f)) = U + (2 + x.f.slots.length + x.f.added.length)) := Lib.hid (by
        rw [HU.out]
        have h := used_at a b x
        rw [← hfl, ha] at h
        exact h)
      have hu2 := used_pre fl (k + 1)
      rw [HUS.out] at hu2
      obtain ⟨p, hp⟩ : ∃ p, p = x.f.slots.length := ⟨_, rfl⟩
      obtain ⟨q, hq⟩ : ∃ q, q = x.f.added.length := ⟨_, rfl⟩
      rw [← hp, ← hq] at hu2 HUS
      rw [← hp] at y2; rw [← hq] at y3
      have hk9 : k ≤ 4096 := by omega
      have s1 : IntKind.i64.wrap ((U : Int) + 2) = ((U + 2 : Nat) : Int) := by rw [IntWalk.i64_in _ (by omega)]; rfl
      have s2 : IntKind.i64.wrap (((U + 2 : Nat) : Int) + (p : Int)) = ((U + 2 + p : Nat) : Int) := by rw [IntWalk.i64_in _ (by omega)]; rfl
      have s3 : IntKind.i64.wrap (((U + 2 + p : Nat) : Int) + (q : Int)) = ((U + 2 + p + q : Nat) : Int) := by rw [IntWalk.i64_in _ (by omega)]; rfl
      clear t1 e1 hcell e2 e3 hfl ha hp hq hc'
      go_wp2
      go_quiet (fail)
      clear s1 s2 s3
      go_wp2
      go_roundw
      case rel => exact ⟨k + 1, by omega, by go_num, by rw [HUS.out]; first | rfl | (congr 1; omega), Lib.hid (bt HB.out (below_drewN _ _))⟩
      case measure => simp [intOf]; omega
    · obtain rfl : k = N := by omega
      have c1 := T1.out.c1
      obtain ⟨A, c, e0, _, _⟩ := T1.out.shape
      rw [e0, ← HN.out] at c1
      clear e0
      go_wp2
      go_ret
      have hUU : U = used (fl.map (·.f)) := by
        have h := HU.out
        rw [HN.out, List.take_length] at h
        exact h
      exact ⟨by rw [hUU]; rfl, HB.out⟩
end Go.Proofs.Ytkecnhogooaccaa
