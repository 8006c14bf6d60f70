import Derived.Test.YtknpgmbniohcnaaAc
namespace Go.Proofs.Ytknpgmbniohcnaa
open Go.ChangeShapes Go.WideShapes Go.ChangeAt Go.RowKit
set_option linter.unusedVariables false
theorem info27 : (Try.prog.info? 27).map (fun i => (i.zero, i.size, i.bytes)) = some (some (.int .u64 0), 1, 8) := by kernel_rfl
theorem wd_take {xs : List Int} {k : Nat} (h : k < xs.length) : wd (xs.take (k + 1)) = wd (xs.take k) ++ [.int .u64 xs[k]] := by
  rw [List.take_succ_eq_append_getElem h, wd_app]; rfl
set_option maxRecDepth 100000 in
set_option maxHeartbeats 4000000 in
theorem back_any {w : World} {A : Option Addr} {n c : Nat} {xs : List Int} (h : InU w A n c xs) (hn : n ≤ 100000) :
    Calls Try.prog 21 #[.slice A n c] w fun e w' => ∃ v, e = .returned v ∧ Hid (w'.ownsRow w.heap.size 28 1 v n (wd xs)) ∧ Hid (Below w.heap.size w w') := by
  obtain ⟨i0, hi0, hz0, hz1, hz2⟩ := info_parts info28
  have HU := Lib.hid h
  have HL := Lib.hid h.1
  have ST : Hid (w.ownsRow w.heap.size 28 1 (.slice none 0 0) 0 (wd (xs.take 0))) := Lib.hid (World.ownsRow_nil _ _ _ _)
  clear h
  go_enter Try.func21, Try.ntmps21
  go_wp2
  go_loopw [3, 4] (fun v i wr => ∃ k : Nat, i = .int .i64 k ∧ k ≤ n ∧ Hid (wr.ownsRow w.heap.size 28 1 v k (wd (xs.take k))) ∧ Hid (Below w.heap.size w wr)) (fun _ i _ => n - (intOf i).toNat)
  case atStart => exact ⟨0, rfl, by omega, ST, Lib.hid (Below.refl _ _)⟩
  case round =>
    obtain ⟨k, rfl, hk, OW, BW⟩ := hrel
    clear ST
    by_cases hkn : k < n
    · have hkx : k < xs.length := by have := HL.out; omega
      have hkni : (k : Int) < (n : Int) := by omega
      obtain ⟨b, off, rfl, hb, hc⟩ := HU.out.2.2.2 (by omega)
      have hck : wr.cell? ⟨b, off + k, none⟩ = some (.int .u64 xs[k]) := (BW.out.cell (p := ⟨b, off + k, none⟩) hb).trans (hc k hkx)
      obtain ⟨x, hx⟩ : ∃ x, x = xs[k] := ⟨_, rfl⟩
      rw [← hx] at hck
      have HT := Lib.hid (show wd (xs.take (k + 1)) = wd (xs.take k) ++ [.int .u64 x] by rw [hx]; exact wd_take hkx)
      clear hx hc
      go_wp2_with (at_builtin; refine wpList_append_own_at _ rfl (.tmp 11) (.tmp 16) 34 rfl w.heap.size 28 i0 (.int .u64 0) 1 8 Try.underlying34 hi0 hz0 hz1 hz2 rfl (by decide) _ k (wd (xs.take k)) rfl (OW.out.alloc _) ⟨wr.heap.size, 0, none⟩ 1 1 [.int .u64 x] rfl rfl ?c1 ?c2 (by unfold maxLen; omega) (by omega) ?c3 ?_)
      case c1 => exact cell_one_new _ _ _
      case c2 => intro u hu; simp only [List.mem_singleton] at hu; subst hu; rfl
      case c3 => have := BW.out.size; show w.heap.size ≤ (wr.heap.push _).size; simp; omega
      intro v1 w1 own1 gr1 _ at1
      have OW1 : Hid (w1.ownsRow w.heap.size 28 1 v1 (k + 1) (wd (xs.take (k + 1)))) := Lib.hid (by rw [HT.out]; exact own1)
      have BW1 : Hid (Below w.heap.size w w1) := Lib.hid ((BW.out.trans ((below_alloc wr _).mono BW.out.size)).trans ((Frm.of_grown (R := fun j => Value.ownBlock u3 = some j) gr1 (fun j hj => hj)).below (fun j hj => own_block_ge OW.out j hj) (Nat.le_trans BW.out.size (below_alloc wr _).size)))
      clear own1 gr1
      go_wp2
      go_roundw
      case rel => exact ⟨k + 1, by go_num, by omega, OW1, BW1⟩
      case measure => simp [intOf]; omega
    · obtain rfl : k = n := by omega
      have hkni : ¬ (k : Int) < (k : Int) := by omega
      have e : xs.take k = xs := List.take_of_length_le (by have := HL.out; omega)
      rw [e] at OW
      go_wp2
      go_ret
      exact ⟨u3, rfl, OW, BW⟩
set_option maxRecDepth 100000 in
set_option maxHeartbeats 4000000 in
theorem words_any {w : World} {A : Option Addr} {n c : Nat} {xs : List Int} (h : InW w A c xs) (hl : xs.length = n) (hn : n ≤ 100000) :
    Calls Try.prog 25 #[.slice A n c] w fun e w' => ∃ v, e = .returned v ∧ Hid (w'.ownsRow w.heap.size 27 1 v n (wd xs)) ∧ Hid (Below w.heap.size w w') := by
  obtain ⟨i0, hi0, hz0, hz1, hz2⟩ := info_parts info27
  have HU := Lib.hid h
  have HL := Lib.hid hl
  have ST : Hid (w.ownsRow w.heap.size 27 1 (.slice none 0 0) 0 (wd (xs.take 0))) := Lib.hid (World.ownsRow_nil _ _ _ _)
  clear h hl
  go_enter Try.func25, Try.ntmps25
  go_wp2
  go_loopw [3, 4] (fun v i wr => ∃ k : Nat, i = .int .i64 k ∧ k ≤ n ∧ Hid (wr.ownsRow w.heap.size 27 1 v k (wd (xs.take k))) ∧ Hid (Below w.heap.size w wr)) (fun _ i _ => n - (intOf i).toNat)
  case atStart => exact ⟨0, rfl, by omega, ST, Lib.hid (Below.refl _ _)⟩
  case round =>
    obtain ⟨k, rfl, hk, OW, BW⟩ := hrel
    clear ST
    by_cases hkn : k < n
    · have hkx : k < xs.length := by have := HL.out; omega
      have hkni : (k : Int) < (n : Int) := by omega
      obtain ⟨b, off, rfl, hb, hc⟩ := HU.out.at (by omega)
      have hck : wr.cell? ⟨b, off + k, none⟩ = some (.int .u64 xs[k]) := (BW.out.cell (p := ⟨b, off + k, none⟩) hb).trans (hc k hkx)
      obtain ⟨x, hx⟩ : ∃ x, x = xs[k] := ⟨_, rfl⟩
      rw [← hx] at hck
      have HT := Lib.hid (show wd (xs.take (k + 1)) = wd (xs.take k) ++ [.int .u64 x] by rw [hx]; exact wd_take hkx)
      clear hx hc
      go_wp2_with (at_builtin; refine wpList_append_own_at _ rfl (.tmp 11) (.tmp 16) 45 rfl w.heap.size 27 i0 (.int .u64 0) 1 8 Try.underlying45 hi0 hz0 hz1 hz2 rfl (by decide) _ k (wd (xs.take k)) rfl (OW.out.alloc _) ⟨wr.heap.size, 0, none⟩ 1 1 [.int .u64 x] rfl rfl ?c1 ?c2 (by unfold maxLen; omega) (by omega) ?c3 ?_)
      case c1 => exact cell_one_new _ _ _
      case c2 => intro u hu; simp only [List.mem_singleton] at hu; subst hu; rfl
      case c3 => have := BW.out.size; show w.heap.size ≤ (wr.heap.push _).size; simp; omega
      intro v1 w1 own1 gr1 _ at1
      have OW1 : Hid (w1.ownsRow w.heap.size 27 1 v1 (k + 1) (wd (xs.take (k + 1)))) := Lib.hid (by rw [HT.out]; exact own1)
      have BW1 : Hid (Below w.heap.size w w1) := Lib.hid ((BW.out.trans ((below_alloc wr _).mono BW.out.size)).trans ((Frm.of_grown (R := fun j => Value.ownBlock u3 = some j) gr1 (fun j hj => hj)).below (fun j hj => own_block_ge OW.out j hj) (Nat.le_trans BW.out.size (below_alloc wr _).size)))
      clear own1 gr1
      go_wp2
      go_roundw
      case rel => exact ⟨k + 1, by go_num, by omega, OW1, BW1⟩
      case measure => simp [intOf]; omega
    · obtain rfl : k = n := by omega
      have hkni : ¬ (k : Int) < (k : Int) := by omega
      have e : xs.take k = xs := List.take_of_length_le (by have := HL.out; omega)
      rw [e] at OW
      go_wp2
      go_ret
      exact ⟨u3, rfl, OW, BW⟩
/-- what a row of one's own is, read. -/
theorem own_inW {w : World} {B e n : Nat} {v : Value} {xs : List Int} (h : w.ownsRow B e 1 v n (wd xs)) : ∃ A c, v = .slice A n c ∧ InW w A c xs ∧ xs.length = n := by
  have hl := h.1
  rw [wd_len] at hl
  rcases h.2 with ⟨rfl, rfl⟩ | ⟨g, cap, cur, rfl, e2, e3⟩
  · exact ⟨none, 0, rfl, ⟨fun _ => ⟨by omega, rfl⟩, fun ad h => (by cases h)⟩, by omega⟩
  · refine ⟨_, _, rfl, ⟨fun h => (by cases h), fun ad had => ?_⟩, by omega⟩
    injection had with had; subst had
    refine ⟨g, 0, rfl, (h.lt g rfl).2, fun j hj => ?_⟩
    rw [Nat.zero_add]
    exact (h.cellAt j (by omega)).trans (wd_at xs j hj)
set_option maxRecDepth 100000 in
set_option maxHeartbeats 4000000 in
theorem same_yes {w : World} {A A' : Option Addr} {n c c' : Nat} {xs : List Int} (h : InW w A c xs) (h' : InW w A' c' xs) (hl : xs.length = n) (hn : n ≤ 100000) :
    Calls Try.prog 24 #[.slice A n c, .slice A' n c'] w fun e w' => e = .returned (.bool true) ∧ Below w.heap.size w w' := by
  have HU := Lib.hid h
  have HU' := Lib.hid h'
  have HL := Lib.hid hl
  clear h h' hl
  go_enter Try.func24, Try.ntmps24
  go_wp2
  go_loopw [5] (fun i wr => ∃ k q : Nat, i = .int .i64 k ∧ k ≤ n ∧ wr = w.drewN q) (fun i _ => n - (intOf i).toNat)
  case atStart => exact ⟨0, 0, rfl, by omega, rfl⟩
  case round =>
    obtain ⟨k, q, rfl, hk, rfl⟩ := hrel
    by_cases hkn : k < n
    · have hkx : k < xs.length := by have := HL.out; omega
      have hkni : (k : Int) < (n : Int) := by omega
      obtain ⟨b, off, rfl, hb, hc⟩ := HU.out.at (by omega)
      obtain ⟨b', off', rfl, hb', hc'⟩ := HU'.out.at (by omega)
      have hck := hc k hkx
      have hck' := hc' k hkx
      obtain ⟨x, hx⟩ : ∃ x, x = xs[k] := ⟨_, rfl⟩
      rw [← hx] at hck hck'
      clear hx hc hc'
      go_wp2
      go_quiet (fail)
      go_wp2
      go_roundw
      case rel => exact ⟨k + 1, _, by go_num, by omega, by first | rfl | (rw [World.drewN_drewN])⟩
      case measure => simp [intOf]; omega
    · obtain rfl : k = n := by omega
      have hkni : ¬ (k : Int) < (k : Int) := by omega
      go_wp2
      go_ret
      exact ⟨rfl, bN q w⟩
theorem make_own4 {w w1 : World} {B H o n : Nat} {m : Hm} {v : Value} {xs : List Int} (h : HpAt w B H o m) (hb : Below w.heap.size w w1) (own : w1.ownsRow w.heap.size 28 1 v n (wd xs)) (k t : Int) (hxs : ∀ x ∈ xs, U64 x) (hl : n ≤ 100000) :
    Calls Try.prog 11 #[.pointer (some ⟨H, o, none⟩), .int .i64 k, .int .i64 t, v] w1 fun e w' => e = .returned (.tuple #[.int .u64 (makeV m k t xs), .int .i64 (makeE m k t xs)]) ∧ Hid (HpAt w' B H o (makeM m k t xs)) ∧ Hid (Frm w w' (HR w H o)) ∧ Hid (∀ k, HR w' H o k → HR w H o k ∨ w.heap.size ≤ k) := by
  obtain ⟨A, c, rfl, hin, rfl⟩ := own_inW own
  refine (make_any4 (h.below hb) hin (fun k n' c' hk off e => ?_) hxs hl).mono fun e w' ⟨h1, h2, h3, h4⟩ => ⟨h1, h2, Lib.hid ?_, Lib.hid (fun k hk => (h4.out k hk).imp (HR_below hb h.lt) (fun z => Nat.le_trans hb.size z))⟩
  · subst e
    have h1 := HR_lt h hb (.inr (.inl ⟨_, _, hk⟩))
    rcases own.2 with ⟨e1, _⟩ | ⟨g, cap, cur, e1, e2, _⟩
    · cases e1
    · injection e1 with e1; injection e1 with e1; injection e1 with e1; omega
  · refine ⟨h3.out.os.trans hb.os, h3.out.tape.trans hb.tape, h3.out.output.trans hb.output, Nat.le_trans hb.size h3.out.size, fun i hi hr => (h3.out.block i (Nat.lt_of_lt_of_le hi hb.size) (fun hk => hr (HR_below hb h.lt hk))).trans (hb.block i hi)⟩
theorem make_own {w w1 : World} {B H o n : Nat} {m : Hm} {v : Value} {xs : List Int} (h : HpAt w B H o m) (hb : Below w.heap.size w w1) (own : w1.ownsRow w.heap.size 28 1 v n (wd xs)) (k t : Int) (hxs : ∀ x ∈ xs, U64 x) (hl : n ≤ 100000) :
    Calls Try.prog 11 #[.pointer (some ⟨H, o, none⟩), .int .i64 k, .int .i64 t, v] w1 fun e w' => e = .returned (.tuple #[.int .u64 (makeV m k t xs), .int .i64 (makeE m k t xs)]) ∧ Hid (HpAt w' B H o (makeM m k t xs)) ∧ Hid (Frm w w' (HR w H o)) :=
  (make_own4 h hb own k t hxs hl).mono fun e w' ⟨h1, h2, h3, _⟩ => ⟨h1, h2, h3⟩
end Go.Proofs.Ytknpgmbniohcnaa
