import Derived.Test.YtanhkchpffkloaaGreatDoorEjm
import Derived.Lib.OthersKept
import Derived.Laws.RangeString
namespace Go.Proofs.YtanhkchpffkloaaGreatDoor
open Go Go.Lib
set_option linter.unusedVariables false
set_option linter.unusedSimpArgs false
noncomputable section
variable {ds : List Deferred}
/-! ### ranging over a text -/
def o_range (t : TypeId) (x : Operand) : OpF := fun T A H => match T.und t with
  | some .string => (match ev A x with
    | some (.string s) => some (.pointer (some ⟨H.next, 0, none⟩), H.new (.siter s 0))
    | _ => none)
  | _ => none
theorem range_ok {P : Program} {T : Cx} (hT : Fits P T) {o : Oper} {t : TypeId} {x : Operand} (h : o.op = .range t x) : Sound ds P T o (o_range t x) := fun A H v H' hf E a w ha hr => by
  unfold o_range at hf
  split at hf
  · rename_i ht
    split at hf
    · rename_i s hx
      cases hf
      obtain ⟨h1, h2⟩ := hr.new (x := .siter s 0) (o := .stringIter s 0) (k := 0) rfl
      refine ⟨_, .pointer (some ⟨w.heap.size, 0, none⟩), _, _, ?_, .inl rfl, h2, ?_, h1⟩
      · have := run_range_string (P := P) w t s (hT.und ht)
        simp [execOp, h, (ev_ok ha hx).string, this, World.iter]
      · have z := VR.ptr (E := E.add H.next w.heap.size 0) (N := H.next + 1) (o := 0) (Nat.lt_succ_self H.next)
        rw [show (E.add H.next w.heap.size 0).s H.next = w.heap.size by simp [Env.add]] at z
        exact z
    · cases hf
  · cases hf
def decF (s : ByteArray) (pos : Nat) : Nat × Nat := match s.data.toList[pos]? with
  | some b => ite' (Nat.ble (Nat.succ b.toNat) 128) (b.toNat, 1) (Utf8.decode s pos)
  | none => Utf8.decode s pos
theorem decF_eq (s : ByteArray) (pos : Nat) : decF s pos = Utf8.decode s pos := by
  unfold decF
  split
  · rename_i b hb
    cases hq : Nat.ble (Nat.succ b.toNat) 128 with
    | false => rfl
    | true =>
      have hlt := Nat.le_of_ble_eq_true hq
      have hb2 : s.data[pos]? = some b := by rw [← Array.getElem?_toList]; exact hb
      obtain ⟨hp, e⟩ := Array.getElem?_eq_some_iff.1 hb2
      have hp2 : pos < s.size := hp
      have e2 : s[pos]'hp2 = b := e
      rw [decode_ascii s pos hp2 (by rw [e2]; omega), e2]
  · rfl
def o_next (x : Operand) : OpF := fun _ A H => match ev A x with
  | some (.pointer (some p)) => ite' (Nat.beq p.off 0) (match H.b.get p.block with
    | some (.siter s pos) => ite' (Nat.ble (Nat.succ pos) s.data.toList.length)
        (some (.tuple #[.bool true, .int .i64 (Int.ofNat pos), .int .i32 (Int.ofNat (decF s pos).1)], ⟨H.b.put p.block (some (.siter s (Nat.add pos (decF s pos).2))), H.next⟩))
        (some (.tuple #[.bool false], H))
    | _ => none) none
  | _ => none
theorem next_ok {P : Program} {T : Cx} {o : Oper} {x : Operand} (h : o.op = .next x true) : Sound ds P T o (o_next x) := fun A H v H' hf E a w ha hr => by
  unfold o_next at hf
  split at hf
  · rename_i p hx
    obtain ⟨h0, hf1⟩ := ite'_some hf
    clear hf
    obtain ⟨hsp, hpb, ex⟩ := (ev_ok ha hx).pptr
    have hoff := Nat.eq_of_beq_eq_true h0
    rw [hoff] at ex
    split at hf1
    · rename_i s pos hb
      have hi : w.heap[E.s p.block]? = some (.stringIter s pos) := hr.rel _ _ hb
      cases hq : Nat.ble (Nat.succ pos) s.data.toList.length with
      | true =>
        rw [hq, ite'_true] at hf1
        cases hf1
        have hlt : pos < s.size := Nat.le_of_ble_eq_true hq
        have hrun := run_next_any_at (P := P) w (E.s p.block) s pos o.type hi hlt
        obtain ⟨g1, g2⟩ := hr.upd (w' := w.iterAt (E.s p.block) s (pos + (Utf8.decode s pos).2)) (x1 := .siter s (Nat.add pos (decF s pos).2)) hb
          (by rw [decF_eq]; exact iterAt_heap w _ s pos _ hi) (fun i hne => iterAt_other w _ i s _ hne) rfl rfl rfl (by rw [iterAt_size]; exact Nat.le_refl _) rfl
        refine ⟨E, .tuple #[.bool true, .int .i64 pos, .int .i32 (Utf8.decode s pos).1], _, _, ?_, .inl rfl, g2, ?_, g1⟩
        · simp [execOp, h, ex, hrun]
        · rw [decF_eq]
          exact .tuple (l := [.bool true, .int .i64 pos, .int .i32 (Utf8.decode s pos).1]) (l' := [.bool true, .int .i64 pos, .int .i32 (Utf8.decode s pos).1]) (.cons (.same rfl) (.cons (.same rfl) (.cons (.same rfl) .nil)))
      | false =>
        rw [hq, ite'_false] at hf1
        cases hf1
        have hge : ¬ pos < s.size := by
          have := ble_false hq
          show ¬ pos < s.data.toList.length
          omega
        have hrun := run_next_end_at (P := P) w (E.s p.block) s pos o.type hi hge
        refine sound_pure (v' := .tuple #[.bool false]) hr ?_ (.tuple (l := [.bool false]) (l' := [.bool false]) (.cons (.same rfl) .nil))
        simp [execOp, h, ex, hrun]
    · cases hf1
  · cases hf
def nextD (s : Bool) (x : Operand) : OpF := match s with
  | true => o_next x
  | false => noF
end
end Go.Proofs.YtanhkchpffkloaaGreatDoor
