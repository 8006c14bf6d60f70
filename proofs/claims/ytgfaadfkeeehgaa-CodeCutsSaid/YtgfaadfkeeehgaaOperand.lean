import Derived.Test.YtgfaadfkeeehgaaGet
namespace Go.Proofs.Ytgfaadfkeeehgaa
open Go.ChangeShapes Go.WideShapes Go.ChangeAt Go.RowKit
theorem bits_u64_in (op : BinOp) (x y : Int) : 0 ≤ bits op .u64 x y ∧ bits op .u64 x y < 18446744073709551616 := by
  unfold bits
  simp only [IntKind.wrap_u64]
  omega
theorem accG_in (bs : List Nat) (k : Nat) : 0 ≤ accG bs k ∧ accG bs k < 18446744073709551616 := by
  cases k with
  | zero => exact ⟨Int.le_refl 0, by simp [accG]⟩
  | succ k => exact bits_u64_in _ _ _
theorem resG_in (bs : List Nat) (f k : Nat) : 0 ≤ (resG bs f k).1 ∧ (resG bs f k).1 < 18446744073709551616 := by
  induction f generalizing k with
  | zero => exact ⟨by simp [resG], by simp [resG]⟩
  | succ f ih =>
    simp only [resG]
    split
    · split
      · exact ⟨by simp, by simp⟩
      · split
        · split
          · exact ⟨by simp, by simp⟩
          · exact accG_in bs (k + 1)
        · exact ih (k + 1)
    · exact ⟨by simp, by simp⟩
/-- the operand that the bytes begin with and its length, -1 if there is none. -/
def operG (bs : List Nat) : Int × Int := if (resG bs (bs.length + 1) 0).1 = 0 then (0, -1) else (unfoldN (resG bs (bs.length + 1) 0).1, (resG bs (bs.length + 1) 0).2)
theorem operand_no (v : Value) (w : World) : Calls Try.prog 16 #[v, .bool false] w fun e w' => e = .returned (.tuple #[.int .i64 0, .int .i64 0]) ∧ w = w' := by
  go_enter Try.func16, Try.ntmps16
  go_wp2
  go_returns
  exact ⟨rfl, rfl⟩
theorem operand_yes {w : World} {h o cap : Nat} {bs : List Nat} (hb : ∀ j, j < bs.length → w.cell? ⟨h, o + j, none⟩ = some (.int .u8 (bs.getD j 0 : Nat))) (hl : bs.length ≤ 1000000) :
    Calls Try.prog 16 #[.slice (some ⟨h, o, none⟩) bs.length cap, .bool true] w fun e w' => e = .returned (.tuple #[.int .i64 (operG bs).1, .int .i64 (operG bs).2]) ∧ w = w' := by
  have c := fun w' => @get_any w' h o cap bs
  obtain ⟨r, hr⟩ : ∃ r, r = resG bs (bs.length + 1) 0 := ⟨_, rfl⟩
  have RI := resG_in bs (bs.length + 1) 0
  unfold operG
  rw [← hr] at RI ⊢
  have HR := Lib.hid hr; clear hr
  have HB := Lib.hid hb; clear hb
  have C := Lib.hid c; clear c
  obtain ⟨u, n⟩ := r
  obtain ⟨r1, r2⟩ := RI
  by_cases hu : u = 0
  · subst hu
    rw [if_pos rfl]
    go_enter Try.func16, Try.ntmps16
    go_wp2_with fail
    refine (C.out _ HB.out hl).mono ?_; rintro e w' ⟨rfl, rfl⟩
    rw [← HR.out]
    go_wp2
    go_returns
    exact ⟨rfl, rfl⟩
  · rw [if_neg hu]
    have hd : ((u : Int) == 0) = false := beq_eq_false_iff_ne.2 hu
    have R := Lib.hid (And.intro r1 r2)
    clear hu r1 r2
    go_enter Try.func16, Try.ntmps16
    go_wp2_with fail
    refine (C.out _ HB.out hl).mono ?_; rintro e w' ⟨rfl, rfl⟩
    rw [← HR.out]
    go_wp2_with fail
    refine (unfold_any _ _ R.out.1 R.out.2).mono ?_; rintro e w' ⟨rfl, rfl⟩
    go_wp2
    go_returns
    exact ⟨rfl, rfl⟩
end Go.Proofs.Ytgfaadfkeeehgaa
