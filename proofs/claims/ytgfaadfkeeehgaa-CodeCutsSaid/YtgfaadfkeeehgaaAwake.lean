import Derived.Test.YtgfaadfkeeehgaaAll
import Derived.Laws.BytesArg
namespace Go.Proofs.Ytgfaadfkeeehgaa
open Go.ChangeShapes Go.WideShapes Go.ChangeAt Go.RowKit
set_option linter.unusedVariables false
def strB (xs : List Nat) : ByteArray := strOfNums (xs.map fun (n : Nat) => (n : Int))
/-- an owned row of bytes, laid open: an address, or nothing in it. -/
theorem own_open {w : World} {base n : Nat} {v : Value} {xs : List Nat} (own : w.ownsRow base 5 1 v n (bys xs)) :
    (v = .slice none 0 0 ∧ xs = []) ∨ ∃ g cap, v = .slice (some ⟨g, 0, none⟩) xs.length cap ∧ base ≤ g ∧ g < w.heap.size ∧ xs.length ≤ cap ∧ ∀ j, j < xs.length → w.cell? ⟨g, 0 + j, none⟩ = some (.int .u8 (xs.getD j 0 : Nat)) := by
  have hl := own_len own
  rcases own.2 with ⟨e, h⟩ | ⟨g, cap, cur, rfl, hb, hg, hc, _, _, _⟩
  · exact .inl ⟨e, List.eq_nil_of_length_eq_zero (by omega)⟩
  · refine .inr ⟨g, cap, by rw [hl], hb, (own.lt g rfl).2, by omega, fun j hj => ?_⟩
    rw [Nat.zero_add, own.cellAt j (by omega)]
    simp [bys, hj]
theorem str_own {w : World} {base n : Nat} {v : Value} {xs : List Nat} (own : w.ownsRow base 5 1 v n (bys xs)) : (convert 28 9 v).run Try.prog w = .ok (.string (strB xs)) w := by
  rcases own_open own with ⟨rfl, rfl⟩ | ⟨g, cap, rfl, _, _, _, hc⟩
  · exact run_convert_bytes_nil w 28 5 Try.underlying28 Try.underlying5 0 0 9 Try.underlying9
  · exact run_convert_bytes_arg w 28 5 Try.underlying28 Try.underlying5 g 0 xs.length cap (xs.map fun (n : Nat) => (n : Int)) (by simp) (fun i hi => by rw [hc i hi]; simp [List.getD, hi]) 9 Try.underlying9
set_option maxRecDepth 100000 in
set_option maxHeartbeats 4000000 in
theorem awake (w : World) : Calls Try.prog 7 #[] w fun e w' => e = .returned (.bool true) ∧ Below w.heap.size w w' := by
  have ps : putS 5 0 (-1) = [133, 1] := by decide +kernel
  have gs : getS [133, 1] = ((5, 0, -1), 2) := by decide +kernel
  have PUT := Lib.hid (fun w => put_src (w := w) (v := .slice none 0 0) (xs := []) 5 0 (-1) (.inl ⟨rfl, rfl⟩) (by simp) (Lib.hid (by omega)) (Lib.hid (by omega)) (Lib.hid (by omega)) (Lib.hid (by omega)))
  have SZ := Lib.hid (fun w => size_any (w := w) 5 0 (-1) (Lib.hid (by omega)) (Lib.hid (by omega)) (Lib.hid (by omega)) (Lib.hid (by omega)))
  rw [ps] at PUT SZ
  have GS := Lib.hid gs; clear ps gs
  have se : ∀ W, (binOp .eql 24 (.agg #[.int .i64 5, .int .i64 0, .int .i64 (-1)]) (.agg #[.int .i64 5, .int .i64 0, .int .i64 (-1)])).run Try.prog W = .ok (.bool true) W := fun _ => by kernel_rfl
  go_enter Try.func7, Try.ntmps7
  go_wp2_with fail
  refine (PUT.out _).mono ?_; rintro e w2 ⟨v, n, rfl, own, hb2⟩
  rcases own_open own with ⟨_, h⟩ | ⟨g, cap, rfl, _, hg, hc, hcell⟩
  · cases h
  have CG := codeget (w := w2) (h := g) (o := 0) (cap := cap) (c := 133) (t := [1]) hcell hg (by omega) (by simp) hc
  rw [GS.out] at CG
  have CGH := Lib.hid CG; clear CG hcell
  have OWN := Lib.hid own; clear own
  go_wp2_with fail
  refine CGH.out.mono ?_; rintro e w3 ⟨rfl, hb3⟩
  have own3 := own_below OWN.out hb3
  have cv : ∀ o : Obj, (convert 28 9 (.slice (some ⟨g, 0, none⟩) 2 cap)).run Try.prog (w3.alloc o) = .ok (.string { data := #[133, 1] }) (w3.alloc o) := fun o => by
    have := str_own (own3.alloc o)
    rw [show strB ([] ++ [133, 1]) = { data := #[133, 1] } from by rfl] at this
    exact this
  have ee : errG 2 = 0 := rfl
  have HB3 := Lib.hid (bt hb2 hb3)
  clear own3 hb2 hb3
  go_wp2_with fail
  refine (SZ.out _).mono ?_; rintro e w4 ⟨rfl, hb4⟩
  have HB4 := Lib.hid (bt (bt HB3.out (below_alloc w3 _)) hb4)
  go_wp2
  go_ret
  exact ⟨rfl, HB4.out⟩
end Go.Proofs.Ytgfaadfkeeehgaa
