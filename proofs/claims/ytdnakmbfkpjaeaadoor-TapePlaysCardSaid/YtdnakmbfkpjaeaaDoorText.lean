import Derived.Test.YtdnakmbfkpjaeaaDoorPrint
import Derived.Laws.BytesArg
import Derived.Lib.ItoaLen
namespace Go.Proofs.YtdnakmbfkpjaeaaDoor
open Go.ChangeShapes Go.WideShapes Go.ChangeAt Go.RowKit
set_option linter.unusedVariables false
/-- what Text writes. -/
def textL (out : List Int) : List UInt8 := out.flatMap fun n => Lib.itoa n ++ [10]
theorem textL_snoc (xs : List Int) (x : Int) : textL (xs ++ [x]) = textL xs ++ Lib.itoa x ++ [10] := by simp [textL]
def strU (l : List UInt8) : ByteArray := strOfNums (l.map fun b => (b.toNat : Int))
theorem str_row {w : World} {B n : Nat} {v : Value} {l : List UInt8} (h : w.ownsRow B 5 1 v n (Lib.byteCells l)) : (convert 46 9 v).run Tryd.prog w = .ok (.string (strU l)) w := by
  have hl : l.length = n := by have := h.1; simp [Lib.byteCells] at this; omega
  rcases h.2 with ⟨rfl, h0⟩ | ⟨g, cap, cur, rfl, _⟩
  · have : l = [] := List.eq_nil_of_length_eq_zero (by omega)
    subst this
    exact run_convert_bytes_nil w 46 5 Tryd.underlying46 Tryd.underlying5 0 0 9 Tryd.underlying9
  · refine run_convert_bytes_arg w 46 5 Tryd.underlying46 Tryd.underlying5 g 0 n cap (l.map fun b => (b.toNat : Int)) (by simpa using hl) (fun i hi => ?_) 9 Tryd.underlying9
    rw [Nat.zero_add, h.cellAt i (by omega)]
    simp [Lib.byteCells, List.getD, show i < l.length by omega]
set_option maxRecDepth 100000 in
set_option maxHeartbeats 2000000 in
theorem text_any {w : World} {B g : Nat} {iv ov : Value} {inp out : List Int} {rd : Nat} (t : Tp w B g iv ov inp out rd) (hl : out.length ≤ 100000) (hr : ∀ j, -9223372036854775808 ≤ out.getD j 0 ∧ out.getD j 0 ≤ 9223372036854775807)
    (htab : Lib.TabBelow Tryd.prog w.heap.size w "internal/strconv.uint64pow10" .u64 Lib.pow10Tab) :
    Calls Tryd.prog 13 #[.pointer (some ⟨g, 0, none⟩)] w fun e w' => e = .returned (.string (strU (textL out))) ∧ Below w.heap.size w w' := by
  obtain ⟨i0, hi0, hz0, hz1, hz2⟩ := info_parts info5
  have c1 := t.obj.c1
  have T := Lib.hid t; have TAB := Lib.hid htab; have HR := Lib.hid hr
  obtain ⟨A, c, rfl⟩ := iform t.rout
  have CELL : Hid (∀ i, i < out.length → ∃ go, A = some ⟨go, 0, none⟩ ∧ ∀ W, Below w.heap.size w W → W.cell? ⟨go, i, none⟩ = some (.int .i64 (out.getD i 0))) := Lib.hid (fun i hi => by
    obtain ⟨go, c', e⟩ := Go.Joins.ownsRow_form t.rout (by omega)
    injection e with e1 e2 e3
    subst e1 e3
    refine ⟨go, rfl, fun W hW => ?_⟩
    rw [(t.below hW).rout.cellAt i (by omega), its_at out i hi])
  have NIL : Hid (w.ownsRow w.heap.size 5 1 (.slice none 0 0) 0 (Lib.byteCells (textL (out.take 0)))) := Lib.hid (World.ownsRow_nil _ _ _ _)
  clear t htab hr
  go_enter Tryd.func13, Tryd.ntmps13
  go_wp2
  go_loopw [3, 11] (fun b ix wr => ∃ (i nb : Nat) (v : Value), v = b ∧ ix = .int .i64 i ∧ i ≤ out.length ∧ nb ≤ 22 * i ∧ Hid (wr.ownsRow w.heap.size 5 1 v nb (Lib.byteCells (textL (out.take i)))) ∧ Hid (Below w.heap.size w wr)) (fun _ ix _ => out.length - (intOf ix).toNat)
  case atStart => exact ⟨0, 0, _, rfl, rfl, by omega, by omega, NIL, Lib.hid (Below.refl _ _)⟩
  case round =>
    obtain ⟨i, nb, v, rfl, rfl, hi, hnb, own, hb⟩ := hrel
    by_cases hil : i < out.length
    · obtain ⟨go, rfl, hcell⟩ := CELL.out i hil
      have x := hcell wr hb.out
      have hr := HR.out i
      have hil' : (i : Int) < (out.length : Int) := by omega
      have TK : Hid (out.take (i + 1) = out.take i ++ [out.getD i 0]) := Lib.hid (by rw [List.take_add_one]; simp [List.getD, hil])
      obtain ⟨r, hre⟩ : ∃ r, r = out.getD i 0 := ⟨_, rfl⟩
      rw [← hre] at x hr TK
      have IL := Lib.hid (Lib.itoa_length_le r hr.1 hr.2)
      have HS := Lib.hid hb.out.size
      clear hre hcell
      go_wp2_with fail
      refine (Tryd.strconv_AppendInt_10 w.heap.size nb r hr.1 hr.2 _ _ wr own.out HS.out (by omega) (TAB.out.on hb.out)).mono ?_
      rintro e w2 ⟨v2, rfl, own2, hb2, _⟩
      have B2 := Lib.hid (hb.out.trans hb2)
      have OWN2 := Lib.hid own2
      have HS2 := Lib.hid B2.out.size
      have HN2 : Hid (nb + (Lib.itoa r).length + 1 ≤ 22 * (i + 1)) := Lib.hid (by have := IL.out; omega)
      obtain ⟨n2, hn2⟩ : ∃ n2, n2 = nb + (Lib.itoa r).length := ⟨_, rfl⟩
      rw [← hn2] at OWN2 HN2
      have hn2' : n2 ≤ 3000000 := by have := HN2.out; omega
      clear own2 hb2 hn2
      go_wp2_with (at_builtin; refine wpList_append_lies _ rfl (.tmp 17) (.tmp 18) 46 rfl w.heap.size 5 i0 (.int .u8 0) 1 1 Tryd.underlying46 hi0 hz0 hz1 hz2 rfl (by decide) _ n2 _ rfl (OWN2.out.alloc _) ⟨w2.heap.size, 0, none⟩ 1 1 [.int .u8 10] rfl rfl ?c1 ?c2 (by omega) (by unfold maxLen; omega) (by omega) (Nat.le_trans HS2.out (by simp)) (w2.heap.size + 1) (by simp) ?_)
      case c1 =>
        intro j u hj
        match j, hj with
        | 0, hj => simp at hj; subst hj; exact new_cell w2 _ 5
      case c2 => intro u hu; simp at hu; subst hu; rfl
      intro g3 cap3 w3 own3 gr3 at3 lt3
      have OWN3 : Hid (w3.ownsRow w.heap.size 5 1 (.slice (some ⟨g3, 0, none⟩) (n2 + 1) cap3) (n2 + 1) (Lib.byteCells (textL (out.take (i + 1))))) := Lib.hid (by
        rw [TK.out, textL_snoc]
        simpa [Lib.byteCells] using own3)
      have B3 : Hid (Below w.heap.size w w3) := Lib.hid (B2.out.trans ((((Below.refl _ _).alloc HS2.out _).grown gr3 (Nat.le_trans HS2.out (by simp)) (fun k hk => (OWN2.out.lt k hk).1))))
      clear own3 gr3 at3 lt3
      go_wp2
      go_roundw
      case rel => exact ⟨i + 1, n2 + 1, _, rfl, by go_num, hil, HN2.out, OWN3, B3⟩
      case measure => simp [intOf]; omega
    · have hil' : ¬ (i : Int) < (out.length : Int) := by omega
      have TKE : out.take i = out := List.take_of_length_le (by omega)
      have cv := str_row own.out
      rw [TKE] at cv
      clear TKE hil
      go_wp2
      go_ret
      exact ⟨rfl, hb.out⟩
end Go.Proofs.YtdnakmbfkpjaeaaDoor
