import Derived.Test.YtclilpabdcdeoaaDoorVt
namespace Go.Proofs.YtclilpabdcdeoaaDoor
open Go.ChangeShapes Go.WideShapes Go.ChangeAt Go.RowKit
set_option linter.unusedVariables false
theorem RS.c1 {w0 w : World} {R : Nat} {cs ks : Value} {s : ByteArray} (h : RS w0 w R cs ks s) : w.cell? ⟨R, 1, none⟩ = some ks := by
  obtain ⟨A, n, cap, h1, h2⟩ := h.at_
  simp [World.cell?, h1]
def TypesI (cons : List CN) (nm : ByteArray) (i : Value) : Prop := ∃ k : Nat, k ≤ cons.length ∧ i = .int .i64 k ∧ typesOf cons nm = typesOf (cons.drop k) nm
def TxAns (w0 : World) (l : List ByteArray) (e : Ending) : Prop := ∃ A c, e = .returned (.slice A l.length c) ∧ TxRow w0 A l
theorem typesOf_drop {cons : List CN} {nm : ByteArray} {k : Nat} (h : k < cons.length) : typesOf (cons.drop k) nm = if eqB cons[k].name nm = true then cons[k].types else typesOf (cons.drop (k + 1)) nm := by
  rw [List.drop_eq_getElem_cons h]; rfl
set_option maxRecDepth 100000 in
set_option maxHeartbeats 2000000 in
theorem types_any {w0 w : World} {R ck : Nat} {cs : Value} {s nm : ByteArray} {Ak : Option Addr} {cons : List CN} (h : RS w0 w R cs (.slice Ak cons.length ck) s) (hc : CRow w0 Ak cons) (hl : cons.length ≤ 1000000) :
    Calls Tryd.prog 44 #[.pointer (some ⟨R, 0, none⟩), .string nm] w fun e w' => TxAns w0 (typesOf cons nm) e ∧ w = w' := by
  have c1 := h.c1
  have HB := Lib.hid h.below
  have HC := Lib.hid hc
  clear h hc
  go_enter Tryd.func44, Tryd.ntmps44
  go_wp2
  go_loop [5, 11] (fun _ i => TypesI cons nm i) (fun _ i => cons.length - (intOf i).toNat)
  case atStart => exact ⟨0, by omega, rfl, rfl⟩
  case round =>
    obtain ⟨k, hk, rfl, ht⟩ := hrel
    have HT := Lib.hid ht
    clear ht
    by_cases hlt : k < cons.length
    · have hx := typesOf_drop (nm := nm) hlt
      obtain ⟨b, o, rfl, hb, hr⟩ : ∃ b o, Ak = some ⟨b, o, none⟩ ∧ b < w0.heap.size ∧ ∀ i (h : i < cons.length), w0.cell? ⟨b, o + i * 2, none⟩ = some (.string cons[i].name) ∧ ∃ A' c', w0.cell? ⟨b, o + i * 2 + 1, none⟩ = some (.slice A' cons[i].types.length c') ∧ TxRow w0 A' cons[i].types := by
        rcases HC.out with h0 | h0
        · omega
        · exact h0
      obtain ⟨x0, A', c', x1, hT⟩ := hr k hlt
      have y0 := (HB.out.cell (p := ⟨b, o + k * 2, none⟩) hb).trans x0
      have y1 := (HB.out.cell (p := ⟨b, o + k * 2 + 1, none⟩) hb).trans x1
      have HT2 := Lib.hid hT
      clear x0 x1 hr hb hT
      by_cases he : eqB cons[k].name nm = true
      · rw [if_pos he] at hx
        have d : (cons[k].name.toList == nm.toList) = true := he
        have HX : Hid (typesOf cons nm = cons[k].types) := Lib.hid (HT.out.trans hx)
        clear hx he
        go_wp2
        go_ret
        exact ⟨⟨A', c', by rw [HX.out]; rfl, by rw [HX.out]; exact HT2.out⟩, rfl⟩
      · rw [if_neg he] at hx
        have d : (cons[k].name.toList == nm.toList) = false := by unfold eqB at he; simpa using he
        have HX : Hid (typesOf cons nm = typesOf (cons.drop (k + 1)) nm) := Lib.hid (HT.out.trans hx)
        clear hx he
        go_wp2
        go_round
        case rel => exact ⟨k + 1, by omega, by go_num, HX.out⟩
        case measure => simp [intOf]; omega
    · have HX : Hid (typesOf cons nm = []) := Lib.hid (HT.out.trans (by rw [List.drop_eq_nil_of_le (by omega)]; rfl))
      go_wp2
      go_ret
      exact ⟨⟨none, 0, by rw [HX.out]; rfl, by rw [HX.out]; exact .inl rfl⟩, rfl⟩
end Go.Proofs.YtclilpabdcdeoaaDoor
