import Derived.Test.YtclilpabdcdeoaaDoorOp
import Derived.Lib.LaidTab
import Derived.Stop.LaidErr
import Derived.LaidMore
namespace Go.Proofs.YtclilpabdcdeoaaDoor
open Go.ChangeShapes Go.WideShapes Go.ChangeAt Go.RowKit
set_option linter.unusedVariables false
theorem cells95 : Tryd.prog.cellsOf 95 = 1 := by kernel_rfl
theorem cells106 : Tryd.prog.cellsOf 106 = 20 := by kernel_rfl
theorem gPow : Tryd.prog.globalNamed "internal/strconv.uint64pow10" = some 0 := by kernel_rfl
theorem gPowT : (Tryd.prog.globals[0]?).map (·.type) = some 106 := by kernel_rfl
theorem pow_eq : (Rows.laid_internal_strconv_uint64pow10 : DataW Unit) = Lib.tabData .u64 Lib.pow10Tab := by kernel_rfl
theorem powTab_of {a b : String × DataW Unit} {W : World} (h : laidMet Tryd.prog [a, b, ("internal/strconv.uint64pow10", Rows.laid_internal_strconv_uint64pow10)] W) : PowTab W := by
  rw [pow_eq] at h
  have ht := Lib.tabIs_of_head gPow gPowT Tryd.underlying106 Tryd.underlying95 cells95 cells106 (laidMet.tail (laidMet.tail h))
  exact Lib.tabBelow_of_tabIs ht
theorem arr_of {cs : Array Value} {l : List Value} (h : cs.toList = l) : cs = l.toArray := Array.ext' h
section
variable {H : Type} {enc : TypeId × Value → H} {W : World} {base : Nat}
set_option maxRecDepth 100000 in
theorem open_argV {r : Reach} {b0 : Nat} {v : Value} {d : DataW H} {p : List MemPlace} (o : Value.okWide Tryd.prog W r b0 26 v) (h : DataW.Trod enc Tryd.prog W base (fun _ => true) true 26 v d p) : ∃ V, VIn W V v := by
  obtain ⟨cs, rfl, hsz⟩ := okWide_struct Tryd.underlying26 o
  obtain ⟨fuel, hf⟩ := h
  obtain ⟨V, A, c, e, h1, h2, h3⟩ := (open_V fuel).1 _ _ hf
  have h1 : cs.toList = _ := h1
  exact ⟨V, A, c, e, by rw [arr_of h1], h2, h3⟩
set_option maxRecDepth 100000 in
theorem open_argT {r : Reach} {b0 : Nat} {v : Value} {d : DataW H} {p : List MemPlace} (o : Value.okWide Tryd.prog W r b0 34 v) (h : DataW.Trod enc Tryd.prog W base (fun _ => true) true 34 v d p) : ∃ T, TIn W T v := by
  obtain ⟨cs, rfl, hsz⟩ := okWide_struct Tryd.underlying34 o
  obtain ⟨fuel, hf⟩ := h
  obtain ⟨V, A, c, h1, h3⟩ := (open_T fuel).1 _ _ hf
  have h1 : cs.toList = _ := h1
  exact ⟨V, A, c, by rw [arr_of h1], h3⟩
set_option maxRecDepth 100000 in
theorem open_argL {r : Reach} {b0 : Nat} {v : Value} {d : DataW H} {p : List MemPlace} (o : Value.okWide Tryd.prog W r b0 23 v) (h : DataW.Trod enc Tryd.prog W base (fun _ => true) true 23 v d p) : ∃ (l : List VT) (A : Option Addr) (c : Nat), v = .slice A l.length c ∧ VRow W A l := by
  obtain ⟨a, n, c, rfl⟩ := okWide_slice Tryd.underlying23 o
  obtain ⟨fuel, hf⟩ := h
  obtain ⟨l, h1, h2⟩ := (open_V fuel).2 _ _ _ _ hf
  exact ⟨l, a, c, by rw [h1], h2⟩
set_option maxRecDepth 100000 in
theorem open_argC {r : Reach} {b0 : Nat} {v : Value} {d : DataW H} {p : List MemPlace} (o : Value.okWide Tryd.prog W r b0 38 v) (h : DataW.Trod enc Tryd.prog W base (fun _ => true) true 38 v d p) : ∃ (l : List CN) (A : Option Addr) (c : Nat), v = .slice A l.length c ∧ CRow W A l := by
  obtain ⟨a, n, c, rfl⟩ := okWide_slice Tryd.underlying38 o
  obtain ⟨fuel, hf⟩ := h
  obtain ⟨l, h1, h2⟩ := open_C hf
  exact ⟨l, a, c, by rw [h1], h2⟩
end
end Go.Proofs.YtclilpabdcdeoaaDoor
