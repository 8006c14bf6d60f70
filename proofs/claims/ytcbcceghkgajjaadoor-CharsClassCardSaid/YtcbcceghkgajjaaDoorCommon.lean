/- What the listed tables give a walk. -/
import Derived.Test.YtcbcceghkgajjaaDoorRows
import Derived.Test.YtcbcceghkgajjaaDoorChars
import Derived.LaidMore
import Derived.Lib.LaidTab
import Derived.Lib.Props
namespace Go.Proofs.YtcbcceghkgajjaaDoor
theorem gProps : Tryd.prog.globalNamed "unicode.properties" = some 0 := by kernel_rfl
theorem gPropsT : (Tryd.prog.globals[0]?).map (·.type) = some 35 := by kernel_rfl
theorem cells35 : Tryd.prog.cellsOf 35 = 256 := by kernel_rfl
theorem cells5 : Tryd.prog.cellsOf 5 = 1 := by kernel_rfl
theorem props_eq : (Rows.laid_unicode_properties : DataW Unit) = Lib.tabData .u8 Lib.propertiesTab := by kernel_rfl
theorem tab_of (rest : List (String × DataW Unit)) {W : World} (h : laidMet Tryd.prog (("unicode.properties", Rows.laid_unicode_properties) :: rest) W) : Lib.TabIs Tryd.prog W "unicode.properties" .u8 Lib.propertiesTab := by
  rw [props_eq] at h
  exact Lib.tabIs_of_head gProps gPropsT Tryd.underlying35 Tryd.underlying5 cells5 cells35 h
theorem hP_of (rest : List (String × DataW Unit)) {W : World} (h : laidMet Tryd.prog (("unicode.properties", Rows.laid_unicode_properties) :: rest) W) : hP W := by
  have c := (tab_of rest h).cell gProps 97 (by rw [Lib.propertiesTab_length]; decide)
  refine ⟨?_, c⟩
  by_cases hz : 0 < W.heap.size
  · exact hz
  · have : W.heap = #[] := Array.eq_empty_of_size_eq_zero (by omega)
    simp [World.cell?, this] at c
end Go.Proofs.YtcbcceghkgajjaaDoor
