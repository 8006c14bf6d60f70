import Derived.Test.YtclilpabdcdeoaaDoorNa
namespace Go.Proofs.YtclilpabdcdeoaaDoor
open Go.ChangeShapes Go.WideShapes Go.ChangeAt Go.RowKit
set_option linter.unusedVariables false
set_option maxRecDepth 100000 in
theorem conv_row {w : World} {B n cap : Nat} {A : Option Addr} {x : ByteArray} (own : w.ownsRow B 5 1 (.slice A n cap) n (Lib.strCells x)) : (convert 77 9 (.slice A n cap)).run Tryd.prog w = .ok (.string x) w := by
  have hn : n = x.size := by have := own.1; rw [Lib.strCells_length] at this; omega
  rcases own.2 with ⟨e, h0⟩ | ⟨g, cap', cur, e, h1, h2, h3⟩
  · injection e with e1 e2 e3
    subst e1 e2 e3
    have hx : x = ⟨#[]⟩ := by
      obtain ⟨⟨l⟩⟩ := x
      have : l.length = 0 := hn.symm
      rw [List.length_eq_zero_iff.1 this]
    rw [hx]
    exact run_convert_bytes_nil w 77 5 Tryd.underlying77 Tryd.underlying5 0 0 9 Tryd.underlying9
  · injection e with e1 e2 e3
    subst e1
    obtain ⟨⟨l⟩⟩ := x
    have hl : n = l.length := hn
    subst hl
    exact run_convert_bytes_back w 77 9 5 ⟨g, 0, none⟩ cap l Tryd.underlying77 Tryd.underlying5 Tryd.underlying9 (fun j hj => by
      have := own.cells (g := g) rfl j (.int .u8 (l[j].toNat : Int)) (by simp [Lib.strCells, List.getElem?_eq_getElem hj])
      exact this)
set_option maxRecDepth 100000 in
set_option maxHeartbeats 4000000 in
theorem render_of {w : World} {v0 v1 v2 v3 v4 v5 v6 : Value} {Ac Ak : Option Addr} {nc cc nk ck : Nat} {tn x : ByteArray} {tk vr : Int} {A2 : Option Addr} {n2 c2 : Nat}
    (hV : ∀ W, RS w W (w.heap.size + 2) (.slice Ac nc cc) (.slice Ak nk ck) .empty → (∀ i v, #[v0, v1, v2, v3, v4, v5, v6][i]? = some v → Has w W (w.heap.size + 2) w.heap.size i v) →
      Calls Tryd.prog 31 #[.pointer (some ⟨w.heap.size + 2, 0, none⟩), .pointer (some ⟨w.heap.size, 0, none⟩), .agg #[.int .i64 tk, .string tn, .int .i64 vr, .slice A2 n2 c2], .int .i64 0] W fun e w' => e = .returned (.tuple #[]) ∧ Hid (RS w w' (w.heap.size + 2) (.slice Ac nc cc) (.slice Ak nk ck) x)) :
    Calls Tryd.prog 14 #[.agg #[v0, v1, v2, v3, v4, v5, v6], .agg #[.int .i64 tk, .string tn, .int .i64 vr, .slice A2 n2 c2], .slice Ac nc cc, .slice Ak nk ck] w fun e w' => e = .returned (.string x) ∧ Below w.heap.size w w' := by
  have VV : Hid (∀ t, Calls Tryd.prog 31 #[.pointer (some ⟨w.heap.size + 2, 0, none⟩), .pointer (some ⟨w.heap.size, 0, none⟩), .agg #[.int .i64 tk, .string tn, .int .i64 vr, .slice A2 n2 c2], .int .i64 0] (((w.alloc (.cells #[v0, v1, v2, v3, v4, v5, v6] 26)).alloc t).alloc (.cells #[.slice Ac nc cc, .slice Ak nk ck, .slice none 0 0] 79)) fun e w' => e = .returned (.tuple #[]) ∧ Hid (RS w w' (w.heap.size + 2) (.slice Ac nc cc) (.slice Ak nk ck) x)) := Lib.hid (fun t => by
    have s1 : (w.alloc (.cells #[v0, v1, v2, v3, v4, v5, v6] 26)).heap.size = w.heap.size + 1 := by show (w.heap.push _).size = _; simp
    have s2 : ((w.alloc (.cells #[v0, v1, v2, v3, v4, v5, v6] 26)).alloc t).heap.size = w.heap.size + 2 := by show ((w.heap.push _).push _).size = _; simp
    refine hV _ ⟨?_, by omega, none, 0, 0, ?_, World.ownsRow_nil _ _ _ _⟩ ?_
    · exact (((Below.refl w.heap.size w).alloc (Nat.le_refl _) _).alloc (by rw [s1]; omega) _).alloc (by rw [s2]; omega) _
    · rw [← s2]; exact (MapKept.heap_alloc _ _).1
    · intro i v hi
      exact (Has.kp (w := w.alloc (.cells #[v0, v1, v2, v3, v4, v5, v6] 26)) (.inl ⟨_, 26, by decide, by omega, (MapKept.heap_alloc w _).1, hi⟩) ((kp_alloc _ _ _).trans (kp_alloc _ _ _))))
  clear hV
  go_enter Tryd.func14, Tryd.ntmps14
  go_wp2_with fail
  refine (VV.out _).mono ?_; rintro e w1 ⟨rfl, H1⟩
  obtain ⟨A, n, cap, h1, h2⟩ := H1.out.at_
  have c2 : w1.cell? ⟨w.heap.size + 2, 2, none⟩ = some (.slice A n cap) := by simp [World.cell?, h1]
  have cv := conv_row h2
  clear h1 h2 VV
  go_wp2
  go_ret
  exact ⟨rfl, H1.out.below⟩
end Go.Proofs.YtclilpabdcdeoaaDoor
