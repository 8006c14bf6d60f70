import Derived.Test.YtdkfimejabanlaaDoorSe
namespace Go.Proofs.YtdkfimejabanlaaDoor
open Go.ChangeShapes Go.WideShapes Go.ChangeAt Go.RowKit Go.WideMaps
set_option linter.unusedVariables false
set_option linter.unusedSimpArgs false
set_option maxRecDepth 100000 in
theorem conv_row {w : World} {B n cap : Nat} {A : Option Addr} {x : ByteArray} (own : w.ownsRow B 5 1 (.slice A n cap) n (Lib.strCells x)) : (convert 67 9 (.slice A n cap)).run Tryd.prog w = .ok (.string x) w := by
  have hn : n = x.size := by have := own.1; rw [Lib.strCells_length] at this; omega
  rcases own.2 with ⟨e, h0⟩ | ⟨g, cap', cur, e, h1, h2, h3⟩
  · injection e with e1 e2 e3
    subst e1 e2 e3
    have hx : x = ⟨#[]⟩ := by
      obtain ⟨⟨l⟩⟩ := x
      have : l.length = 0 := hn.symm
      rw [List.length_eq_zero_iff.1 this]
    rw [hx]
    exact run_convert_bytes_nil w 67 5 Tryd.underlying67 Tryd.underlying5 0 0 9 Tryd.underlying9
  · injection e with e1 e2 e3
    subst e1
    obtain ⟨⟨l⟩⟩ := x
    have hl : n = l.length := hn
    subst hl
    exact run_convert_bytes_back w 67 9 5 ⟨g, 0, none⟩ cap l Tryd.underlying67 Tryd.underlying5 Tryd.underlying9 (fun j hj => by
      have := own.cells (g := g) rfl j (.int .u8 (l[j].toNat : Int)) (by simp [Lib.strCells, List.getElem?_eq_getElem hj])
      exact this)
/-- the text of a type. -/
def showT (V : TT) : ByteArray := txt V []
set_option maxRecDepth 100000 in
set_option maxHeartbeats 2000000 in
theorem show_any {V : TT} {v : Value} {w : World} (hbg : bigT 7 V = false) (hsh : shp V = true) (h : TIn w any0 V v) :
    Calls Tryd.prog 18 #[v] w fun e w' => e = .returned (.string (showT V)) ∧ Below w.heap.size w w' := by
  have hvf : (varsT V []).length ≤ 99 := by have := vars_few 6 V [] hbg hsh; simp at this; omega
  have htx : (txt V []).size ≤ 900000 := by have := txt_small 7 V [] hbg hsh hvf; omega
  have hin : TIn w (· < w.heap.size) V v := h.weak (fun b hb _ => hb)
  obtain ⟨A, c, rfl, -⟩ := h
  have CL := Lib.hid (fun W R M (hW : Below w.heap.size w W) (hs : VX w W R M [] ⟨#[]⟩) => write_any 7 V _ 0 w W R M [] ⟨#[]⟩ hbg hsh (by omega) (by omega) hvf (by show 0 + _ ≤ _; omega) (hin.later hW) hs)
  unfold tv at CL ⊢
  have VN := Lib.hid (vst_new w (w.alloc (.cells #[.int .i64 V.k, .string V.nm, .int .i64 V.vr, .slice A V.args.length c] 27)) (below_alloc w _))
  have hsz : (w.alloc (.cells #[.int .i64 V.k, .string V.nm, .int .i64 V.vr, .slice A V.args.length c] 27)).heap.size = w.heap.size + 1 := by simp
  rw [hsz] at VN
  have HB3 := Lib.hid (bt (below_alloc w (.cells #[.int .i64 V.k, .string V.nm, .int .i64 V.vr, .slice A V.args.length c] 27)) (bt (below_alloc _ (.map #[] 0)) (below_alloc _ (.cells #[.map (some (w.heap.size + 1)), .slice none 0 0, .slice none 0 0] 69))))
  have hmm := @run_makeMap Tryd.prog
  have HX := Lib.hid (show (⟨#[]⟩ : ByteArray) ++ txt V [] = showT V by unfold showT; rw [show (⟨#[]⟩ : ByteArray) = ByteArray.empty from rfl, ByteArray.empty_append])
  obtain ⟨T, hT⟩ : ∃ T, T = showT V := ⟨_, rfl⟩
  rw [← hT] at HX ⊢
  clear hbg hsh hin hsz hvf htx hT
  go_enter Tryd.func18, Tryd.ntmps18
  go_wp2_with fail
  refine (CL.out _ _ _ HB3.out VN.out).mono ?_; rintro e w2 ⟨rfl, s2, k2⟩
  have V2 := Lib.hid (show VX w w2 (w.heap.size + 1 + 1) (w.heap.size + 1) (varsT V []) T by rw [← HX.out]; exact s2.out)
  have BB := Lib.hid V2.out.base
  obtain ⟨A2, c2, z2, own2, hB2, -⟩ := vx_open V2.out
  have hcv := conv_row own2
  clear s2 k2 CL VN own2
  go_wp2
  go_ret
  exact ⟨rfl, BB.out⟩
end Go.Proofs.YtdkfimejabanlaaDoor
