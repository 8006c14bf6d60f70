import Derived.Test.YtdkfimejabanlaaDoorTn
namespace Go.Proofs.YtdkfimejabanlaaDoor
open Go.ChangeShapes Go.WideShapes Go.ChangeAt Go.RowKit Go.WideMaps
set_option linter.unusedVariables false
set_option linter.unusedSimpArgs false
def varsOf (V : TT) : List Int := varsT V []
theorem idx_nil : idxF [] = fun _ => none := by funext x; simp [idxF]
/-- the visitor, made. -/
theorem vst_new (w w1 : World) (hb : Below w.heap.size w w1) : VSt w ((w1.alloc (.map #[] 0)).alloc (.cells #[.map (some w1.heap.size), .slice none 0 0, .slice none 0 0] 69)) (w1.heap.size + 1) w1.heap.size [] [] := by
  have e : (w1.alloc (.map #[] 0)).heap.size = w1.heap.size + 1 := by simp
  refine ⟨.slice none 0 0, .slice none 0 0, ⟨?_, World.ownsRow_nil _ _ _ _, World.ownsRow_nil _ _ _ _, ?_, by have := hb.size; omega⟩, bt hb (bt (below_alloc w1 _) (below_alloc _ _))⟩
  · have := heap_alloc_new (w1.alloc (.map #[] 0)) (.cells #[.map (some w1.heap.size), .slice none 0 0, .slice none 0 0] 69)
    rw [e] at this; exact this
  · rw [idx_nil]
    exact (mn_made w1).below (below_alloc _ _)
set_option maxRecDepth 100000 in
set_option maxHeartbeats 2000000 in
theorem vars_any {d : Nat} {V : TT} {v : Value} {w : World} (hd : d ≤ 7) (hbg : bigT d V = false) (hsh : shp V = true) (h : TIn w any0 V v) :
    Calls Tryd.prog 21 #[v] w fun e w' => ∃ A c, e = .returned (.slice A (varsOf V).length c) ∧ Hid (w'.ownsRow w.heap.size TI 1 (.slice A (varsOf V).length c) (varsOf V).length (ivs (varsOf V))) ∧ Hid (Below w.heap.size w w') := by
  have hnd := small_nodes hbg hd
  have hin : TIn w (· < w.heap.size) V v := h.weak (fun b hb _ => hb)
  obtain ⟨A, c, rfl, -⟩ := h
  have CL := Lib.hid (fun W R M (hW : Below w.heap.size w W) (hs : VSt w W R M [] []) => collect_any d V _ 0 w W R M [] [] hbg hd hsh (by omega) (by omega) (by simp; omega) (hin.later hW) hs)
  unfold tv at CL ⊢
  have VN := Lib.hid (vst_new w (w.alloc (.cells #[.int .i64 V.k, .string V.nm, .int .i64 V.vr, .slice A V.args.length c] 27)) (below_alloc w _))
  have hsz : (w.alloc (.cells #[.int .i64 V.k, .string V.nm, .int .i64 V.vr, .slice A V.args.length c] 27)).heap.size = w.heap.size + 1 := by simp
  rw [hsz] at VN
  have HB3 := Lib.hid (bt (below_alloc w (.cells #[.int .i64 V.k, .string V.nm, .int .i64 V.vr, .slice A V.args.length c] 27)) (bt (below_alloc _ (.map #[] 0)) (below_alloc _ (.cells #[.map (some (w.heap.size + 1)), .slice none 0 0, .slice none 0 0] 69))))
  have hmm := @run_makeMap Tryd.prog
  clear hbg hsh hin hsz
  go_enter Tryd.func21, Tryd.ntmps21
  go_wp2_with fail
  refine (CL.out _ _ _ HB3.out VN.out).mono ?_; rintro e w2 ⟨rfl, s2, k2⟩
  obtain ⟨vv, tvv, vs, bb⟩ := s2.out
  obtain ⟨Av, cv, rfl⟩ := vform vs.vars
  have OW := Lib.hid vs.vars
  have BB := Lib.hid bb
  obtain ⟨c0, c1, -, -⟩ := vs.cells
  clear vs bb CL VN s2 k2
  go_wp2
  go_ret
  exact ⟨_, _, rfl, OW, BB⟩
end Go.Proofs.YtdkfimejabanlaaDoor
