import Derived.Test.YtclilpabdcdeoaaDoorRr
namespace Go.Proofs.YtclilpabdcdeoaaDoor
open Go.ChangeShapes Go.WideShapes Go.ChangeAt Go.RowKit
set_option linter.unusedVariables false
set_option maxRecDepth 100000 in
set_option maxHeartbeats 4000000 in
theorem rRender_any {cells : List VT} {cons : List CN} {Ac Ak : Option Addr} {cc ck d : Nat} {V : VT} {T : TT} {v t : Value} {w : World} (hkl : cons.length ≤ 1000000) (hcb : ∀ c ∈ cells, bigD 7 c = false) (hcl : cells.length ≤ 1000000) (hb : bigD d V = false)
    (hrc : RRow w (fun _ => True) Ac cells) (hk : CRow w Ak cons) (hv : RV w V v) (ht : RT w T t) (hs : (rtext cells cons 50 V T).size ≤ 900000) :
    Calls Tryd.prog 23 #[v, t, .slice Ac cells.length cc, .slice Ak cons.length ck] w fun e w' => e = .returned (.string (rtext cells cons 50 V T)) ∧ Below w.heap.size w w' := by
  obtain ⟨A, c, rfl, hn, hA⟩ := hv
  obtain ⟨A2, c2, rfl, hA2⟩ := ht
  have B2 : Hid (Below w.heap.size w ((w.alloc (.cells #[.int .i64 V.k, .int .i64 V.n, .string V.nm, .slice A V.args.length c, .int .i64 V.node, .pointer none, .int .i64 V.at_, .int .i64 0] 46)).alloc (.cells #[.int .i64 T.k, .string T.nm, .int .i64 T.vr, .slice A2 T.args.length c2] 60))) := Lib.hid ((below_alloc w _).trans ((below_alloc _ _).mono (below_alloc w _).size))
  have CALL := Lib.hid (rrender_any (cc := cc) (ck := ck) hkl hcb hcl 50 d V T _ _ _ 0 (by omega) (by omega) hb (hrc.later B2.out) (hk.later B2.out) (RV.later ⟨A, c, rfl, hn, hA⟩ B2.out) (RT.later ⟨A2, c2, rfl, hA2⟩ B2.out) hs)
  clear hrc hk hA hA2 hs hb hcb
  go_enter Tryd.func23, Tryd.ntmps23
  go_wp2_with fail
  refine Calls.mono CALL.out ?_; rintro e w1 ⟨rfl, hb1⟩
  have B1 := Lib.hid (B2.out.trans (hb1.mono B2.out.size))
  clear hb1
  go_wp2
  go_ret
  exact ⟨rfl, B1.out⟩
end Go.Proofs.YtclilpabdcdeoaaDoor
