import Derived.Test.YtifopogkbjhkjaaGreatDoorWo
namespace Go.Proofs.YtifopogkbjhkjaaGreatDoor
open DR
open Go.ChangeShapes Go.WideShapes Go.ChangeAt Go.RowKit Go.WideMaps
set_option linter.unusedVariables false
set_option linter.unusedSimpArgs false
theorem infoS : (Tryz.prog.info? RScT).map (fun i => (i.zero, i.size, i.bytes)) = some (some (.agg #[.slice none 0 0, .int .i64 0, .string .empty, .int .i64 0, .slice none 0 0]), 5, 80) := by kernel_rfl
/-- Close answers alike. -/
theorem close_same {St R : List TT} (hR : SInv R) (he : ∀ x, stA R x = stA St x) {E : List (List Int × TT)} {V : TT} : rcloseF R E V = closeF St E V := by
  unfold rcloseF closeF
  have hok : okE E = true ↔ ∀ e ∈ E, sgoodT e.2 e.1 = true := by unfold okE; rw [List.all_eq_true]
  by_cases h : goodT V = true ∧ okE E = true
  · rw [if_pos h, if_pos ⟨h.1, hok.1 h.2⟩, app_congr he]
    rw [all_same (tk := takenS St E) (fun y => by
      have := held_same (St := St) hR he (E := E) (fun e hm => good_shp (good_allS (hok.1 h.2 e hm))) y
      exact this)]
  · rw [if_neg h, if_neg (fun e => h ⟨e.1, hok.2 e.2⟩)]
theorem closeF_big {St : List TT} (h : SInv2 St) {E : List (List Int × TT)} {V : TT} (hb : bigT 7 V = false) : bigT 507 (closeF St E V).1 = false ∧ (closeF St E V).2.length ≤ 60000 := by
  unfold closeF
  by_cases hg : goodT V = true ∧ ∀ e ∈ E, sgoodT e.2 e.1 = true
  · rw [if_pos hg]
    have h1 := app_few h hb (good_shp hg.1)
    have h2 := varsT_len (apvF St V) []
    have h3 := freeS_len (apvF St V) (takenS St E)
    refine ⟨big_app h 7 V hb (good_shp hg.1), ?_⟩
    unfold varsOf at h3
    simp at h2
    show (freeS _ _).length ≤ _
    omega
  · rw [if_neg hg]; exact ⟨big_mono (by omega) _ hb, by simp⟩
theorem openF_big {St : List TT} (h : SInv2 St) {n : Int} {all : List Int} {V : TT} (h0 : 0 ≤ n) (h1 : n + all.length ≤ 1999) (hb : bigT 7 V = false) : bigT 507 (openF St n all V).1 = false := by
  unfold openF
  by_cases hs : sgoodT V all = true
  · rw [if_pos hs]
    have hg : goodT (renT (fN all n all.length) V) = true := good_ren (fun x y hy => by have := fN_range hy; omega) (good_all hs).1
    exact big_app h 7 _ (big_ren _ 7 V hb) (good_shp hg)
  · rw [if_neg hs]; exact big_mono (by omega) _ hb
/-- the envs as the document's own: what a growing row of schemes holds. -/
def EnvOk (w0 w : World) (P : Nat → Prop) (E : List (List Int × TT)) (xs : List Value) : Prop := ∀ i (h : i < E.length), ∃ Al ca A c, xs[i * 5]? = some (.slice Al E[i].1.length ca) ∧ xs[i * 5 + 1]? = some (.int .i64 E[i].2.k) ∧ xs[i * 5 + 2]? = some (.string E[i].2.nm) ∧ xs[i * 5 + 3]? = some (.int .i64 E[i].2.vr) ∧ xs[i * 5 + 4]? = some (.slice A E[i].2.args.length c) ∧ IRow w0 Al E[i].1 ∧ TRow w P A E[i].2.args
theorem EnvOk.move {w0 w w' : World} {P P' : Nat → Prop} {E : List (List Int × TT)} {xs : List Value} (h : EnvOk w0 w P E xs) (hk : ∀ b, b < w.heap.size → P b → w'.heap[b]? = w.heap[b]? ∧ P' b) (hs : w.heap.size ≤ w'.heap.size) : EnvOk w0 w' P' E xs := fun i hi => by
  obtain ⟨Al, ca, A, c, h1, h2, h3, h4, h5, h6, h7⟩ := h i hi
  exact ⟨Al, ca, A, c, h1, h2, h3, h4, h5, h6, h7.move hk hs⟩
theorem EnvOk.snoc {w0 w : World} {P : Nat → Prop} {E : List (List Int × TT)} {xs : List Value} {e : List Int × TT} {Al A : Option Addr} {ca c : Nat} (h : EnvOk w0 w P E xs) (hx : xs.length = E.length * 5) (ia : IRow w0 Al e.1) (ta : TRow w P A e.2.args) :
    EnvOk w0 w P (E ++ [e]) (xs ++ [.slice Al e.1.length ca, .int .i64 e.2.k, .string e.2.nm, .int .i64 e.2.vr, .slice A e.2.args.length c]) := fun i hi => by
  rw [List.length_append, List.length_singleton] at hi
  by_cases hlt : i < E.length
  · obtain ⟨Al, ca, A, c, h1, h2, h3, h4, h5, h6, h7⟩ := h i hlt
    have e1 : (E ++ [e])[i]'(by simp; omega) = E[i] := List.getElem_append_left hlt
    rw [e1]
    exact ⟨Al, ca, A, c, by rw [List.getElem?_append_left (by omega)]; exact h1, by rw [List.getElem?_append_left (by omega)]; exact h2, by rw [List.getElem?_append_left (by omega)]; exact h3, by rw [List.getElem?_append_left (by omega)]; exact h4, by rw [List.getElem?_append_left (by omega)]; exact h5, h6, h7⟩
  · have hi2 : i = E.length := by omega
    subst hi2
    have e1 : (E ++ [e])[E.length]'(by simp) = e := by simp
    rw [e1]
    refine ⟨Al, ca, A, c, ?_, ?_, ?_, ?_, ?_, ia, ta⟩ <;> rw [List.getElem?_append_right (by omega)] <;> simp [hx, show ∀ q : Nat, E.length * 5 + q - E.length * 5 = q from fun q => by omega]
theorem EnvOk.row {w0 w : World} {P : Nat → Prop} {E : List (List Int × TT)} {xs : List Value} {B k c : Nat} {A : Option Addr} (h : EnvOk w0 w P E xs) (ho : w.ownsRow B RScT 5 (.slice A k c) k xs) (hl : E.length = k) (hb : Below w0.heap.size w0 w) : SRow w A E := by
  rcases ho.2 with ⟨q1, q2⟩ | ⟨g, cap, cur, q1, q2, q3, q4, q5, q6, q7⟩
  · exact .inl (by omega)
  · injection q1 with q1
    subst q1
    refine .inr ⟨g, 0, rfl, (Array.getElem?_eq_some_iff.1 q3).1, fun i hi => ?_⟩
    obtain ⟨Al, ca, A, c, h1, h2, h3, h4, h5, h6, h7⟩ := h i hi
    rw [Nat.zero_add]
    exact ⟨Al, ca, A, c, (ho.cellAt _ (by omega)).trans h1, (ho.cellAt _ (by omega)).trans h2, (ho.cellAt _ (by omega)).trans h3, (ho.cellAt _ (by omega)).trans h4, (ho.cellAt _ (by omega)).trans h5, h6.later hb, h7.weak (fun _ _ _ => trivial)⟩
theorem bel_cell {B : Nat} {w w' : World} (h : Below B w w') {b i : Nat} {v : Value} (hb : b < B) (hc : w.cell? ⟨b, i, none⟩ = some v) : w'.cell? ⟨b, i, none⟩ = some v := (World.cell?_of_block (h.block b hb)).trans hc
theorem SubS.nps {w : World} {Pr : Nat → Prop} {B sb : Nat} {n : Int} {St : List TT} (h : SubS w Pr B sb n St) : ¬ Pr sb := by
  obtain ⟨K, rv, xs, hs, hd⟩ := h; exact fun h => hs.nsb (.inr h)
theorem field_s (x0 x1 x2 x3 x4 : Value) (w : World) : Sem.run Tryz.prog (Instr.field SchT (.agg #[x0, x1, x2, x3, x4]) 0) w = .ok x0 w := by
  simp [Instr.field, run_underlying Tryz.underlying28, asAgg, part, isAgg, run_underlying Tryz.underlying26]
theorem bs_scheme (W : World) (x0 x1 x2 x3 x4 : Value) : (Instr.buildSlice 46 1 #[(0, .agg #[x0, x1, x2, x3, x4])]).run Tryz.prog W = .ok (.slice (some ⟨W.heap.size, 0, none⟩) 1 1) (W.alloc (.cells #[x0, x1, x2, x3, x4] RScT)) := by
  obtain ⟨i0, hi0, hz0, hz1, hz2⟩ := info_parts infoS
  have hu := Tryz.underlying46
  have hf : Instr.fill (fun i => some (i * 5, 5)) (Array.map (fun x => [Value.slice none 0 0, .int .i64 0, .string ByteArray.empty, .int .i64 0, .slice none 0 0][x % 5]?.getD default) (Array.range 5)) [(0, .agg #[x0, x1, x2, x3, x4])] = some #[x0, x1, x2, x3, x4] := by
    rw [show Array.map (fun x => [Value.slice none 0 0, .int .i64 0, .string ByteArray.empty, .int .i64 0, .slice none 0 0][x % 5]?.getD default) (Array.range 5) = #[Value.slice none 0 0, .int .i64 0, .string ByteArray.empty, .int .i64 0, .slice none 0 0] by kernel_rfl]
    rfl
  simp [Instr.buildSlice, run_underlying hu, sizeOf, zeroValue, typeInfo, hi0, hz0, hz1, Value.cells, newRow, newObj]
  rw [hf]
  simp
  try rfl
theorem wp_bs_lit {P : Program} {o : Oper} {a : Act} {w w2 : World} {K : Act → World → Prop} {Q : Exit → Act → World → Prop} {t : TypeId} {x : Operand} {v : Value} (ho : o.op = Op.buildSlice t 1 #[(0, x)]) (h : (Instr.buildSlice t 1 #[(0, a.eval x)]).run P w = .ok v w2) (hK : K (a.put o.dst v) w2) : Oper.wp P o a w K Q := by
  unfold Oper.wp
  simp [execOp, ho, h, Result.andThen]
  exact hK
end Go.Proofs.YtifopogkbjhkjaaGreatDoor
