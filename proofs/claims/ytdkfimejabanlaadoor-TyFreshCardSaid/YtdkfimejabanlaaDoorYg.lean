import Derived.Test.YtdkfimejabanlaaDoorYf
namespace Go.Proofs.YtdkfimejabanlaaDoor
open DR
open Go.ChangeShapes Go.WideShapes Go.ChangeAt Go.RowKit Go.WideMaps
set_option linter.unusedVariables false
set_option linter.unusedSimpArgs false
/-- what holds of a type if it holds of what its variable stands for, or of its arguments. -/
theorem bnd_ind {St : List TT} {rk : Int → Nat} (hst : StOk St rk) {P : TT → Prop} (step : ∀ t, shp t = true → (bnd St t → P (stA St t.vr)) → (¬ bnd St t → ∀ a ∈ t.args, P a) → P t) : ∀ t, shp t = true → P t := by
  have main : ∀ (r : Nat) (m : Nat) (t : TT), rkT rk t < r → nodes t < m → shp t = true → P t := by
    intro r
    induction r with
    | zero => intro m t h; omega
    | succ r ihr =>
      intro m
      induction m with
      | zero => intro t _ h; omega
      | succ m ihm =>
        intro t hr hm hsh
        refine step t hsh (fun hb => ?_) (fun _ a ha => ?_)
        · have h1 := rk_step hst hb
          exact ihr (nodes (stA St t.vr) + 1) _ (by omega) (by omega) (hst.shp _ hb.2)
        · have hra := rkT_arg rk ha
          have := nodes_arg ha
          exact ihm a (by omega) (by omega) ((shp_head hsh).2.2 a ha)
  exact fun t h => main _ _ t (Nat.lt_succ_self _) (Nat.lt_succ_self _) h
theorem resF_bnd {St : List TT} {rk : Int → Nat} (hst : StOk St rk) {t : TT} (hb : bnd St t) : resF St t = resF St (stA St t.vr) := res_fun (resF_res hst t) (.step hb (resF_res hst _))
theorem resF_stop {St : List TT} {rk : Int → Nat} (hst : StOk St rk) {t : TT} (hb : ¬ bnd St t) : resF St t = t := res_fun (resF_res hst t) (.stop hb)
theorem fsz_bnd {St : List TT} {rk : Int → Nat} (hst : StOk St rk) {t : TT} (hsh : shp t = true) (hb : bnd St t) : fsz St t = fsz St (stA St t.vr) := by
  rw [fsz_eq hst hsh, fsz_eq hst (hst.shp _ hb.2), resF_bnd hst hb]
/-- at most 500 nodes, or 501. -/
noncomputable def msz (St : List TT) (t : TT) : Int := min (fsz St t : Int) 501
theorem msz_pos {St : List TT} {rk : Int → Nat} (hst : StOk St rk) {t : TT} (hsh : shp t = true) : 1 ≤ msz St t ∧ msz St t ≤ 501 := by
  have := fsz_pos hst hsh
  unfold msz
  omega
theorem msz_bnd {St : List TT} {rk : Int → Nat} (hst : StOk St rk) {t : TT} (hsh : shp t = true) (hb : bnd St t) : msz St t = msz St (stA St t.vr) := by unfold msz; rw [fsz_bnd hst hsh hb]
theorem msz_stop {St : List TT} {rk : Int → Nat} (hst : StOk St rk) {t : TT} (hsh : shp t = true) (hb : ¬ bnd St t) : msz St t = minL (msz St) t.args 1 := by
  have h := measure_eq hst hsh
  rw [resF_stop hst hb] at h
  exact h
/-- a row of numbers that is written. -/
def KnR (w : World) (g : Nat) (K : List Int) : Prop := w.heap[g]? = some (.cells (K.map (fun x => Value.int .i64 x)).toArray 3 (0, 0))
theorem KnR.lt {w : World} {g : Nat} {K : List Int} (h : KnR w g K) : g < w.heap.size := (Array.getElem?_eq_some_iff.1 h).1
theorem KnR.get {w : World} {g : Nat} {K : List Int} (h : KnR w g K) {x : Nat} (hx : x < K.length) : w.cell? ⟨g, x, none⟩ = some (.int .i64 K[x]) := by
  unfold KnR at h
  simp [World.cell?, h, hx]
theorem KnR.frz {w : World} {g : Nat} {K : List Int} (h : KnR w g K) (x : Nat) : w.frozen? ⟨g, x, none⟩ = false := by
  unfold KnR at h
  simp [World.frozen?, h]
theorem KnR.set {w : World} {g : Nat} {K : List Int} (h : KnR w g K) (x : Nat) (v : Int) : KnR (w.setCell ⟨g, x, none⟩ (.int .i64 v)) g (K.set x v) := by
  unfold KnR at h ⊢
  simp [World.setCell, Array.getElem?_modify, h, List.map_set]
theorem KnR.keep {w w' : World} {g : Nat} {K : List Int} (h : KnR w g K) (e : w'.heap[g]? = w.heap[g]?) : KnR w' g K := by
  unfold KnR at h ⊢; rw [e]; exact h
/-- what is known: nothing yet, or the size of what the variable stands for. -/
def KOk (St : List TT) (K : List Int) : Prop := K.length = St.length ∧ ∀ (x : Nat) (h : x < K.length), K[x] = 0 ∨ K[x] = msz St (stA St x)
theorem KOk.set {St : List TT} {K : List Int} (h : KOk St K) (x : Nat) : KOk St (K.set x (msz St (stA St x))) := by
  refine ⟨by rw [List.length_set]; exact h.1, fun y hy => ?_⟩
  rw [List.length_set] at hy
  rw [List.getElem_set]
  split
  · rename_i e; subst e; exact .inr rfl
  · exact h.2 y hy
theorem KOk.zeros (St : List TT) : KOk St (List.replicate St.length 0) := ⟨by simp, fun x h => .inl (by simp)⟩
end Go.Proofs.YtdkfimejabanlaaDoor
