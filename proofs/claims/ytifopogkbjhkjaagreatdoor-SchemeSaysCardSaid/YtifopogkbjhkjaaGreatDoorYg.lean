import Derived.Test.YtifopogkbjhkjaaGreatDoorYd
namespace Go.Proofs.YtifopogkbjhkjaaGreatDoor
open Go.ChangeShapes Go.WideShapes Go.ChangeAt Go.RowKit Go.WideMaps
set_option linter.unusedVariables false
set_option linter.unusedSimpArgs false
set_option maxRecDepth 100000 in
set_option maxHeartbeats 8000000 in
theorem tclone_any : ∀ (d : Nat) (V : TT) (v : Value) (w : World), bigT d V = false → TIn w any0 V v →
    Calls Tryz.prog 27 #[v] w (CpPost w V) := by
  intro d
  induction d with
  | zero => intro V v w h; cases h
  | succ d ih =>
  intro V v w hbg ⟨A, c, hv, hA⟩
  obtain ⟨i0, hi0, hz0, hz1, hz2⟩ := info_parts infoT
  obtain ⟨hl4, -, b3⟩ := bigT_parts hbg
  subst hv
  have HI := Lib.hid ih
  have HBG := Lib.hid b3
  unfold tv
  obtain ⟨args, ha⟩ : ∃ l, l = V.args := ⟨_, rfl⟩
  have HAR := Lib.hid ha
  rw [← ha] at hA HBG hl4 ⊢
  have HA := Lib.hid hA
  obtain ⟨wB, hwB⟩ : ∃ z, z = (w.alloc (.cells #[.int .i64 V.k, .string V.nm, .int .i64 V.vr, .slice A args.length c] 24)).alloc (.cells #[.int .i64 0, .string ⟨#[]⟩, .int .i64 0, .slice none 0 0] 24) := ⟨_, rfl⟩
  have BX := Lib.hid (two_box (w := w) (.cells #[.int .i64 V.k, .string V.nm, .int .i64 V.vr, .slice A args.length c] 24) (.cells #[.int .i64 0, .string ⟨#[]⟩, .int .i64 0, .slice none 0 0] 24))
  have HB : Hid (Below w.heap.size w wB) := Lib.hid (by rw [hwB]; exact bt (below_alloc w _) (below_alloc _ _))
  have hz : wB.heap.size = w.heap.size + 2 := by rw [hwB]; simp
  have HZ := Lib.hid hz
  have HWB := Lib.hid hwB
  rw [← hwB] at BX
  clear ih hbg b3 ha hA hz hwB
  go_enter Tryz.func27, Tryz.ntmps27
  go_wp2
  try rw [← HWB.out]
  go_loopw [3, 9] (fun vv i wr => ∃ (k : Nat) (v : Value) (xs : List Value), v = vv ∧ k ≤ args.length ∧ i = .int .i64 k ∧ Hid (CpS wB wr v k (args.take k) xs)) (fun _ i _ => args.length - (intOf i).toNat)
  case atStart => exact ⟨0, _, [], rfl, by omega, rfl, Lib.hid (by rw [List.take_zero]; exact cp_start wB)⟩
  case round =>
    obtain ⟨k, v, xs, rfl, hk, rfl, HS⟩ := hrel
    by_cases hlt : k < args.length
    · have hlti : (k : Int) < (args.length : Int) := by omega
      obtain ⟨b, o, rfl, hb, hr⟩ := HA.out.at (by omega)
      have hBr : Below w.heap.size w wr := bt HB.out HS.out.bel
      obtain ⟨A', c', x0, x1, x2, x3, hin⟩ := hr wr hBr k hlt
      have CALL : Hid (∀ W, Below wr.heap.size wr W → Calls Tryz.prog 27 #[.agg #[.int .i64 args[k].k, .string args[k].nm, .int .i64 args[k].vr, .slice A' args[k].args.length c']] W (CpPost W args[k])) := Lib.hid (fun W hW => HI.out args[k] _ W (HBG.out _ (List.getElem_mem hlt)) (hin.later hW))
      have HT : Hid (args.take (k + 1) = args.take k ++ [args[k]]) := Lib.hid (List.take_succ_eq_append_getElem hlt)
      obtain ⟨Ar, cr, rfl⟩ := vform HS.out.own
      have hs0 := HS.out.bel.size
      clear hr hin hb HI hBr
      go_wp2_with fail
      refine (CALL.out _ (below_alloc wr _)).mono ?_; rintro e w2 ⟨A2, c2, rfl, hr2, hb2⟩
      have hsz1 : (wr.alloc (.cells #[.int .i64 args[k].k, .string args[k].nm, .int .i64 args[k].vr, .slice A' args[k].args.length c'] 24)).heap.size = wr.heap.size + 1 := by simp
      have B2 := Lib.hid (bt (below_alloc wr (.cells #[.int .i64 args[k].k, .string args[k].nm, .int .i64 args[k].vr, .slice A' args[k].args.length c'] 24)) hb2)
      have R2 : Hid (TRow w2 (wr.heap.size ≤ ·) A2 args[k].args) := Lib.hid (hr2.weak (fun b _ h => by rw [hsz1] at h; omega))
      have OW2 := Lib.hid (own_bl HS.out.own B2.out)
      have hs2 := B2.out.size
      clear hr2 hb2 CALL x0 x1 x2 x3 hsz1
      unfold tv
      go_wp2_with (at_builtin; refine wpList_append_lies _ rfl (.tmp 13) (.tmp 16) 22 rfl wB.heap.size TT24 i0 (.agg #[.int .i64 0, .string .empty, .int .i64 0, .slice none 0 0]) 4 56 Tryz.underlying22 hi0 hz0 hz1 hz2 rfl (by decide) (.slice Ar k cr) k xs rfl (OW2.out.alloc _) ⟨w2.heap.size, 0, none⟩ 1 1 (kidT args[k] A2 c2) rfl rfl (kid_news (by have := heap_alloc_new w2 (.cells #[.int .i64 args[k].k, .string args[k].nm, .int .i64 args[k].vr, .slice A2 args[k].args.length c2] 24); simpa using this)) (kid_one _ _ _) (by omega) (by unfold maxLen; omega) (by omega) (by simp; omega) (w2.heap.size + 1) (by simp) ?_; intro g cap w4 own4 gr4 at4 hlt4)
      have ST4 : Hid (CpS wB w4 (.slice (some ⟨g, 0, none⟩) (k + 1) cap) (k + 1) (args.take (k + 1)) (xs ++ kidT args[k] A2 c2)) := Lib.hid (by
        rw [HT.out]
        exact cp_step HS.out B2.out R2.out _ own4 gr4 (by
          rcases at4 with e | e
          · exact .inl e.symm
          · right; rw [e]; simp [Value.ownBlock]))
      clear own4 gr4 at4 OW2 R2 B2
      go_wp2
      go_roundw
      case rel => exact ⟨k + 1, _, _, rfl, by omega, by go_num, ST4⟩
      case measure => simp [intOf]; omega
    · obtain rfl : k = args.length := by omega
      have hge : ¬ (args.length : Int) < (args.length : Int) := by omega
      obtain ⟨A', c', rfl, hrow⟩ := cp_fin HS.out
      rw [List.take_length] at hrow
      have HROW := Lib.hid hrow
      have hbx : wr.heap[w.heap.size]? = some (.cells #[.int .i64 V.k, .string V.nm, .int .i64 V.vr, .slice A args.length c] 24 (0, 0)) := (HS.out.bel.block w.heap.size (by have := HZ.out; omega)).trans BX.out.1
      have hrs : wr.heap[w.heap.size + 1]? = some (.cells #[.int .i64 0, .string ⟨#[]⟩, .int .i64 0, .slice none 0 0] 24 (0, 0)) := (HS.out.bel.block (w.heap.size + 1) (by have := HZ.out; omega)).trans BX.out.2
      obtain ⟨z0, z1, z2, z3⟩ := cell4 hbx
      have y0 : wr.cell? ⟨w.heap.size + 1, 0, none⟩ = some (.int .i64 0) := by simp [World.cell?, hrs]
      have y1 : wr.cell? ⟨w.heap.size + 1, 1, none⟩ = some (.string ⟨#[]⟩) := by simp [World.cell?, hrs]
      have y2 : wr.cell? ⟨w.heap.size + 1, 2, none⟩ = some (.int .i64 0) := by simp [World.cell?, hrs]
      have y3 : wr.cell? ⟨w.heap.size + 1, 3, none⟩ = some (.slice none 0 0) := by simp [World.cell?, hrs]
      have f0 : ∀ j, wr.frozen? ⟨w.heap.size, j, none⟩ = false := fun j => by simp [World.frozen?, hbx]
      have f1 : ∀ j, wr.frozen? ⟨w.heap.size + 1, j, none⟩ = false := fun j => by simp [World.frozen?, hrs]
      have g3 := f0 3
      have k0 := f1 0; have k1 := f1 1; have k2 := f1 2; have k3 := f1 3
      have HBX := Lib.hid hbx
      have HRS := Lib.hid hrs
      clear hrow hbx hrs f0 f1
      have BWR := Lib.hid (bt HB.out (HS.out.bel.mono (by have := HZ.out; omega)))
      have SZ := HS.out.bel.size
      have hsz2 := HZ.out
      go_wp2
      obtain ⟨wf, hwf⟩ : ∃ wf, wf = (((((wr.setCell ⟨w.heap.size, 3, none⟩ (.slice A' args.length c')).setCell ⟨w.heap.size + 1, 0, none⟩ (.int .i64 V.k)).setCell ⟨w.heap.size + 1, 1, none⟩ (.string V.nm)).setCell ⟨w.heap.size + 1, 2, none⟩ (.int .i64 V.vr)).setCell ⟨w.heap.size + 1, 3, none⟩ (.slice A' args.length c')) := ⟨_, rfl⟩
      rw [← hwf]
      have hf : wf.heap[w.heap.size + 1]? = some (.cells #[.int .i64 V.k, .string V.nm, .int .i64 V.vr, .slice A' args.length c'] 24 (0, 0)) := by rw [hwf]; simp [World.setCell, Array.getElem?_modify, HRS.out]
      have HK : Hid (∀ b, wB.heap.size ≤ b → wf.heap[b]? = wr.heap[b]?) := Lib.hid (fun b hb => by
        rw [hwf, Below.heap_setCell _ _ _ _ (by show b ≠ w.heap.size + 1; omega), Below.heap_setCell _ _ _ _ (by show b ≠ w.heap.size + 1; omega), Below.heap_setCell _ _ _ _ (by show b ≠ w.heap.size + 1; omega), Below.heap_setCell _ _ _ _ (by show b ≠ w.heap.size + 1; omega), Below.heap_setCell _ _ _ _ (by show b ≠ w.heap.size; omega)])
      have HBF : Hid (Below w.heap.size w wf) := Lib.hid (by
        rw [hwf]
        exact ((((BWR.out.setCell (Nat.le_refl _) _).setCell (Nat.le_succ _) _).setCell (Nat.le_succ _) _).setCell (Nat.le_succ _) _).setCell (Nat.le_succ _) _)
      have HSZF : Hid (wf.heap.size = wr.heap.size) := Lib.hid (by rw [hwf]; simp [World.setCell])
      have t0 : wf.cell? ⟨w.heap.size + 1, 0, none⟩ = some (.int .i64 V.k) := by simp [World.cell?, hf]
      have t1 : wf.cell? ⟨w.heap.size + 1, 1, none⟩ = some (.string V.nm) := by simp [World.cell?, hf]
      have t2 : wf.cell? ⟨w.heap.size + 1, 2, none⟩ = some (.int .i64 V.vr) := by simp [World.cell?, hf]
      have t3 : wf.cell? ⟨w.heap.size + 1, 3, none⟩ = some (.slice A' args.length c') := by simp [World.cell?, hf]
      clear hf hwf y0 y1 y2 y3 z0 z1 z2 z3 g3 k0 k1 k2 k3
      (try simp only [Exit.inBlock, Exit.then])
      refine bodyPost_ret (by simp [results, Tryz.results27, go_sem, t0, t1, t2, t3]; try rfl) rfl ?_
      refine ⟨A', c', (by unfold tv; rw [HAR.out]), ?_, HBF.out⟩
      rw [← HAR.out]
      exact HROW.out.move (fun b hb hp => ⟨HK.out b hp, Nat.le_trans (by omega) hp⟩) (by have := HSZF.out; omega)
end Go.Proofs.YtifopogkbjhkjaaGreatDoor
namespace Go.Proofs.YtifopogkbjhkjaaGreatDoor
open Go.ChangeShapes Go.WideShapes Go.ChangeAt Go.RowKit Go.WideMaps
set_option linter.unusedVariables false
set_option linter.unusedSimpArgs false
def sumL (f : TT → Nat) : List TT → Nat
  | [] => 0
  | a :: r => f a + sumL f r
theorem sumL_congr {f g : TT → Nat} : ∀ {l : List TT}, (∀ a ∈ l, f a = g a) → sumL f l = sumL g l
  | [], _ => rfl
  | a :: r, h => by rw [sumL, sumL, h a (by simp), sumL_congr (fun b hb => h b (List.mem_cons_of_mem _ hb))]
theorem sumL_mem {f : TT → Nat} {a : TT} : ∀ {l : List TT}, a ∈ l → f a ≤ sumL f l
  | b :: r, h => by
    rw [sumL]
    rcases List.mem_cons.1 h with rfl | h
    · omega
    · have := sumL_mem (f := f) h; omega
/-- the nodes of a type, R followed at each, by fuel. -/
def fsF (R : TT → TT) : Nat → TT → Nat
  | 0, _ => 0
  | d + 1, t => 1 + sumL (fsF R d) (R t).args
theorem all_deep {p : TT → Nat → Prop} : ∀ l : List TT, (∀ a ∈ l, ∃ d0, ∀ d, d0 ≤ d → p a d) → ∃ D, ∀ a ∈ l, ∀ d, D ≤ d → p a d
  | [], _ => ⟨0, fun a h => by cases h⟩
  | b :: r, h => by
    obtain ⟨D1, h1⟩ := h b (by simp)
    obtain ⟨D2, h2⟩ := all_deep r (fun a ha => h a (List.mem_cons_of_mem _ ha))
    refine ⟨max D1 D2, fun a ha d hd => ?_⟩
    rcases List.mem_cons.1 ha with rfl | ha
    · exact h1 d (by omega)
    · exact h2 a ha d (by omega)
theorem fs_deep {St : List TT} {rk : Int → Nat} (hst : StOk St rk) : ∀ t, shp t = true → ∃ N d0, ∀ d, d0 ≤ d → fsF (resF St) d t = N := by
  refine res_ind hst ?_
  intro t hsh ih
  have h1 : ∀ l : List TT, (∀ a ∈ l, ∃ N d0, ∀ d, d0 ≤ d → fsF (resF St) d a = N) → ∃ N D, ∀ d, D ≤ d → sumL (fsF (resF St) d) l = N := by
    intro l
    induction l with
    | nil => intro _; exact ⟨0, 0, fun _ _ => rfl⟩
    | cons a r il =>
      intro h
      obtain ⟨N1, D1, h1⟩ := h a (by simp)
      obtain ⟨N2, D2, h2⟩ := il (fun b hb => h b (List.mem_cons_of_mem _ hb))
      exact ⟨N1 + N2, max D1 D2, fun d hd => by rw [sumL, h1 d (by omega), h2 d (by omega)]⟩
  obtain ⟨N, D, hD⟩ := h1 _ ih
  refine ⟨1 + N, D + 1, fun d hd => ?_⟩
  obtain ⟨d', rfl⟩ : ∃ d', d = d' + 1 := ⟨d - 1, by omega⟩
  rw [fsF, hD d' (by omega)]
open Classical in
/-- the nodes of a type with all variables replaced. -/
noncomputable def fsz (St : List TT) (t : TT) : Nat := if h : ∃ N d0, ∀ d, d0 ≤ d → fsF (resF St) d t = N then Classical.choose h else 0
theorem fsz_deep {St : List TT} {rk : Int → Nat} (hst : StOk St rk) {t : TT} (hsh : shp t = true) : ∃ d0, ∀ d, d0 ≤ d → fsF (resF St) d t = fsz St t := by
  have h := fs_deep hst t hsh
  unfold fsz
  rw [dif_pos h]
  exact Classical.choose_spec h
theorem res_args {St : List TT} {rk : Int → Nat} (hst : StOk St rk) {t : TT} (hsh : shp t = true) : ∀ a ∈ (resF St t).args, shp a = true := (shp_head (res_shp hst (resF_res hst t) hsh)).2.2
theorem fsz_eq {St : List TT} {rk : Int → Nat} (hst : StOk St rk) {t : TT} (hsh : shp t = true) : fsz St t = 1 + sumL (fsz St) (resF St t).args := by
  obtain ⟨d0, h0⟩ := fsz_deep hst hsh
  obtain ⟨D, hD⟩ := all_deep (p := fun a d => fsF (resF St) d a = fsz St a) (resF St t).args (fun a ha => fsz_deep hst (res_args hst hsh a ha))
  rw [← h0 (max d0 D + 1) (by omega), fsF, sumL_congr (fun a ha => hD a ha (max d0 D) (by omega))]
theorem fsz_pos {St : List TT} {rk : Int → Nat} (hst : StOk St rk) {t : TT} (hsh : shp t = true) : 1 ≤ fsz St t := by rw [fsz_eq hst hsh]; omega
theorem fsz_arg {St : List TT} {rk : Int → Nat} (hst : StOk St rk) {t a : TT} (hsh : shp t = true) (ha : a ∈ (resF St t).args) : fsz St a < fsz St t := by
  rw [fsz_eq hst hsh]
  have := sumL_mem (f := fsz St) ha
  omega
theorem cntL_sum {f : TT → Int → Int} {g : TT → Nat} {m : Int} : ∀ (l : List TT) (n : Int), 1 ≤ n → n ≤ m + 1 → (∀ a ∈ l, ∀ k, 0 ≤ k → k < m → f a k = min (g a : Int) (k + 1)) → cnuL f l n m = min (n + (sumL g l : Nat)) (m + 1)
  | [], n, h1, h2, _ => by rw [cnuL, sumL]; omega
  | a :: r, n, h1, h2, h => by
    rw [cnuL, sumL]
    split
    · omega
    · have e := h a (by simp) (m - n) (by omega) (by omega)
      rw [e]
      by_cases hg : (g a : Int) ≤ m - n + 1
      · rw [Int.min_eq_left hg, cntL_sum r _ (by omega) (by omega) (fun b hb => h b (List.mem_cons_of_mem _ hb))]
        omega
      · rw [Int.min_eq_right (by omega), cntL_sum r _ (by omega) (by omega) (fun b hb => h b (List.mem_cons_of_mem _ hb))]
        omega
/-- what count says: the nodes, or one more than the limit. -/
theorem cnt_fsz {St : List TT} {rk : Int → Nat} (hst : StOk St rk) : ∀ t, shp t = true → ∀ (d : Nat) (m : Int), 0 ≤ m → m < d → cntR (resF St) d t m = min (fsz St t : Int) (m + 1) := by
  refine res_ind hst ?_
  intro t hsh ih d m h0 hd
  obtain ⟨d', rfl⟩ : ∃ d', d = d' + 1 := ⟨d - 1, by omega⟩
  rw [cntR, cntL_sum (g := fsz St) _ 1 (by omega) (by omega) (fun a ha k hk1 hk2 => ih a ha d' k hk1 (by omega)), fsz_eq hst hsh]
  omega
/-- measure's sum: it stands still at one more than 500. -/
def minL (f : TT → Int) : List TT → Int → Int
  | [], n => n
  | a :: r, n => minL f r (min (n + f a) 501)
theorem minL_sum {g : TT → Nat} : ∀ (l : List TT) (n : Int), 0 ≤ n → n ≤ 501 → minL (fun a => min (g a : Int) 501) l n = min (n + (sumL g l : Nat)) 501
  | [], n, h0, h => by rw [minL, sumL]; omega
  | a :: r, n, h0, h => by
    rw [minL, sumL, minL_sum r _ (by omega) (by omega)]
    omega
theorem measure_eq {St : List TT} {rk : Int → Nat} (hst : StOk St rk) {t : TT} (hsh : shp t = true) : min (fsz St t : Int) 501 = minL (fun a => min (fsz St a : Int) 501) (resF St t).args 1 := by
  rw [minL_sum _ 1 (by omega) (by omega), fsz_eq hst hsh]
  omega
theorem fsz_res {St : List TT} {rk : Int → Nat} (hst : StOk St rk) {t : TT} (hsh : shp t = true) : fsz St (resF St t) = fsz St t := by
  have hR := resF_res hst t
  have e : resF St (resF St t) = resF St t := res_fun (resF_res hst _) (.stop (res_stop hR))
  rw [fsz_eq hst (res_shp hst hR hsh), fsz_eq hst hsh, e]
end Go.Proofs.YtifopogkbjhkjaaGreatDoor
namespace Go.Proofs.YtifopogkbjhkjaaGreatDoor
open DR
open Go.ChangeShapes Go.WideShapes Go.ChangeAt Go.RowKit Go.WideMaps
set_option linter.unusedVariables false
set_option linter.unusedSimpArgs false
/-- what holds of a type if it holds of what its variable stands for, or of its arguments. -/
theorem bnd_ind {St : List TT} {rk : Int → Nat} (hst : StOk St rk) {P : TT → Prop} (step : ∀ t, shp t = true → (bnd St t → P (stA St t.vr)) → (¬ bnd St t → ∀ a ∈ t.args, P a) → P t) : ∀ t, shp t = true → P t := by
  have main : ∀ (r : Nat) (m : Nat) (t : TT), rkT rk t < r → nodes t < m → shp t = true → P t := by
    intro r
    induction r with
    | zero => intro m t h; omega
    | succ r ihr =>
      intro m
      induction m with
      | zero => intro t _ h; omega
      | succ m ihm =>
        intro t hr hm hsh
        refine step t hsh (fun hb => ?_) (fun _ a ha => ?_)
        · have h1 := rk_step hst hb
          exact ihr (nodes (stA St t.vr) + 1) _ (by omega) (by omega) (hst.shp _ hb.2)
        · have hra := rkT_arg rk ha
          have := nodes_arg ha
          exact ihm a (by omega) (by omega) ((shp_head hsh).2.2 a ha)
  exact fun t h => main _ _ t (Nat.lt_succ_self _) (Nat.lt_succ_self _) h
theorem resF_bnd {St : List TT} {rk : Int → Nat} (hst : StOk St rk) {t : TT} (hb : bnd St t) : resF St t = resF St (stA St t.vr) := res_fun (resF_res hst t) (.step hb (resF_res hst _))
theorem resF_stop {St : List TT} {rk : Int → Nat} (hst : StOk St rk) {t : TT} (hb : ¬ bnd St t) : resF St t = t := res_fun (resF_res hst t) (.stop hb)
theorem fsz_bnd {St : List TT} {rk : Int → Nat} (hst : StOk St rk) {t : TT} (hsh : shp t = true) (hb : bnd St t) : fsz St t = fsz St (stA St t.vr) := by
  rw [fsz_eq hst hsh, fsz_eq hst (hst.shp _ hb.2), resF_bnd hst hb]
/-- at most 500 nodes, or 501. -/
noncomputable def msz (St : List TT) (t : TT) : Int := min (fsz St t : Int) 501
theorem msz_pos {St : List TT} {rk : Int → Nat} (hst : StOk St rk) {t : TT} (hsh : shp t = true) : 1 ≤ msz St t ∧ msz St t ≤ 501 := by
  have := fsz_pos hst hsh
  unfold msz
  omega
theorem msz_bnd {St : List TT} {rk : Int → Nat} (hst : StOk St rk) {t : TT} (hsh : shp t = true) (hb : bnd St t) : msz St t = msz St (stA St t.vr) := by unfold msz; rw [fsz_bnd hst hsh hb]
theorem msz_stop {St : List TT} {rk : Int → Nat} (hst : StOk St rk) {t : TT} (hsh : shp t = true) (hb : ¬ bnd St t) : msz St t = minL (msz St) t.args 1 := by
  have h := measure_eq hst hsh
  rw [resF_stop hst hb] at h
  exact h
/-- a row of numbers that is written. -/
def KnR (w : World) (g : Nat) (K : List Int) : Prop := w.heap[g]? = some (.cells (K.map (fun x => Value.int .i64 x)).toArray 3 (0, 0))
theorem KnR.lt {w : World} {g : Nat} {K : List Int} (h : KnR w g K) : g < w.heap.size := (Array.getElem?_eq_some_iff.1 h).1
theorem KnR.get {w : World} {g : Nat} {K : List Int} (h : KnR w g K) {x : Nat} (hx : x < K.length) : w.cell? ⟨g, x, none⟩ = some (.int .i64 K[x]) := by
  unfold KnR at h
  simp [World.cell?, h, hx]
theorem KnR.frz {w : World} {g : Nat} {K : List Int} (h : KnR w g K) (x : Nat) : w.frozen? ⟨g, x, none⟩ = false := by
  unfold KnR at h
  simp [World.frozen?, h]
theorem KnR.set {w : World} {g : Nat} {K : List Int} (h : KnR w g K) (x : Nat) (v : Int) : KnR (w.setCell ⟨g, x, none⟩ (.int .i64 v)) g (K.set x v) := by
  unfold KnR at h ⊢
  simp [World.setCell, Array.getElem?_modify, h, List.map_set]
theorem KnR.keep {w w' : World} {g : Nat} {K : List Int} (h : KnR w g K) (e : w'.heap[g]? = w.heap[g]?) : KnR w' g K := by
  unfold KnR at h ⊢; rw [e]; exact h
/-- what is known: nothing yet, or the size of what the variable stands for. -/
def KOk (St : List TT) (K : List Int) : Prop := K.length = St.length ∧ ∀ (x : Nat) (h : x < K.length), K[x] = 0 ∨ K[x] = msz St (stA St x)
theorem KOk.set {St : List TT} {K : List Int} (h : KOk St K) (x : Nat) : KOk St (K.set x (msz St (stA St x))) := by
  refine ⟨by rw [List.length_set]; exact h.1, fun y hy => ?_⟩
  rw [List.length_set] at hy
  rw [List.getElem_set]
  split
  · rename_i e; subst e; exact .inr rfl
  · exact h.2 y hy
theorem KOk.zeros (St : List TT) : KOk St (List.replicate St.length 0) := ⟨by simp, fun x h => .inl (by simp)⟩
end Go.Proofs.YtifopogkbjhkjaaGreatDoor
