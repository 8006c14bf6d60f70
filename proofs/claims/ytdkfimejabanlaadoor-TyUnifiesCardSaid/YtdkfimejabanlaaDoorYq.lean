import Derived.Test.YtdkfimejabanlaaDoorYp
namespace Go.Proofs.YtdkfimejabanlaaDoor
open DR
open Go.ChangeShapes Go.WideShapes Go.ChangeAt Go.RowKit Go.WideMaps
set_option linter.unusedVariables false
set_option linter.unusedSimpArgs false
/-- the result's four cells, written one by one. -/
abbrev set4 (w : World) (R : Nat) (a b c d : Value) : World := (((w.setCell ⟨R, 0, none⟩ a).setCell ⟨R, 1, none⟩ b).setCell ⟨R, 2, none⟩ c).setCell ⟨R, 3, none⟩ d
theorem set4_cells {w : World} {R : Nat} {y0 y1 y2 y3 : Value} (a b c d : Value) (h : w.heap[R]? = some (.cells #[y0, y1, y2, y3] TT24 (0, 0))) :
    (set4 w R a b c d).cell? ⟨R, 0, none⟩ = some a ∧ (set4 w R a b c d).cell? ⟨R, 1, none⟩ = some b ∧ (set4 w R a b c d).cell? ⟨R, 2, none⟩ = some c ∧ (set4 w R a b c d).cell? ⟨R, 3, none⟩ = some d := by
  have hf : (set4 w R a b c d).heap[R]? = some (.cells #[a, b, c, d] TT24 (0, 0)) := by simp [World.setCell, Array.getElem?_modify, h]
  refine ⟨?_, ?_, ?_, ?_⟩ <;> simp [World.cell?, hf]
theorem set4_keep (w : World) (R : Nat) (a b c d : Value) : ∀ k, k ≠ R → (set4 w R a b c d).heap[k]? = w.heap[k]? := fun k hk => by
  rw [Below.heap_setCell _ _ _ _ hk, Below.heap_setCell _ _ _ _ hk, Below.heap_setCell _ _ _ _ hk, Below.heap_setCell _ _ _ _ hk]
theorem set4_size (w : World) (R : Nat) (a b c d : Value) : (set4 w R a b c d).heap.size = w.heap.size := by simp [World.setCell]
theorem set4_below {B : Nat} {w0 w : World} {R : Nat} (a b c d : Value) (h : Below B w0 w) (hR : B ≤ R) : Below B w0 (set4 w R a b c d) :=
  (((h.setCell hR _).setCell hR _).setCell hR _).setCell hR _
theorem set4_ret {w wr : World} {R : Nat} {T : TT} {A : Option Addr} {P : Nat → Prop} {a b c d : Value} (hb : Below w.heap.size w wr) (hR : w.heap.size ≤ R) (hrow : TRow wr P A T.args) (hP : ∀ k, P k → w.heap.size ≤ k ∧ k ≠ R) :
    TRow (set4 wr R a b c d) (w.heap.size ≤ ·) A T.args ∧ Below w.heap.size w (set4 wr R a b c d) :=
  ⟨hrow.move (fun k _ hp => ⟨set4_keep wr R a b c d k (hP k hp).2, (hP k hp).1⟩) (by rw [set4_size]; exact Nat.le_refl _), set4_below a b c d hb hR⟩
/-- what the result's block is before it is written. -/
theorem zero_cells {w : World} {R : Nat} {y0 y1 y2 y3 : Value} (h : w.heap[R]? = some (.cells #[y0, y1, y2, y3] TT24 (0, 0))) :
    (w.cell? ⟨R, 0, none⟩ = some y0 ∧ w.cell? ⟨R, 1, none⟩ = some y1 ∧ w.cell? ⟨R, 2, none⟩ = some y2 ∧ w.cell? ⟨R, 3, none⟩ = some y3) ∧ w.frozen? ⟨R, 0, none⟩ = false ∧ w.frozen? ⟨R, 1, none⟩ = false ∧ w.frozen? ⟨R, 2, none⟩ = false ∧ w.frozen? ⟨R, 3, none⟩ = false := by
  refine ⟨⟨?_, ?_, ?_, ?_⟩, ?_, ?_, ?_, ?_⟩ <;> simp [World.cell?, World.frozen?, h]
set_option maxRecDepth 100000 in
/-- a type with all its variables replaced, R followed at each, by fuel. -/
def apuF (R : TT → TT) : Nat → TT → TT
  | 0, t => t
  | d + 1, t => .mk (R t).k (R t).nm (R t).vr ((R t).args.map (apuF R d))
theorem ap_deep {St : List TT} {rk : Int → Nat} (hst : StOk St rk) : ∀ t, shp t = true → ∃ N d0, ∀ d, d0 ≤ d → apuF (resF St) d t = N := by
  refine res_ind hst ?_
  intro t hsh ih
  have h1 : ∀ l : List TT, (∀ a ∈ l, ∃ N d0, ∀ d, d0 ≤ d → apuF (resF St) d a = N) → ∃ N D, ∀ d, D ≤ d → l.map (apuF (resF St) d) = N := by
    intro l
    induction l with
    | nil => intro _; exact ⟨[], 0, fun _ _ => rfl⟩
    | cons a r il =>
      intro h
      obtain ⟨N1, D1, h1⟩ := h a (by simp)
      obtain ⟨N2, D2, h2⟩ := il (fun b hb => h b (List.mem_cons_of_mem _ hb))
      exact ⟨N1 :: N2, max D1 D2, fun d hd => by rw [List.map_cons, h1 d (by omega), h2 d (by omega)]⟩
  obtain ⟨N, D, hD⟩ := h1 _ ih
  refine ⟨.mk (resF St t).k (resF St t).nm (resF St t).vr N, D + 1, fun d hd => ?_⟩
  obtain ⟨d', rfl⟩ : ∃ d', d = d' + 1 := ⟨d - 1, by omega⟩
  rw [apuF, hD d' (by omega)]
open Classical in
/-- a type with all its variables replaced. -/
noncomputable def apvF (St : List TT) (t : TT) : TT := if h : ∃ N d0, ∀ d, d0 ≤ d → apuF (resF St) d t = N then Classical.choose h else t
theorem app_deep {St : List TT} {rk : Int → Nat} (hst : StOk St rk) {t : TT} (hsh : shp t = true) : ∃ d0, ∀ d, d0 ≤ d → apuF (resF St) d t = apvF St t := by
  have h := ap_deep hst t hsh
  unfold apvF
  rw [dif_pos h]
  exact Classical.choose_spec h
theorem app_eq {St : List TT} {rk : Int → Nat} (hst : StOk St rk) {t : TT} (hsh : shp t = true) : apvF St t = .mk (resF St t).k (resF St t).nm (resF St t).vr ((resF St t).args.map (apvF St)) := by
  obtain ⟨d0, h0⟩ := app_deep hst hsh
  obtain ⟨D, hD⟩ := all_deep (p := fun a d => apuF (resF St) d a = apvF St a) (resF St t).args (fun a ha => app_deep hst (res_args hst hsh a ha))
  rw [← h0 (max d0 D + 1) (by omega), apuF]
  congr 1
  exact List.map_congr_left (fun a ha => hD a ha (max d0 D) (by omega))
set_option maxRecDepth 100000 in
set_option maxHeartbeats 8000000 in
theorem full_ok {St : List TT} {rk : Int → Nat} (hst : StOk St rk) {sb : Nat} {n : Int} : ∀ V : TT, shp V = true → ∀ (v : Value) (w : World), TIn w any0 V v → SubR w sb n St →
    Calls Tryd.prog 37 #[.pointer (some ⟨sb, 0, none⟩), v] w (CpPost w (apvF St V)) := by
  refine res_ind hst ?_
  intro V hsh ih v w ⟨A, c, hv, hA⟩ hsub
  obtain ⟨i0, hi0, hz0, hz1, hz2⟩ := info_parts infoT
  subst hv
  have hl2 := (shp_head (res_shp hst (resF_res hst V) hsh)).2.1
  have HAE := Lib.hid (app_eq hst hsh)
  have RS := Lib.hid (fun W (hW : Below w.heap.size w W) => resolve_ok hst (P := (· < w.heap.size)) (c := c) hsh ((hA.weak fun b hb _ => hb).later hW) (hsub.low.later hW))
  have HI := Lib.hid ih
  obtain ⟨T, hT⟩ : ∃ T, T = resF St V := ⟨_, rfl⟩
  obtain ⟨RF, hRF⟩ : ∃ RF, RF = apvF St := ⟨_, rfl⟩
  rw [← hT] at HAE RS HI hl2
  rw [← hRF] at HAE HI ⊢
  obtain ⟨args, ha⟩ : ∃ l, l = T.args := ⟨_, rfl⟩
  have HAR := Lib.hid ha
  unfold tv at RS ⊢
  rw [← ha] at HAE RS HI hl2
  obtain ⟨wA, hwA⟩ : ∃ z, z = (w.alloc (.cells #[.int .i64 V.k, .string V.nm, .int .i64 V.vr, .slice A V.args.length c] 27)).alloc (.cells #[.int .i64 0, .string ⟨#[]⟩, .int .i64 0, .slice none 0 0] 27) := ⟨_, rfl⟩
  have hba : Below w.heap.size w wA := by rw [hwA]; exact bt (below_alloc w _) (below_alloc _ _)
  have hza : wA.heap.size = w.heap.size + 2 := by rw [hwA]; simp
  have BXA := two_box (w := w) (.cells #[.int .i64 V.k, .string V.nm, .int .i64 V.vr, .slice A V.args.length c] 27) (.cells #[.int .i64 0, .string ⟨#[]⟩, .int .i64 0, .slice none 0 0] 27)
  rw [← hwA] at BXA
  obtain ⟨x0, x1, x2, x3⟩ := cell4 BXA.1
  have HBA := Lib.hid hba; have HZA := Lib.hid hza; have BXA := Lib.hid BXA; have HSUB := Lib.hid hsub
  have HWA := Lib.hid hwA
  clear ih ha hA hba hza hsub hsh hwA hst hT hRF
  go_enter Tryd.func37, Tryd.ntmps37
  go_wp2_with fail
  rw [← HWA.out]
  go_wp2_with fail
  refine (RS.out _ HBA.out).mono ?_; rintro e w1 ⟨A1, c1, rfl, hr1, hb1⟩
  have hr1 := hr1.later hb1
  have hx1 : w1.heap[w.heap.size]? = some (.cells #[.int .i64 V.k, .string V.nm, .int .i64 V.vr, .slice A V.args.length c] 27 (0, 0)) := (hb1.block _ (by rw [HZA.out]; omega)).trans BXA.out.1
  have hx2 : w1.heap[w.heap.size + 1]? = some (.cells #[.int .i64 0, .string ⟨#[]⟩, .int .i64 0, .slice none 0 0] 27 (0, 0)) := (hb1.block _ (by rw [HZA.out]; omega)).trans BXA.out.2
  obtain ⟨⟨e0, e1, e2, e3⟩, g0, g1, g2, g3⟩ := zero_cells hx1
  obtain ⟨wB, hwB⟩ : ∃ z, z = ((((w1.setCell ⟨w.heap.size, 0, none⟩ (.int .i64 T.k)).setCell ⟨w.heap.size, 1, none⟩ (.string T.nm)).setCell ⟨w.heap.size, 2, none⟩ (.int .i64 T.vr)).setCell ⟨w.heap.size, 3, none⟩ (.slice A1 args.length c1)) := ⟨_, rfl⟩
  have HB : Hid (Below w.heap.size w wB) := Lib.hid (by rw [hwB]; exact set4_below _ _ _ _ (bt HBA.out hb1) (Nat.le_refl _))
  have HZ : Hid (w.heap.size + 2 ≤ wB.heap.size) := Lib.hid (by rw [hwB]; refine Nat.le_trans ?_ (Nat.le_of_eq (set4_size w1 w.heap.size _ _ _ _).symm); have := hb1.size; rw [HZA.out] at this; exact this)
  have BX : Hid (wB.heap[w.heap.size]? = some (.cells #[.int .i64 T.k, .string T.nm, .int .i64 T.vr, .slice A1 args.length c1] 27 (0, 0)) ∧ wB.heap[w.heap.size + 1]? = some (.cells #[.int .i64 0, .string ⟨#[]⟩, .int .i64 0, .slice none 0 0] 27 (0, 0))) := Lib.hid (by
    rw [hwB]
    exact ⟨by simp [World.setCell, Array.getElem?_modify, hx1], (set4_keep w1 w.heap.size _ _ _ _ _ (by omega)).trans hx2⟩)
  have HA : Hid (TRow wB any0 A1 args) := Lib.hid (by
    have f : Frm w1 wB (· = w.heap.size) := by rw [hwB]; exact frm4 w1 w.heap.size _ _ _ _
    exact hr1.move (P' := any0) (fun b hb (hp : b < w.heap.size) => ⟨f.block b hb (by show ¬ b = w.heap.size; omega), trivial⟩) f.size)
  obtain ⟨u0, u1, u2, u3⟩ := cell4 BX.out.1
  have HWB := Lib.hid hwB
  clear hb1 hx1 hx2 hwB RS x0 x1 x2 x3
  go_wp2
  rw [← HWB.out]
  clear e0 e1 e2 e3 g0 g1 g2 g3
  go_loopw [5, 14] (fun vv i wr => ∃ (k : Nat) (v : Value) (xs : List Value), v = vv ∧ k ≤ args.length ∧ i = .int .i64 k ∧ Hid (CpS wB wr v k ((args.take k).map RF) xs)) (fun _ i _ => args.length - (intOf i).toNat)
  case atStart => exact ⟨0, _, [], rfl, by omega, rfl, Lib.hid (by rw [List.take_zero]; exact cp_start wB)⟩
  case round =>
    obtain ⟨k, v, xs, rfl, hk, rfl, HS⟩ := hrel
    by_cases hlt : k < args.length
    · have hlti : (k : Int) < (args.length : Int) := by omega
      obtain ⟨b, o, rfl, hb, hr⟩ := HA.out.at (by omega)
      have hBr : Below w.heap.size w wr := bt HB.out HS.out.bel
      obtain ⟨A', c', x0, x1, x2, x3, hin⟩ := hr wr HS.out.bel k hlt
      have CALL : Hid (∀ W, Below wr.heap.size wr W → Calls Tryd.prog 37 #[.pointer (some ⟨sb, 0, none⟩), .agg #[.int .i64 args[k].k, .string args[k].nm, .int .i64 args[k].vr, .slice A' args[k].args.length c']] W (CpPost W (RF args[k]))) := Lib.hid (fun W hW => HI.out args[k] (List.getElem_mem hlt) _ W (hin.later hW) (HSUB.out.later (bt hBr hW)))
      have HT : Hid ((args.take (k + 1)).map RF = (args.take k).map RF ++ [RF args[k]]) := Lib.hid (by rw [List.take_succ_eq_append_getElem hlt, List.map_append]; rfl)
      obtain ⟨G, hG⟩ : ∃ G, G = RF args[k] := ⟨_, rfl⟩
      rw [← hG] at CALL HT
      obtain ⟨Ar, cr, rfl⟩ := vform HS.out.own
      have hs0 := HS.out.bel.size
      clear hr hin hb HI hBr hG
      go_wp2_with fail
      refine (CALL.out _ (below_alloc wr _)).mono ?_; rintro e w2 ⟨A2, c2, rfl, hr2, hb2⟩
      have hsz1 : (wr.alloc (.cells #[.int .i64 args[k].k, .string args[k].nm, .int .i64 args[k].vr, .slice A' args[k].args.length c'] 27)).heap.size = wr.heap.size + 1 := by simp
      have B2 := Lib.hid (bt (below_alloc wr (.cells #[.int .i64 args[k].k, .string args[k].nm, .int .i64 args[k].vr, .slice A' args[k].args.length c'] 27)) hb2)
      have R2 : Hid (TRow w2 (wr.heap.size ≤ ·) A2 G.args) := Lib.hid (hr2.weak (fun b _ h => by rw [hsz1] at h; omega))
      have OW2 := Lib.hid (own_bl HS.out.own B2.out)
      have hs2 := B2.out.size
      clear hr2 hb2 CALL x0 x1 x2 x3 hsz1
      unfold tv
      go_wp2_with (at_builtin; refine wpList_append_lies _ rfl (.tmp 18) (.tmp 22) 25 rfl wB.heap.size TT24 i0 (.agg #[.int .i64 0, .string .empty, .int .i64 0, .slice none 0 0]) 4 56 Tryd.underlying25 hi0 hz0 hz1 hz2 rfl (by decide) (.slice Ar k cr) k xs rfl (OW2.out.alloc _) ⟨w2.heap.size, 0, none⟩ 1 1 (kidT G A2 c2) rfl rfl (kid_news (by have := heap_alloc_new w2 (.cells #[.int .i64 G.k, .string G.nm, .int .i64 G.vr, .slice A2 G.args.length c2] 27); simpa using this)) (kid_one _ _ _) (by omega) (by unfold maxLen; omega) (by omega) (by simp; omega) (w2.heap.size + 1) (by simp) ?_; intro g cap w4 own4 gr4 at4 hlt4)
      have ST4 : Hid (CpS wB w4 (.slice (some ⟨g, 0, none⟩) (k + 1) cap) (k + 1) ((args.take (k + 1)).map RF) (xs ++ kidT G A2 c2)) := Lib.hid (by
        rw [HT.out]
        exact cp_step HS.out B2.out R2.out _ own4 gr4 (by
          rcases at4 with e | e
          · exact .inl e.symm
          · right; rw [e]; simp [Value.ownBlock]))
      clear own4 gr4 at4 OW2 R2 B2
      go_wp2
      go_roundw
      case rel => exact ⟨k + 1, _, _, rfl, by omega, by go_num, ST4⟩
      case measure => simp [intOf]; omega
    · obtain rfl : k = args.length := by omega
      have hge : ¬ (args.length : Int) < (args.length : Int) := by omega
      obtain ⟨A', c', rfl, hrow⟩ := cp_fin HS.out
      rw [List.take_length] at hrow
      have HROW := Lib.hid hrow
      have hbx : wr.heap[w.heap.size]? = some (.cells #[.int .i64 T.k, .string T.nm, .int .i64 T.vr, .slice A1 args.length c1] 27 (0, 0)) := (HS.out.bel.block w.heap.size (by have := HZ.out; omega)).trans BX.out.1
      have hrs : wr.heap[w.heap.size + 1]? = some (.cells #[.int .i64 0, .string ⟨#[]⟩, .int .i64 0, .slice none 0 0] 27 (0, 0)) := (HS.out.bel.block (w.heap.size + 1) (by have := HZ.out; omega)).trans BX.out.2
      obtain ⟨z0, z1, z2, z3⟩ := cell4 hbx
      have y0 : wr.cell? ⟨w.heap.size + 1, 0, none⟩ = some (.int .i64 0) := by simp [World.cell?, hrs]
      have y1 : wr.cell? ⟨w.heap.size + 1, 1, none⟩ = some (.string ⟨#[]⟩) := by simp [World.cell?, hrs]
      have y2 : wr.cell? ⟨w.heap.size + 1, 2, none⟩ = some (.int .i64 0) := by simp [World.cell?, hrs]
      have y3 : wr.cell? ⟨w.heap.size + 1, 3, none⟩ = some (.slice none 0 0) := by simp [World.cell?, hrs]
      have f0 : ∀ j, wr.frozen? ⟨w.heap.size, j, none⟩ = false := fun j => by simp [World.frozen?, hbx]
      have f1 : ∀ j, wr.frozen? ⟨w.heap.size + 1, j, none⟩ = false := fun j => by simp [World.frozen?, hrs]
      have g3 := f0 3
      have k0 := f1 0; have k1 := f1 1; have k2 := f1 2; have k3 := f1 3
      have HBX := Lib.hid hbx
      have HRS := Lib.hid hrs
      clear hrow hbx hrs f0 f1
      have BWR := Lib.hid (bt HB.out (HS.out.bel.mono (by have := HZ.out; omega)))
      have SZ := HS.out.bel.size
      have hsz2 := HZ.out
      go_wp2
      obtain ⟨wf, hwf⟩ : ∃ wf, wf = (((((wr.setCell ⟨w.heap.size, 3, none⟩ (.slice A' args.length c')).setCell ⟨w.heap.size + 1, 0, none⟩ (.int .i64 T.k)).setCell ⟨w.heap.size + 1, 1, none⟩ (.string T.nm)).setCell ⟨w.heap.size + 1, 2, none⟩ (.int .i64 T.vr)).setCell ⟨w.heap.size + 1, 3, none⟩ (.slice A' args.length c')) := ⟨_, rfl⟩
      rw [← hwf]
      have hf : wf.heap[w.heap.size + 1]? = some (.cells #[.int .i64 T.k, .string T.nm, .int .i64 T.vr, .slice A' args.length c'] 27 (0, 0)) := by rw [hwf]; simp [World.setCell, Array.getElem?_modify, HRS.out]
      have HK : Hid (∀ b, wB.heap.size ≤ b → wf.heap[b]? = wr.heap[b]?) := Lib.hid (fun b hb => by
        rw [hwf, Below.heap_setCell _ _ _ _ (by show b ≠ w.heap.size + 1; omega), Below.heap_setCell _ _ _ _ (by show b ≠ w.heap.size + 1; omega), Below.heap_setCell _ _ _ _ (by show b ≠ w.heap.size + 1; omega), Below.heap_setCell _ _ _ _ (by show b ≠ w.heap.size + 1; omega), Below.heap_setCell _ _ _ _ (by show b ≠ w.heap.size; omega)])
      have HBF : Hid (Below w.heap.size w wf) := Lib.hid (by
        rw [hwf]
        exact ((((BWR.out.setCell (Nat.le_refl _) _).setCell (Nat.le_succ _) _).setCell (Nat.le_succ _) _).setCell (Nat.le_succ _) _).setCell (Nat.le_succ _) _)
      have HSZF : Hid (wf.heap.size = wr.heap.size) := Lib.hid (by rw [hwf]; simp [World.setCell])
      have t0 : wf.cell? ⟨w.heap.size + 1, 0, none⟩ = some (.int .i64 T.k) := by simp [World.cell?, hf]
      have t1 : wf.cell? ⟨w.heap.size + 1, 1, none⟩ = some (.string T.nm) := by simp [World.cell?, hf]
      have t2 : wf.cell? ⟨w.heap.size + 1, 2, none⟩ = some (.int .i64 T.vr) := by simp [World.cell?, hf]
      have t3 : wf.cell? ⟨w.heap.size + 1, 3, none⟩ = some (.slice A' args.length c') := by simp [World.cell?, hf]
      clear hf hwf y0 y1 y2 y3 z0 z1 z2 z3 g3 k0 k1 k2 k3
      (try simp only [Exit.inBlock, Exit.then])
      refine bodyPost_ret (by simp [results, Tryd.results37, go_sem, t0, t1, t2, t3]; try rfl) rfl ?_
      refine ⟨A', c', (by rw [HAE.out]; unfold tv; simp [TT.k, TT.nm, TT.vr, TT.args]), ?_, HBF.out⟩
      rw [HAE.out]
      exact HROW.out.move (fun b hb hp => ⟨HK.out b hp, Nat.le_trans (by omega) hp⟩) (by have := HSZF.out; omega)
end Go.Proofs.YtdkfimejabanlaaDoor
