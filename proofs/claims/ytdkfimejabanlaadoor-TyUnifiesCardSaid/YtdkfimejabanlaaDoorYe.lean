import Derived.Test.YtdkfimejabanlaaDoorYd
namespace Go.Proofs.YtdkfimejabanlaaDoor
open Go.ChangeShapes Go.WideShapes Go.ChangeAt Go.RowKit Go.WideMaps
set_option linter.unusedVariables false
set_option linter.unusedSimpArgs false
set_option maxRecDepth 100000 in
set_option maxHeartbeats 8000000 in
theorem tclone_any : ∀ (d : Nat) (V : TT) (v : Value) (w : World), bigT d V = false → TIn w any0 V v →
    Calls Tryd.prog 35 #[v] w (CpPost w V) := by
  intro d
  induction d with
  | zero => intro V v w h; cases h
  | succ d ih =>
  intro V v w hbg ⟨A, c, hv, hA⟩
  obtain ⟨i0, hi0, hz0, hz1, hz2⟩ := info_parts infoT
  obtain ⟨hl4, -, b3⟩ := bigT_parts hbg
  subst hv
  have HI := Lib.hid ih
  have HBG := Lib.hid b3
  unfold tv
  obtain ⟨args, ha⟩ : ∃ l, l = V.args := ⟨_, rfl⟩
  have HAR := Lib.hid ha
  rw [← ha] at hA HBG hl4 ⊢
  have HA := Lib.hid hA
  obtain ⟨wB, hwB⟩ : ∃ z, z = (w.alloc (.cells #[.int .i64 V.k, .string V.nm, .int .i64 V.vr, .slice A args.length c] 27)).alloc (.cells #[.int .i64 0, .string ⟨#[]⟩, .int .i64 0, .slice none 0 0] 27) := ⟨_, rfl⟩
  have BX := Lib.hid (two_box (w := w) (.cells #[.int .i64 V.k, .string V.nm, .int .i64 V.vr, .slice A args.length c] 27) (.cells #[.int .i64 0, .string ⟨#[]⟩, .int .i64 0, .slice none 0 0] 27))
  have HB : Hid (Below w.heap.size w wB) := Lib.hid (by rw [hwB]; exact bt (below_alloc w _) (below_alloc _ _))
  have hz : wB.heap.size = w.heap.size + 2 := by rw [hwB]; simp
  have HZ := Lib.hid hz
  have HWB := Lib.hid hwB
  rw [← hwB] at BX
  clear ih hbg b3 ha hA hz hwB
  go_enter Tryd.func35, Tryd.ntmps35
  go_wp2
  try rw [← HWB.out]
  go_loopw [3, 9] (fun vv i wr => ∃ (k : Nat) (v : Value) (xs : List Value), v = vv ∧ k ≤ args.length ∧ i = .int .i64 k ∧ Hid (CpS wB wr v k (args.take k) xs)) (fun _ i _ => args.length - (intOf i).toNat)
  case atStart => exact ⟨0, _, [], rfl, by omega, rfl, Lib.hid (by rw [List.take_zero]; exact cp_start wB)⟩
  case round =>
    obtain ⟨k, v, xs, rfl, hk, rfl, HS⟩ := hrel
    by_cases hlt : k < args.length
    · have hlti : (k : Int) < (args.length : Int) := by omega
      obtain ⟨b, o, rfl, hb, hr⟩ := HA.out.at (by omega)
      have hBr : Below w.heap.size w wr := bt HB.out HS.out.bel
      obtain ⟨A', c', x0, x1, x2, x3, hin⟩ := hr wr hBr k hlt
      have CALL : Hid (∀ W, Below wr.heap.size wr W → Calls Tryd.prog 35 #[.agg #[.int .i64 args[k].k, .string args[k].nm, .int .i64 args[k].vr, .slice A' args[k].args.length c']] W (CpPost W args[k])) := Lib.hid (fun W hW => HI.out args[k] _ W (HBG.out _ (List.getElem_mem hlt)) (hin.later hW))
      have HT : Hid (args.take (k + 1) = args.take k ++ [args[k]]) := Lib.hid (List.take_succ_eq_append_getElem hlt)
      obtain ⟨Ar, cr, rfl⟩ := vform HS.out.own
      have hs0 := HS.out.bel.size
      clear hr hin hb HI hBr
      go_wp2_with fail
      refine (CALL.out _ (below_alloc wr _)).mono ?_; rintro e w2 ⟨A2, c2, rfl, hr2, hb2⟩
      have hsz1 : (wr.alloc (.cells #[.int .i64 args[k].k, .string args[k].nm, .int .i64 args[k].vr, .slice A' args[k].args.length c'] 27)).heap.size = wr.heap.size + 1 := by simp
      have B2 := Lib.hid (bt (below_alloc wr (.cells #[.int .i64 args[k].k, .string args[k].nm, .int .i64 args[k].vr, .slice A' args[k].args.length c'] 27)) hb2)
      have R2 : Hid (TRow w2 (wr.heap.size ≤ ·) A2 args[k].args) := Lib.hid (hr2.weak (fun b _ h => by rw [hsz1] at h; omega))
      have OW2 := Lib.hid (own_bl HS.out.own B2.out)
      have hs2 := B2.out.size
      clear hr2 hb2 CALL x0 x1 x2 x3 hsz1
      unfold tv
      go_wp2_with (at_builtin; refine wpList_append_lies _ rfl (.tmp 13) (.tmp 16) 25 rfl wB.heap.size TT24 i0 (.agg #[.int .i64 0, .string .empty, .int .i64 0, .slice none 0 0]) 4 56 Tryd.underlying25 hi0 hz0 hz1 hz2 rfl (by decide) (.slice Ar k cr) k xs rfl (OW2.out.alloc _) ⟨w2.heap.size, 0, none⟩ 1 1 (kidT args[k] A2 c2) rfl rfl (kid_news (by have := heap_alloc_new w2 (.cells #[.int .i64 args[k].k, .string args[k].nm, .int .i64 args[k].vr, .slice A2 args[k].args.length c2] 27); simpa using this)) (kid_one _ _ _) (by omega) (by unfold maxLen; omega) (by omega) (by simp; omega) (w2.heap.size + 1) (by simp) ?_; intro g cap w4 own4 gr4 at4 hlt4)
      have ST4 : Hid (CpS wB w4 (.slice (some ⟨g, 0, none⟩) (k + 1) cap) (k + 1) (args.take (k + 1)) (xs ++ kidT args[k] A2 c2)) := Lib.hid (by
        rw [HT.out]
        exact cp_step HS.out B2.out R2.out _ own4 gr4 (by
          rcases at4 with e | e
          · exact .inl e.symm
          · right; rw [e]; simp [Value.ownBlock]))
      clear own4 gr4 at4 OW2 R2 B2
      go_wp2
      go_roundw
      case rel => exact ⟨k + 1, _, _, rfl, by omega, by go_num, ST4⟩
      case measure => simp [intOf]; omega
    · obtain rfl : k = args.length := by omega
      have hge : ¬ (args.length : Int) < (args.length : Int) := by omega
      obtain ⟨A', c', rfl, hrow⟩ := cp_fin HS.out
      rw [List.take_length] at hrow
      have HROW := Lib.hid hrow
      have hbx : wr.heap[w.heap.size]? = some (.cells #[.int .i64 V.k, .string V.nm, .int .i64 V.vr, .slice A args.length c] 27 (0, 0)) := (HS.out.bel.block w.heap.size (by have := HZ.out; omega)).trans BX.out.1
      have hrs : wr.heap[w.heap.size + 1]? = some (.cells #[.int .i64 0, .string ⟨#[]⟩, .int .i64 0, .slice none 0 0] 27 (0, 0)) := (HS.out.bel.block (w.heap.size + 1) (by have := HZ.out; omega)).trans BX.out.2
      obtain ⟨z0, z1, z2, z3⟩ := cell4 hbx
      have y0 : wr.cell? ⟨w.heap.size + 1, 0, none⟩ = some (.int .i64 0) := by simp [World.cell?, hrs]
      have y1 : wr.cell? ⟨w.heap.size + 1, 1, none⟩ = some (.string ⟨#[]⟩) := by simp [World.cell?, hrs]
      have y2 : wr.cell? ⟨w.heap.size + 1, 2, none⟩ = some (.int .i64 0) := by simp [World.cell?, hrs]
      have y3 : wr.cell? ⟨w.heap.size + 1, 3, none⟩ = some (.slice none 0 0) := by simp [World.cell?, hrs]
      have f0 : ∀ j, wr.frozen? ⟨w.heap.size, j, none⟩ = false := fun j => by simp [World.frozen?, hbx]
      have f1 : ∀ j, wr.frozen? ⟨w.heap.size + 1, j, none⟩ = false := fun j => by simp [World.frozen?, hrs]
      have g3 := f0 3
      have k0 := f1 0; have k1 := f1 1; have k2 := f1 2; have k3 := f1 3
      have HBX := Lib.hid hbx
      have HRS := Lib.hid hrs
      clear hrow hbx hrs f0 f1
      have BWR := Lib.hid (bt HB.out (HS.out.bel.mono (by have := HZ.out; omega)))
      have SZ := HS.out.bel.size
      have hsz2 := HZ.out
      go_wp2
      obtain ⟨wf, hwf⟩ : ∃ wf, wf = (((((wr.setCell ⟨w.heap.size, 3, none⟩ (.slice A' args.length c')).setCell ⟨w.heap.size + 1, 0, none⟩ (.int .i64 V.k)).setCell ⟨w.heap.size + 1, 1, none⟩ (.string V.nm)).setCell ⟨w.heap.size + 1, 2, none⟩ (.int .i64 V.vr)).setCell ⟨w.heap.size + 1, 3, none⟩ (.slice A' args.length c')) := ⟨_, rfl⟩
      rw [← hwf]
      have hf : wf.heap[w.heap.size + 1]? = some (.cells #[.int .i64 V.k, .string V.nm, .int .i64 V.vr, .slice A' args.length c'] 27 (0, 0)) := by rw [hwf]; simp [World.setCell, Array.getElem?_modify, HRS.out]
      have HK : Hid (∀ b, wB.heap.size ≤ b → wf.heap[b]? = wr.heap[b]?) := Lib.hid (fun b hb => by
        rw [hwf, Below.heap_setCell _ _ _ _ (by show b ≠ w.heap.size + 1; omega), Below.heap_setCell _ _ _ _ (by show b ≠ w.heap.size + 1; omega), Below.heap_setCell _ _ _ _ (by show b ≠ w.heap.size + 1; omega), Below.heap_setCell _ _ _ _ (by show b ≠ w.heap.size + 1; omega), Below.heap_setCell _ _ _ _ (by show b ≠ w.heap.size; omega)])
      have HBF : Hid (Below w.heap.size w wf) := Lib.hid (by
        rw [hwf]
        exact ((((BWR.out.setCell (Nat.le_refl _) _).setCell (Nat.le_succ _) _).setCell (Nat.le_succ _) _).setCell (Nat.le_succ _) _).setCell (Nat.le_succ _) _)
      have HSZF : Hid (wf.heap.size = wr.heap.size) := Lib.hid (by rw [hwf]; simp [World.setCell])
      have t0 : wf.cell? ⟨w.heap.size + 1, 0, none⟩ = some (.int .i64 V.k) := by simp [World.cell?, hf]
      have t1 : wf.cell? ⟨w.heap.size + 1, 1, none⟩ = some (.string V.nm) := by simp [World.cell?, hf]
      have t2 : wf.cell? ⟨w.heap.size + 1, 2, none⟩ = some (.int .i64 V.vr) := by simp [World.cell?, hf]
      have t3 : wf.cell? ⟨w.heap.size + 1, 3, none⟩ = some (.slice A' args.length c') := by simp [World.cell?, hf]
      clear hf hwf y0 y1 y2 y3 z0 z1 z2 z3 g3 k0 k1 k2 k3
      (try simp only [Exit.inBlock, Exit.then])
      refine bodyPost_ret (by simp [results, Tryd.results35, go_sem, t0, t1, t2, t3]; try rfl) rfl ?_
      refine ⟨A', c', (by unfold tv; rw [HAR.out]), ?_, HBF.out⟩
      rw [← HAR.out]
      exact HROW.out.move (fun b hb hp => ⟨HK.out b hp, Nat.le_trans (by omega) hp⟩) (by have := HSZF.out; omega)
end Go.Proofs.YtdkfimejabanlaaDoor
