import Derived.Test.YtifopogkbjhkjaaGreatDoorYu
import Derived.Test.YtifopogkbjhkjaaGreatDoorRp
import Derived.Test.YtifopogkbjhkjaaGreatDoorSf
import Derived.Test.YtifopogkbjhkjaaGreatDoorRv
import Derived.Sort.OwnSortedInts
namespace Go.Proofs.YtifopogkbjhkjaaGreatDoor
open DR
open Go.ChangeShapes Go.WideShapes Go.ChangeAt Go.RowKit Go.WideMaps
set_option linter.unusedVariables false
set_option linter.unusedSimpArgs false
-- from Tq
set_option maxRecDepth 100000 in
set_option maxHeartbeats 8000000 in
theorem clone_any : ∀ (d : Nat) (V : TT) (v : Value) (q : Int) (w : World), bigT d V = false → 0 ≤ q → q + d ≤ 1000 → TIn w any0 V v →
    Calls Tryz.prog 65 #[v, .int .i64 q] w (CpPost2 w V) := by
  intro d
  induction d with
  | zero => intro V v q w h; cases h
  | succ d ih =>
  intro V v q w hbg hq0 hq1 ⟨A, c, hv, hA⟩
  obtain ⟨i0, hi0, hz0, hz1, hz2⟩ := info_parts infoT
  obtain ⟨hl4, -, b3⟩ := bigT_parts hbg
  subst hv
  have HI := Lib.hid ih
  have HBG := Lib.hid b3
  unfold tv
  obtain ⟨args, ha⟩ : ∃ l, l = V.args := ⟨_, rfl⟩
  have HAR := Lib.hid ha
  rw [← ha] at hA HBG hl4 ⊢
  have HA := Lib.hid hA
  have dq : decide (131072 < q) = false := decide_eq_false (by omega)
  have wq : IntKind.i64.wrap (q + 1) = q + 1 := IntWalk.i64_in _ (by omega)
  obtain ⟨wB, hwB⟩ : ∃ z, z = (w.alloc (.cells #[.int .i64 V.k, .string V.nm, .int .i64 V.vr, .slice A args.length c] 24)).alloc (.cells #[.int .i64 0, .string ⟨#[]⟩, .int .i64 0, .slice none 0 0] 24) := ⟨_, rfl⟩
  have BX := Lib.hid (two_box (w := w) (.cells #[.int .i64 V.k, .string V.nm, .int .i64 V.vr, .slice A args.length c] 24) (.cells #[.int .i64 0, .string ⟨#[]⟩, .int .i64 0, .slice none 0 0] 24))
  have HB : Hid (Below w.heap.size w wB) := Lib.hid (by rw [hwB]; exact bt (below_alloc w _) (below_alloc _ _))
  have hz : wB.heap.size = w.heap.size + 2 := by rw [hwB]; simp
  have HZ := Lib.hid hz
  have HWB := Lib.hid hwB
  rw [← hwB] at BX
  clear ih hbg b3 ha hA hz hwB
  go_enter Tryz.func65, Tryz.ntmps65
  go_wp2
  try rw [← HWB.out]
  go_loopw [6, 17] (fun vv i wr => ∃ (k : Nat) (v : Value) (xs : List Value), v = vv ∧ k ≤ args.length ∧ i = .int .i64 k ∧ Hid (CpS wB wr v k (args.take k) xs)) (fun _ i _ => args.length - (intOf i).toNat)
  case atStart => exact ⟨0, _, [], rfl, by omega, rfl, Lib.hid (by rw [List.take_zero]; exact cp_start wB)⟩
  case round =>
    obtain ⟨k, v, xs, rfl, hk, rfl, HS⟩ := hrel
    by_cases hlt : k < args.length
    · have hlti : (k : Int) < (args.length : Int) := by omega
      obtain ⟨b, o, rfl, hb, hr⟩ := HA.out.at (by omega)
      have hBr : Below w.heap.size w wr := bt HB.out HS.out.bel
      obtain ⟨A', c', x0, x1, x2, x3, hin⟩ := hr wr hBr k hlt
      have CALL : Hid (∀ W, Below wr.heap.size wr W → Calls Tryz.prog 65 #[.agg #[.int .i64 args[k].k, .string args[k].nm, .int .i64 args[k].vr, .slice A' args[k].args.length c'], .int .i64 (q + 1)] W (CpPost2 W args[k])) := Lib.hid (fun W hW => HI.out args[k] _ (q + 1) W (HBG.out _ (List.getElem_mem hlt)) (by omega) (by omega) (hin.later hW))
      have HT : Hid (args.take (k + 1) = args.take k ++ [args[k]]) := Lib.hid (List.take_succ_eq_append_getElem hlt)
      obtain ⟨Ar, cr, rfl⟩ := vform HS.out.own
      have hs0 := HS.out.bel.size
      clear hr hin hb HI hBr
      go_wp2_with fail
      refine (CALL.out _ (below_alloc wr _)).mono ?_; rintro e w2 ⟨A2, c2, rfl, hr2, hb2⟩
      have hsz1 : (wr.alloc (.cells #[.int .i64 args[k].k, .string args[k].nm, .int .i64 args[k].vr, .slice A' args[k].args.length c'] 24)).heap.size = wr.heap.size + 1 := by simp
      have B2 := Lib.hid (bt (below_alloc wr (.cells #[.int .i64 args[k].k, .string args[k].nm, .int .i64 args[k].vr, .slice A' args[k].args.length c'] 24)) hb2)
      have R2 : Hid (TRow w2 (wr.heap.size ≤ ·) A2 args[k].args) := Lib.hid (hr2.weak (fun b _ h => by rw [hsz1] at h; omega))
      have OW2 := Lib.hid (own_bl HS.out.own B2.out)
      have B3 := Lib.hid (bt B2.out (below_alloc w2 (.cells #[.int .i64 args[k].k, .string args[k].nm, .int .i64 args[k].vr, .slice A2 args[k].args.length c2] 24)))
      have R3 := Lib.hid (R2.out.later (below_alloc w2 (.cells #[.int .i64 args[k].k, .string args[k].nm, .int .i64 args[k].vr, .slice A2 args[k].args.length c2] 24)))
      have OW3 := Lib.hid (own_bl OW2.out (below_alloc w2 (.cells #[.int .i64 args[k].k, .string args[k].nm, .int .i64 args[k].vr, .slice A2 args[k].args.length c2] 24)))
      have hs2 := B2.out.size
      clear hr2 hb2 CALL x0 x1 x2 x3 hsz1
      unfold tv
      go_wp2_with (at_builtin; refine wpList_append_lies _ rfl (.tmp 31) (.tmp 33) 22 rfl wB.heap.size TT24 i0 (.agg #[.int .i64 0, .string .empty, .int .i64 0, .slice none 0 0]) 4 56 Tryz.underlying22 hi0 hz0 hz1 hz2 rfl (by decide) (.slice Ar k cr) k xs rfl (OW3.out.alloc _) ⟨w2.heap.size + 1, 0, none⟩ 1 1 (kidT args[k] A2 c2) rfl rfl (kid_news (by have := heap_alloc_new (w2.alloc (.cells #[.int .i64 args[k].k, .string args[k].nm, .int .i64 args[k].vr, .slice A2 args[k].args.length c2] 24)) (.cells #[.int .i64 args[k].k, .string args[k].nm, .int .i64 args[k].vr, .slice A2 args[k].args.length c2] 24); simpa using this)) (kid_one _ _ _) (by omega) (by unfold maxLen; omega) (by omega) (by simp; omega) (w2.heap.size + 2) (by simp) ?_; intro g cap w4 own4 gr4 at4 hlt4)
      have ST4 : Hid (CpS wB w4 (.slice (some ⟨g, 0, none⟩) (k + 1) cap) (k + 1) (args.take (k + 1)) (xs ++ kidT args[k] A2 c2)) := Lib.hid (by
        rw [HT.out]
        exact cp_step HS.out B3.out R3.out _ own4 gr4 (by
          rcases at4 with e | e
          · exact .inl e.symm
          · right; rw [e]; simp [Value.ownBlock]))
      clear own4 gr4 at4 OW2 OW3 R2 R3 B2 B3
      go_wp2
      go_roundw
      case rel => exact ⟨k + 1, _, _, rfl, by omega, by go_num, ST4⟩
      case measure => simp [intOf]; omega
    · obtain rfl : k = args.length := by omega
      have hge : ¬ (args.length : Int) < (args.length : Int) := by omega
      obtain ⟨A', c', rfl, hrow⟩ := cp_fin HS.out
      rw [List.take_length] at hrow
      have HROW := Lib.hid hrow
      have hbx : wr.heap[w.heap.size]? = some (.cells #[.int .i64 V.k, .string V.nm, .int .i64 V.vr, .slice A args.length c] 24 (0, 0)) := (HS.out.bel.block w.heap.size (by have := HZ.out; omega)).trans BX.out.1
      have hrs : wr.heap[w.heap.size + 1]? = some (.cells #[.int .i64 0, .string ⟨#[]⟩, .int .i64 0, .slice none 0 0] 24 (0, 0)) := (HS.out.bel.block (w.heap.size + 1) (by have := HZ.out; omega)).trans BX.out.2
      obtain ⟨z0, z1, z2, z3⟩ := cell4 hbx
      have y0 : wr.cell? ⟨w.heap.size + 1, 0, none⟩ = some (.int .i64 0) := by simp [World.cell?, hrs]
      have y1 : wr.cell? ⟨w.heap.size + 1, 1, none⟩ = some (.string ⟨#[]⟩) := by simp [World.cell?, hrs]
      have y2 : wr.cell? ⟨w.heap.size + 1, 2, none⟩ = some (.int .i64 0) := by simp [World.cell?, hrs]
      have y3 : wr.cell? ⟨w.heap.size + 1, 3, none⟩ = some (.slice none 0 0) := by simp [World.cell?, hrs]
      have f0 : ∀ j, wr.frozen? ⟨w.heap.size, j, none⟩ = false := fun j => by simp [World.frozen?, hbx]
      have f1 : ∀ j, wr.frozen? ⟨w.heap.size + 1, j, none⟩ = false := fun j => by simp [World.frozen?, hrs]
      have g3 := f0 3
      have k0 := f1 0; have k1 := f1 1; have k2 := f1 2; have k3 := f1 3
      have HBX := Lib.hid hbx
      have HRS := Lib.hid hrs
      clear hrow hbx hrs f0 f1
      have BWR := Lib.hid (bt HB.out (HS.out.bel.mono (by have := HZ.out; omega)))
      have SZ := HS.out.bel.size
      have hsz2 := HZ.out
      go_wp2
      obtain ⟨wf, hwf⟩ : ∃ wf, wf = (((((wr.setCell ⟨w.heap.size, 3, none⟩ (.slice A' args.length c')).setCell ⟨w.heap.size + 1, 0, none⟩ (.int .i64 V.k)).setCell ⟨w.heap.size + 1, 1, none⟩ (.string V.nm)).setCell ⟨w.heap.size + 1, 2, none⟩ (.int .i64 V.vr)).setCell ⟨w.heap.size + 1, 3, none⟩ (.slice A' args.length c')) := ⟨_, rfl⟩
      rw [← hwf]
      have hf : wf.heap[w.heap.size + 1]? = some (.cells #[.int .i64 V.k, .string V.nm, .int .i64 V.vr, .slice A' args.length c'] 24 (0, 0)) := by rw [hwf]; simp [World.setCell, Array.getElem?_modify, HRS.out]
      have HK : Hid (∀ b, wB.heap.size ≤ b → wf.heap[b]? = wr.heap[b]?) := Lib.hid (fun b hb => by
        rw [hwf, Below.heap_setCell _ _ _ _ (by show b ≠ w.heap.size + 1; omega), Below.heap_setCell _ _ _ _ (by show b ≠ w.heap.size + 1; omega), Below.heap_setCell _ _ _ _ (by show b ≠ w.heap.size + 1; omega), Below.heap_setCell _ _ _ _ (by show b ≠ w.heap.size + 1; omega), Below.heap_setCell _ _ _ _ (by show b ≠ w.heap.size; omega)])
      have HBF : Hid (Below w.heap.size w wf) := Lib.hid (by
        rw [hwf]
        exact ((((BWR.out.setCell (Nat.le_refl _) _).setCell (Nat.le_succ _) _).setCell (Nat.le_succ _) _).setCell (Nat.le_succ _) _).setCell (Nat.le_succ _) _)
      have HSZF : Hid (wf.heap.size = wr.heap.size) := Lib.hid (by rw [hwf]; simp [World.setCell])
      have t0 : wf.cell? ⟨w.heap.size + 1, 0, none⟩ = some (.int .i64 V.k) := by simp [World.cell?, hf]
      have t1 : wf.cell? ⟨w.heap.size + 1, 1, none⟩ = some (.string V.nm) := by simp [World.cell?, hf]
      have t2 : wf.cell? ⟨w.heap.size + 1, 2, none⟩ = some (.int .i64 V.vr) := by simp [World.cell?, hf]
      have t3 : wf.cell? ⟨w.heap.size + 1, 3, none⟩ = some (.slice A' args.length c') := by simp [World.cell?, hf]
      clear hf hwf y0 y1 y2 y3 z0 z1 z2 z3 g3 k0 k1 k2 k3
      (try simp only [Exit.inBlock, Exit.then])
      refine bodyPost_ret (by simp [results, Tryz.results65, go_sem, t0, t1, t2, t3]; try rfl) rfl ?_
      refine ⟨A', c', (by unfold tv; rw [HAR.out]), ?_, HBF.out⟩
      rw [← HAR.out]
      exact HROW.out.move (fun b hb hp => ⟨HK.out b hp, Nat.le_trans (by omega) hp⟩) (by have := HSZF.out; omega)
-- from Tr
set_option maxRecDepth 100000 in
set_option maxHeartbeats 2000000 in
theorem own_any {d : Nat} {V : TT} {v : Value} {w : World} (hd : d ≤ 500) (hbg : bigT d V = false) (h : TIn w any0 V v) : Calls Tryz.prog 40 #[v] w (CpPost w V) := by
  have hin := h
  obtain ⟨A, c, rfl, -⟩ := h
  have CL := Lib.hid (fun W (hW : Below w.heap.size w W) => clone_any d V _ 0 W hbg (by omega) (by omega) (hin.later hW))
  unfold tv at CL ⊢
  have HB3 := Lib.hid (bt (below_alloc w (.cells #[.int .i64 V.k, .string V.nm, .int .i64 V.vr, .slice A V.args.length c] 24)) (below_alloc _ (.cells #[.int .i64 0, .string ⟨#[]⟩, .int .i64 0, .slice none 0 0] 24)))
  have BX := Lib.hid (two_box (w := w) (.cells #[.int .i64 V.k, .string V.nm, .int .i64 V.vr, .slice A V.args.length c] 24) (.cells #[.int .i64 0, .string ⟨#[]⟩, .int .i64 0, .slice none 0 0] 24))
  have HZ : Hid (((w.alloc (.cells #[.int .i64 V.k, .string V.nm, .int .i64 V.vr, .slice A V.args.length c] 24)).alloc (.cells #[.int .i64 0, .string ⟨#[]⟩, .int .i64 0, .slice none 0 0] 24)).heap.size = w.heap.size + 2) := Lib.hid (by simp)
  clear hbg hin
  go_enter Tryz.func40, Tryz.ntmps40
  go_wp2_with fail
  refine (CL.out _ HB3.out).mono ?_; rintro e w2 ⟨A2, c2, rfl, r2, b2⟩
  obtain ⟨w3, hw3⟩ : ∃ z, z = w2.alloc (.cells #[.int .i64 V.k, .string V.nm, .int .i64 V.vr, .slice A2 V.args.length c2] 24) := ⟨_, rfl⟩
  have hb3 : Below w.heap.size w w3 := by rw [hw3]; exact bt HB3.out (bt b2 (below_alloc w2 _))
  have hR3 : TRow w3 (w.heap.size + 2 ≤ ·) A2 V.args := by
    rw [hw3]
    refine (r2.later (below_alloc w2 _)).weak (fun k _ h => ?_)
    rw [HZ.out] at h; exact h
  have hs3 : w3.heap[w.heap.size + 1]? = some (.cells #[.int .i64 0, .string ⟨#[]⟩, .int .i64 0, .slice none 0 0] 24 (0, 0)) := by
    have q1 := b2.size
    rw [HZ.out] at q1
    rw [hw3, Below.heap_alloc w2 _ _ (by omega), b2.block _ (by rw [HZ.out]; omega)]
    exact BX.out.2
  obtain ⟨⟨y0, y1, y2, y3⟩, k0, k1, k2, k3⟩ := zero_cells hs3
  have HW3 := Lib.hid hw3; have HB := Lib.hid hb3; have HR3 := Lib.hid hR3; have HS3 := Lib.hid hs3
  rw [hw3] at y0 y1 y2 y3 k0 k1 k2 k3
  clear r2 b2 hw3 hb3 hR3 hs3 CL
  unfold tv
  go_wp2
  rw [← HW3.out]
  obtain ⟨t0, t1, t2, t3⟩ := set4_cells (.int .i64 V.k) (.string V.nm) (.int .i64 V.vr) (.slice A2 V.args.length c2) HS3.out
  obtain ⟨m1, m2⟩ := set4_ret (a := .int .i64 V.k) (b := .string V.nm) (c := .int .i64 V.vr) (d := .slice A2 V.args.length c2) HB.out (Nat.le_succ _) HR3.out (fun k hk => ⟨by omega, by omega⟩)
  (try simp only [Exit.inBlock, Exit.then])
  refine bodyPost_ret (by simp [results, Tryz.results40, go_sem, t0, t1, t2, t3]; try rfl) rfl ?_
  exact ⟨A2, c2, rfl, m1, m2⟩
-- from Tu
theorem alloc4 (w : World) : ((w.alloc (.cells #[.int .i64 0, .string ⟨#[]⟩, .int .i64 0, .slice none 0 0] TT24)).heap[w.heap.size]? : Option Obj) = some (.cells #[.int .i64 0, .string ⟨#[]⟩, .int .i64 0, .slice none 0 0] TT24 (0, 0)) := heap_alloc_new _ _
set_option maxRecDepth 100000 in
set_option maxHeartbeats 1000000 in
theorem variable_any (n : Int) (w : World) : Calls Tryz.prog 57 #[.int .i64 n] w fun e w' => e = .returned (tv (varT n) none 0) ∧ Below w.heap.size w w' := by
  have hc := heap_alloc_new w (.cells #[.int .i64 7, .string ⟨#[]⟩, .int .i64 n, .slice none 0 0] 24)
  obtain ⟨⟨t0, t1, t2, t3⟩, -, -, -, -⟩ := zero_cells hc
  clear hc
  go_enter Tryz.func57, Tryz.ntmps57
  go_wp2
  (try simp only [Exit.inBlock, Exit.then])
  refine bodyPost_ret (by simp [results, Tryz.results57, go_sem, t0, t1, t2, t3]; try rfl) rfl ?_
  exact ⟨rfl, below_alloc _ _⟩
-- from Tx
abbrev SchT : TypeId := 28
/-- a scheme by value. -/
def scv (Al : Option Addr) (m ca : Nat) (V : TT) (A : Option Addr) (c : Nat) : Value := .agg #[.slice Al m ca, .int .i64 V.k, .string V.nm, .int .i64 V.vr, .slice A V.args.length c]
abbrev set5 (w : World) (R : Nat) (a b c d e : Value) : World := ((((w.setCell ⟨R, 0, none⟩ a).setCell ⟨R, 1, none⟩ b).setCell ⟨R, 2, none⟩ c).setCell ⟨R, 3, none⟩ d).setCell ⟨R, 4, none⟩ e
theorem set5_cells {w : World} {R : Nat} {y0 y1 y2 y3 y4 : Value} (a b c d e : Value) (h : w.heap[R]? = some (.cells #[y0, y1, y2, y3, y4] SchT (0, 0))) :
    (set5 w R a b c d e).cell? ⟨R, 0, none⟩ = some a ∧ (set5 w R a b c d e).cell? ⟨R, 1, none⟩ = some b ∧ (set5 w R a b c d e).cell? ⟨R, 2, none⟩ = some c ∧ (set5 w R a b c d e).cell? ⟨R, 3, none⟩ = some d ∧ (set5 w R a b c d e).cell? ⟨R, 4, none⟩ = some e := by
  have hf : (set5 w R a b c d e).heap[R]? = some (.cells #[a, b, c, d, e] SchT (0, 0)) := by simp [World.setCell, Array.getElem?_modify, h]
  refine ⟨?_, ?_, ?_, ?_, ?_⟩ <;> simp [World.cell?, hf]
theorem set5_keep (w : World) (R : Nat) (a b c d e : Value) : ∀ k, k ≠ R → (set5 w R a b c d e).heap[k]? = w.heap[k]? := fun k hk => by
  rw [Below.heap_setCell _ _ _ _ hk, Below.heap_setCell _ _ _ _ hk, Below.heap_setCell _ _ _ _ hk, Below.heap_setCell _ _ _ _ hk, Below.heap_setCell _ _ _ _ hk]
theorem set5_size (w : World) (R : Nat) (a b c d e : Value) : (set5 w R a b c d e).heap.size = w.heap.size := by simp [World.setCell]
theorem set5_below {B : Nat} {w0 w : World} {R : Nat} (a b c d e : Value) (h : Below B w0 w) (hR : B ≤ R) : Below B w0 (set5 w R a b c d e) :=
  ((((h.setCell hR _).setCell hR _).setCell hR _).setCell hR _).setCell hR _
theorem five_cells {w : World} {R : Nat} {y0 y1 y2 y3 y4 : Value} (h : w.heap[R]? = some (.cells #[y0, y1, y2, y3, y4] SchT (0, 0))) :
    (w.cell? ⟨R, 0, none⟩ = some y0 ∧ w.cell? ⟨R, 1, none⟩ = some y1 ∧ w.cell? ⟨R, 2, none⟩ = some y2 ∧ w.cell? ⟨R, 3, none⟩ = some y3 ∧ w.cell? ⟨R, 4, none⟩ = some y4) ∧ w.frozen? ⟨R, 0, none⟩ = false ∧ w.frozen? ⟨R, 1, none⟩ = false ∧ w.frozen? ⟨R, 2, none⟩ = false ∧ w.frozen? ⟨R, 3, none⟩ = false ∧ w.frozen? ⟨R, 4, none⟩ = false := by
  refine ⟨⟨?_, ?_, ?_, ?_, ?_⟩, ?_, ?_, ?_, ?_, ?_⟩ <;> simp [World.cell?, World.frozen?, h]
def MonoPost (w : World) (T : TT) (e : Ending) (w' : World) : Prop := ∃ A c, e = .returned (scv none 0 0 T A c) ∧ TRow w' (w.heap.size ≤ ·) A T.args ∧ Below w.heap.size w w'
set_option maxRecDepth 100000 in
set_option maxHeartbeats 2000000 in
theorem mono_any {d : Nat} {V : TT} {v : Value} {w : World} (hd : d ≤ 500) (hbg : bigT d V = false) (h : TIn w any0 V v) : Calls Tryz.prog 24 #[v] w (MonoPost w V) := by
  have hin := h
  obtain ⟨A, c, rfl, -⟩ := h
  have CL := Lib.hid (fun W (hW : Below w.heap.size w W) => own_any hd hbg (hin.later hW))
  unfold tv at CL ⊢
  obtain ⟨wB, hwB⟩ : ∃ z, z = (w.alloc (.cells #[.int .i64 V.k, .string V.nm, .int .i64 V.vr, .slice A V.args.length c] 24)).alloc (.cells #[.slice none 0 0, .int .i64 0, .string ⟨#[]⟩, .int .i64 0, .slice none 0 0] SchT) := ⟨_, rfl⟩
  have BX := two_box (w := w) (.cells #[.int .i64 V.k, .string V.nm, .int .i64 V.vr, .slice A V.args.length c] 24) (.cells #[.slice none 0 0, .int .i64 0, .string ⟨#[]⟩, .int .i64 0, .slice none 0 0] SchT)
  rw [← hwB] at BX
  have HB := Lib.hid (show Below w.heap.size w wB by rw [hwB]; exact bt (below_alloc w _) (below_alloc _ _))
  have HZ := Lib.hid (show wB.heap.size = w.heap.size + 2 by rw [hwB]; simp)
  have HX := Lib.hid BX.2
  obtain ⟨x0, x1, x2, x3⟩ := cell4 BX.1
  have HWB := Lib.hid hwB
  clear hbg hin BX hwB
  go_enter Tryz.func24, Tryz.ntmps24
  go_wp2_with fail
  rw [← HWB.out]
  try go_wp2_with fail
  refine (CL.out _ HB.out).mono ?_; rintro e w2 ⟨A2, c2, rfl, r2, b2⟩
  have hb2 : Below w.heap.size w w2 := bt HB.out b2
  have hR2 : TRow w2 (w.heap.size + 2 ≤ ·) A2 V.args := r2.weak (fun k _ h => by rw [HZ.out] at h; exact h)
  have hs2 := (b2.block (w.heap.size + 1) (by have := HZ.out; omega)).trans HX.out
  obtain ⟨⟨y0, y1, y2, y3, y4⟩, k0, k1, k2, k3, k4⟩ := five_cells hs2
  obtain ⟨t0, t1, t2, t3, t4⟩ := set5_cells (.slice none 0 0) (.int .i64 V.k) (.string V.nm) (.int .i64 V.vr) (.slice A2 V.args.length c2) hs2
  have M1 := Lib.hid (set5_below (.slice none 0 0) (.int .i64 V.k) (.string V.nm) (.int .i64 V.vr) (.slice A2 V.args.length c2) hb2 (Nat.le_succ w.heap.size))
  have M2 := Lib.hid (hR2.move (w' := set5 w2 (w.heap.size + 1) (.slice none 0 0) (.int .i64 V.k) (.string V.nm) (.int .i64 V.vr) (.slice A2 V.args.length c2)) (P' := (w.heap.size ≤ ·)) (fun k _ hp => ⟨set5_keep w2 (w.heap.size + 1) _ _ _ _ _ k (by omega), by omega⟩) (by rw [set5_size]; exact Nat.le_refl _))
  clear r2 b2 CL hb2 hR2 hs2 x0 x1 x2 x3
  unfold tv
  go_wp2
  (try simp only [Exit.inBlock, Exit.then])
  refine bodyPost_ret (by simp [results, Tryz.results24, go_sem, t0, t1, t2, t3, t4]; try rfl) rfl ?_
  exact ⟨A2, c2, rfl, M2.out, M1.out⟩
-- from Yv
open Classical in
set_option maxRecDepth 100000 in
set_option maxHeartbeats 2000000 in
theorem applyF {d : Nat} {V : TT} {v : Value} {w : World} {Pr : Nat → Prop} {B sb : Nat} {n : Int} {St : List TT} (hbg : bigT d V = false) (hg : goodT V = true) (hst : SInv St) (hS : SubS w Pr B sb n St) (h : TIn w any0 V v) : Calls Tryz.prog 33 #[.pointer (some ⟨sb, 0, none⟩), v] w (CpPost w (apvF St V)) := by
  have hin := h
  obtain ⟨rk, hr⟩ := hst.ok
  obtain ⟨A, c, rfl, hA⟩ := h
  have CG := Lib.hid (fun W (hW : Below w.heap.size w W) => good_big hbg (hin.later hW))
  have HRED := Lib.hid (show SubR w sb n St by obtain ⟨K, rv, xs, hs, _⟩ := hS; exact hs.read)
  unfold tv at CG ⊢
  obtain ⟨wB, hwB⟩ : ∃ z, z = (w.alloc (.cells #[.int .i64 V.k, .string V.nm, .int .i64 V.vr, .slice A V.args.length c] 24)).alloc (.cells #[.int .i64 0, .string ⟨#[]⟩, .int .i64 0, .slice none 0 0] 24) := ⟨_, rfl⟩
  have BX := two_box (w := w) (.cells #[.int .i64 V.k, .string V.nm, .int .i64 V.vr, .slice A V.args.length c] 24) (.cells #[.int .i64 0, .string ⟨#[]⟩, .int .i64 0, .slice none 0 0] 24)
  have BB := Lib.hid (show Below w.heap.size w wB by rw [hwB]; exact bt (below_alloc w _) (below_alloc _ _))
  have HZ := Lib.hid (show wB.heap.size = w.heap.size + 2 by rw [hwB]; simp)
  rw [← hwB] at BX
  have HX := Lib.hid BX.1
  have HY := Lib.hid BX.2
  have HWB := Lib.hid hwB
  obtain ⟨x0, x1, x2, x3⟩ := cells4 BX.1
  have HA := Lib.hid hA
  have HF := Lib.hid (fun W (hW : Below w.heap.size w W) => full_ok (n := n) (sb := sb) hr V (good_shp hg) (tv V A c) W ⟨A, c, rfl, hA.later hW⟩ (HRED.out.later hW))
  rw [hg] at CG
  obtain ⟨T, hT⟩ : ∃ T, T = apvF St V := ⟨_, rfl⟩
  rw [← hT] at HF ⊢
  unfold tv at HF
  clear BX hwB hg hT hr hA hin hS hst
  go_enter Tryz.func33, Tryz.ntmps33
  go_wp2_with fail
  rw [← HWB.out]
  go_wp2_with fail
  refine (CG.out _ BB.out).mono ?_; rintro e w1 ⟨rfl, hb1⟩
  have B1 := Lib.hid (bt BB.out hb1)
  have X1 := Lib.hid ((hb1.block w.heap.size (by have := HZ.out; omega)).trans HX.out)
  have Y1 := Lib.hid ((hb1.block (w.heap.size + 1) (by have := HZ.out; omega)).trans HY.out)
  have S1 := Lib.hid (show w.heap.size + 2 ≤ w1.heap.size by have := hb1.size; have := HZ.out; omega)
  obtain ⟨y0, y1, y2, y3⟩ := cells4 X1.out
  clear hb1 x0 x1 x2 x3 CG
  go_wp2_with fail
  refine (HF.out _ B1.out).mono ?_; rintro e w2 ⟨A2, c2, rfl, hr2, hb2⟩
  have B2 := Lib.hid (bt B1.out hb2)
  have R2 := Lib.hid hr2
  have Y2 := Lib.hid ((hb2.block (w.heap.size + 1) (by have := S1.out; omega)).trans Y1.out)
  clear hr2 hb2 HF y0 y1 y2 y3
  unfold tv
  obtain ⟨y0, y1, y2, y3⟩ := cells4 Y2.out
  obtain ⟨f0, f1, f2, f3⟩ := froz4 Y2.out
  obtain ⟨t0, t1, t2, t3⟩ := cells4 (cells_all (.int .i64 T.k) (.string T.nm) (.int .i64 T.vr) (.slice A2 T.args.length c2) Y2.out)
  have FR := Lib.hid (frm4 w2 (w.heap.size + 1) (.int .i64 T.k) (.string T.nm) (.int .i64 T.vr) (.slice A2 T.args.length c2))
  go_wp2
  (try simp only [Exit.inBlock, Exit.then])
  refine bodyPost_ret (by simp [results, Tryz.results33, go_sem, t0, t1, t2, t3]; try rfl) rfl ?_
  exact ⟨A2, c2, rfl, R2.out.move (P' := (w.heap.size ≤ ·)) (fun b hb (hp : w1.heap.size ≤ b) => ⟨FR.out.block b hb (by have := S1.out; show ¬ b = w.heap.size + 1; omega), by have := S1.out; show w.heap.size ≤ b; omega⟩) FR.out.size, B2.out.trans (FR.out.below (fun q hq => by have : q = w.heap.size + 1 := hq; omega) B2.out.size)⟩
-- from Ty
theorem take_map {f : TT → TT} {l : List TT} {k : Nat} (h : k < l.length) : (l.take (k + 1)).map f = (l.take k).map f ++ [f l[k]] := by
  rw [List.take_succ_eq_append_getElem h, List.map_append]; rfl
set_option maxRecDepth 100000 in
set_option maxHeartbeats 8000000 in
theorem ren_any : ∀ (d : Nat) (V : TT) (v : Value) (w : World) (M nn : Nat) (f : Int → Option Int), bigT d V = false → shp V = true → MN w M nn f → TIn w any0 V v →
    Calls Tryz.prog 41 #[v, .map (some M)] w (CpPost w (renT f V)) := by
  intro d
  induction d with
  | zero => intro V v w M nn f h; cases h
  | succ d ih =>
  intro V v w M nn f hbg hsh hmn ⟨A, c, hv, hA⟩
  obtain ⟨i0, hi0, hz0, hz1, hz2⟩ := info_parts infoT
  obtain ⟨hl4, -, b3⟩ := bigT_parts hbg
  subst hv
  have HI := Lib.hid ih
  have HBG := Lib.hid b3
  have hsh2 := hsh
  rw [shp_eq, Bool.and_eq_true] at hsh2
  obtain ⟨hv0, hv1, -, -, -⟩ := head_var hsh2.1
  have HSH := Lib.hid ((shpL_all _).1 hsh2.2)
  have HRV := Lib.hid (fun (y : Int) (h7 : V.k = 7) (hy : f V.vr = some y) => renT_var h7 hy)
  have HRN := Lib.hid (fun (h : ¬ (V.k = 7 ∧ (f V.vr).isSome = true)) => renT_not h)
  obtain ⟨R, hR⟩ : ∃ R, R = renT f V := ⟨_, rfl⟩
  rw [← hR] at HRV HRN ⊢
  unfold tv
  obtain ⟨args, ha⟩ : ∃ l, l = V.args := ⟨_, rfl⟩
  rw [← ha] at hA HBG hl4 HSH HRN ⊢
  have HA := Lib.hid hA
  obtain ⟨wB, hwB⟩ : ∃ z, z = (w.alloc (.cells #[.int .i64 V.k, .string V.nm, .int .i64 V.vr, .slice A args.length c] 24)).alloc (.cells #[.int .i64 0, .string ⟨#[]⟩, .int .i64 0, .slice none 0 0] 24) := ⟨_, rfl⟩
  have hba : Below w.heap.size w wB := by rw [hwB]; exact bt (below_alloc w _) (below_alloc _ _)
  have hza : wB.heap.size = w.heap.size + 2 := by rw [hwB]; simp
  have BXA := two_box (w := w) (.cells #[.int .i64 V.k, .string V.nm, .int .i64 V.vr, .slice A args.length c] 24) (.cells #[.int .i64 0, .string ⟨#[]⟩, .int .i64 0, .slice none 0 0] 24)
  rw [← hwB] at BXA
  obtain ⟨u0, u1, u2, u3⟩ := cell4 BXA.1
  obtain ⟨D, hown, hD, hhas, hat⟩ := hmn.below hba
  have HMN := Lib.hid hmn
  have hkey := Maps.keyOf_int_mk (P := Tryz.prog) Tryz.underlying3 (wf_int (show -9223372036854775808 ≤ V.vr by omega) (by omega))
  have hh := hhas V.vr
  have HAT := Lib.hid (hat V.vr)
  have HB := Lib.hid hba; have HZ := Lib.hid hza; have BX := Lib.hid BXA
  have HWB := Lib.hid hwB
  rw [hwB] at hown
  clear ih hbg b3 ha hA hba hza hsh hsh2 hmn hhas hat hD hv0 hv1 BXA hwB hR
  cases hy : f V.vr with
  | some y =>
    by_cases h7 : V.k = 7
    · have q7 : (V.k == 7) = true := by rw [h7]; rfl
      rw [hy] at hh
      change _ = true at hh
      have CLY : Hid (∀ cc : Int, D.atKey (.int .i64 V.vr) (.lit (.int .i64 0)) = .lit (.int .i64 cc) → cc = y) := Lib.hid (fun cc hcc => mn_found (HAT.out y hy) hcc)
      have HREQ := Lib.hid (HRV.out y h7 hy)
      clear hy h7 HI HBG HSH HA HAT HRV HRN
      go_enter Tryz.func41, Tryz.ntmps41
      go_wp2_with (first
        | (at_lookup; refine wpList_lookup_own_ok_int _ rfl _ _ 70 rfl TI TI .i64 law3 Tryz.underlying70 Tryz.underlying3 (zero3 _) M nn D rfl hown _ _ rfl hkey ?_; intro cL hatc hwc; rw [hh]; obtain rfl := CLY.out cL hatc; clear hatc hwc CLY)
        | fail)
      rw [← HWB.out]
      refine (variable_any _ _).mono ?_; rintro e w1 ⟨rfl, b1⟩
      have hb1 : Below w.heap.size w w1 := bt HB.out b1
      have hs1 := (b1.block (w.heap.size + 1) (by rw [HZ.out]; omega)).trans BX.out.2
      rw [show tv (varT cL) none 0 = .agg #[.int .i64 7, .string ⟨#[]⟩, .int .i64 cL, .slice none 0 0] from rfl]
      obtain ⟨⟨y0, y1, y2, y3⟩, k0, k1, k2, k3⟩ := zero_cells hs1
      obtain ⟨t0, t1, t2, t3⟩ := set4_cells (.int .i64 7) (.string ⟨#[]⟩) (.int .i64 cL) (.slice none 0 0) hs1
      have M1 := Lib.hid (set4_below (.int .i64 7) (.string ⟨#[]⟩) (.int .i64 cL) (.slice none 0 0) hb1 (Nat.le_succ w.heap.size))
      clear b1 hb1 hs1
      go_wp2
      (try simp only [Exit.inBlock, Exit.then])
      refine bodyPost_ret (by simp [results, Tryz.results41, go_sem, t0, t1, t2, t3]; try rfl) rfl ?_
      refine ⟨none, 0, ?_, .inl ?_, M1.out⟩
      · rw [HREQ.out]; rfl
      · rw [HREQ.out]; rfl
    · have q7 : (V.k == 7) = false := beq_eq_false_iff_ne.2 h7
      have HREQ := Lib.hid (HRN.out (fun h => h7 h.1))
      rw [hy] at hh
      change _ = true at hh
      clear hy h7 HAT HRV HRN
      go_enter Tryz.func41, Tryz.ntmps41
      go_wp2_with (first
        | (at_lookup; refine wpList_lookup_own_ok_int _ rfl _ _ 70 rfl TI TI .i64 law3 Tryz.underlying70 Tryz.underlying3 (zero3 _) M nn D rfl hown _ _ rfl hkey ?_; intro cL hatc hwc; rw [hh]; clear hatc hwc)
        | fail)
      rw [← HWB.out]
      go_loopw [7, 28] (fun vv i wr => ∃ (k : Nat) (v : Value) (xs : List Value), v = vv ∧ k ≤ args.length ∧ i = .int .i64 k ∧ Hid (CpS wB wr v k ((args.take k).map (renT f)) xs)) (fun _ i _ => args.length - (intOf i).toNat)
      case atStart => exact ⟨0, _, [], rfl, by omega, rfl, Lib.hid (by rw [List.take_zero]; exact cp_start wB)⟩
      case round =>
        obtain ⟨k, v, xs, rfl, hk, rfl, HS⟩ := hrel
        by_cases hlt : k < args.length
        · have hlti : (k : Int) < (args.length : Int) := by omega
          obtain ⟨b, o, rfl, hb, hr⟩ := HA.out.at (by omega)
          have hBr : Below w.heap.size w wr := bt HB.out HS.out.bel
          obtain ⟨A', c', x0, x1, x2, x3, hin⟩ := hr wr hBr k hlt
          obtain ⟨U, hU⟩ : ∃ U, U = renT f args[k] := ⟨_, rfl⟩
          have CALL : Hid (∀ W, Below wr.heap.size wr W → Calls Tryz.prog 41 #[.agg #[.int .i64 args[k].k, .string args[k].nm, .int .i64 args[k].vr, .slice A' args[k].args.length c'], .map (some M)] W (CpPost W U)) := Lib.hid (fun W hW => hU ▸ HI.out args[k] _ W M nn f (HBG.out _ (List.getElem_mem hlt)) (HSH.out _ (List.getElem_mem hlt)) ((HMN.out.below hBr).below hW) (hin.later hW))
          have HT : Hid ((args.take (k + 1)).map (renT f) = (args.take k).map (renT f) ++ [U]) := Lib.hid (hU ▸ take_map hlt)
          obtain ⟨Ar, cr, rfl⟩ := vform HS.out.own
          have hs0 := HS.out.bel.size
          clear hr hin hb HI hBr hU
          go_wp2_with fail
          refine (CALL.out _ (below_alloc wr _)).mono ?_; rintro e w2 ⟨A2, c2, rfl, hr2, hb2⟩
          have hsz1 : (wr.alloc (.cells #[.int .i64 args[k].k, .string args[k].nm, .int .i64 args[k].vr, .slice A' args[k].args.length c'] 24)).heap.size = wr.heap.size + 1 := by simp
          have B2 := Lib.hid (bt (below_alloc wr (.cells #[.int .i64 args[k].k, .string args[k].nm, .int .i64 args[k].vr, .slice A' args[k].args.length c'] 24)) hb2)
          have R2 : Hid (TRow w2 (wr.heap.size ≤ ·) A2 U.args) := Lib.hid (hr2.weak (fun b _ h => by rw [hsz1] at h; omega))
          have OW2 := Lib.hid (own_bl HS.out.own B2.out)
          have hs2 := B2.out.size
          clear hr2 hb2 CALL x0 x1 x2 x3 hsz1
          unfold tv
          go_wp2_with (at_builtin; refine wpList_append_lies _ rfl (.tmp 32) (.tmp 36) 22 rfl wB.heap.size TT24 i0 (.agg #[.int .i64 0, .string .empty, .int .i64 0, .slice none 0 0]) 4 56 Tryz.underlying22 hi0 hz0 hz1 hz2 rfl (by decide) (.slice Ar k cr) k xs rfl (OW2.out.alloc _) ⟨w2.heap.size, 0, none⟩ 1 1 (kidT U A2 c2) rfl rfl (kid_news (by have := heap_alloc_new w2 (.cells #[.int .i64 U.k, .string U.nm, .int .i64 U.vr, .slice A2 U.args.length c2] 24); simpa using this)) (kid_one _ _ _) (by omega) (by unfold maxLen; omega) (by omega) (by simp; omega) (w2.heap.size + 1) (by simp) ?_; intro g cap w4 own4 gr4 at4 hlt4)
          have ST4 : Hid (CpS wB w4 (.slice (some ⟨g, 0, none⟩) (k + 1) cap) (k + 1) ((args.take (k + 1)).map (renT f)) (xs ++ kidT U A2 c2)) := Lib.hid (by
            rw [HT.out]
            exact cp_step HS.out B2.out R2.out _ own4 gr4 (by
              rcases at4 with e | e
              · exact .inl e.symm
              · right; rw [e]; simp [Value.ownBlock]))
          clear own4 gr4 at4 OW2 R2 B2
          go_wp2
          go_roundw
          case rel => exact ⟨k + 1, _, _, rfl, by omega, by go_num, ST4⟩
          case measure => simp [intOf]; omega
        · obtain rfl : k = args.length := by omega
          have hge : ¬ (args.length : Int) < (args.length : Int) := by omega
          obtain ⟨A', c', rfl, hrow⟩ := cp_fin HS.out
          rw [List.take_length] at hrow
          have HROW := Lib.hid hrow
          have hbx : wr.heap[w.heap.size]? = some (.cells #[.int .i64 V.k, .string V.nm, .int .i64 V.vr, .slice A args.length c] 24 (0, 0)) := (HS.out.bel.block w.heap.size (by have := HZ.out; omega)).trans BX.out.1
          have hrs : wr.heap[w.heap.size + 1]? = some (.cells #[.int .i64 0, .string ⟨#[]⟩, .int .i64 0, .slice none 0 0] 24 (0, 0)) := (HS.out.bel.block (w.heap.size + 1) (by have := HZ.out; omega)).trans BX.out.2
          obtain ⟨z0, z1, z2, z3⟩ := cell4 hbx
          have y0 : wr.cell? ⟨w.heap.size + 1, 0, none⟩ = some (.int .i64 0) := by simp [World.cell?, hrs]
          have y1 : wr.cell? ⟨w.heap.size + 1, 1, none⟩ = some (.string ⟨#[]⟩) := by simp [World.cell?, hrs]
          have y2 : wr.cell? ⟨w.heap.size + 1, 2, none⟩ = some (.int .i64 0) := by simp [World.cell?, hrs]
          have y3 : wr.cell? ⟨w.heap.size + 1, 3, none⟩ = some (.slice none 0 0) := by simp [World.cell?, hrs]
          have f0 : ∀ j, wr.frozen? ⟨w.heap.size, j, none⟩ = false := fun j => by simp [World.frozen?, hbx]
          have f1 : ∀ j, wr.frozen? ⟨w.heap.size + 1, j, none⟩ = false := fun j => by simp [World.frozen?, hrs]
          have g3 := f0 3
          have k0 := f1 0; have k1 := f1 1; have k2 := f1 2; have k3 := f1 3
          have HBX := Lib.hid hbx
          have HRS := Lib.hid hrs
          clear hrow hbx hrs f0 f1
          have BWR := Lib.hid (bt HB.out (HS.out.bel.mono (by have := HZ.out; omega)))
          have SZ := HS.out.bel.size
          have hsz2 := HZ.out
          go_wp2
          obtain ⟨wf, hwf⟩ : ∃ wf, wf = (((((wr.setCell ⟨w.heap.size, 3, none⟩ (.slice A' args.length c')).setCell ⟨w.heap.size + 1, 0, none⟩ (.int .i64 V.k)).setCell ⟨w.heap.size + 1, 1, none⟩ (.string V.nm)).setCell ⟨w.heap.size + 1, 2, none⟩ (.int .i64 V.vr)).setCell ⟨w.heap.size + 1, 3, none⟩ (.slice A' args.length c')) := ⟨_, rfl⟩
          rw [← hwf]
          have hf : wf.heap[w.heap.size + 1]? = some (.cells #[.int .i64 V.k, .string V.nm, .int .i64 V.vr, .slice A' args.length c'] 24 (0, 0)) := by rw [hwf]; simp [World.setCell, Array.getElem?_modify, HRS.out]
          have HK : Hid (∀ b, wB.heap.size ≤ b → wf.heap[b]? = wr.heap[b]?) := Lib.hid (fun b hb => by
            rw [hwf, Below.heap_setCell _ _ _ _ (by show b ≠ w.heap.size + 1; omega), Below.heap_setCell _ _ _ _ (by show b ≠ w.heap.size + 1; omega), Below.heap_setCell _ _ _ _ (by show b ≠ w.heap.size + 1; omega), Below.heap_setCell _ _ _ _ (by show b ≠ w.heap.size + 1; omega), Below.heap_setCell _ _ _ _ (by show b ≠ w.heap.size; omega)])
          have HBF : Hid (Below w.heap.size w wf) := Lib.hid (by
            rw [hwf]
            exact ((((BWR.out.setCell (Nat.le_refl _) _).setCell (Nat.le_succ _) _).setCell (Nat.le_succ _) _).setCell (Nat.le_succ _) _).setCell (Nat.le_succ _) _)
          have HSZF : Hid (wf.heap.size = wr.heap.size) := Lib.hid (by rw [hwf]; simp [World.setCell])
          have t0 : wf.cell? ⟨w.heap.size + 1, 0, none⟩ = some (.int .i64 V.k) := by simp [World.cell?, hf]
          have t1 : wf.cell? ⟨w.heap.size + 1, 1, none⟩ = some (.string V.nm) := by simp [World.cell?, hf]
          have t2 : wf.cell? ⟨w.heap.size + 1, 2, none⟩ = some (.int .i64 V.vr) := by simp [World.cell?, hf]
          have t3 : wf.cell? ⟨w.heap.size + 1, 3, none⟩ = some (.slice A' args.length c') := by simp [World.cell?, hf]
          clear hf hwf y0 y1 y2 y3 z0 z1 z2 z3 g3 k0 k1 k2 k3
          (try simp only [Exit.inBlock, Exit.then])
          refine bodyPost_ret (by simp [results, Tryz.results41, go_sem, t0, t1, t2, t3]; try rfl) rfl ?_
          refine ⟨A', c', ?_, ?_, HBF.out⟩
          · rw [HREQ.out]
            show Ending.returned _ = Ending.returned (.agg #[.int .i64 V.k, .string V.nm, .int .i64 V.vr, .slice A' (args.map (renT f)).length c'])
            rw [List.length_map]
          · rw [HREQ.out]
            show TRow wf _ A' (args.map (renT f))
            exact HROW.out.move (fun b hb hp => ⟨HK.out b hp, Nat.le_trans (by omega) hp⟩) (by have := HSZF.out; omega)
  | none =>
    have HREQ := Lib.hid (HRN.out (fun h => by rw [hy] at h; exact absurd h.2 (by simp)))
    rw [hy] at hh
    change _ = false at hh
    clear hy HAT HRV HRN
    go_enter Tryz.func41, Tryz.ntmps41
    go_wp2_with (first
      | (at_lookup; refine wpList_lookup_own_ok_int _ rfl _ _ 70 rfl TI TI .i64 law3 Tryz.underlying70 Tryz.underlying3 (zero3 _) M nn D rfl hown _ _ rfl hkey ?_; intro cL hatc hwc; rw [hh]; clear hatc hwc)
      | fail)
    rw [← HWB.out]
    go_loopw [7, 28] (fun vv i wr => ∃ (k : Nat) (v : Value) (xs : List Value), v = vv ∧ k ≤ args.length ∧ i = .int .i64 k ∧ Hid (CpS wB wr v k ((args.take k).map (renT f)) xs)) (fun _ i _ => args.length - (intOf i).toNat)
    case atStart => exact ⟨0, _, [], rfl, by omega, rfl, Lib.hid (by rw [List.take_zero]; exact cp_start wB)⟩
    case round =>
      obtain ⟨k, v, xs, rfl, hk, rfl, HS⟩ := hrel
      by_cases hlt : k < args.length
      · have hlti : (k : Int) < (args.length : Int) := by omega
        obtain ⟨b, o, rfl, hb, hr⟩ := HA.out.at (by omega)
        have hBr : Below w.heap.size w wr := bt HB.out HS.out.bel
        obtain ⟨A', c', x0, x1, x2, x3, hin⟩ := hr wr hBr k hlt
        obtain ⟨U, hU⟩ : ∃ U, U = renT f args[k] := ⟨_, rfl⟩
        have CALL : Hid (∀ W, Below wr.heap.size wr W → Calls Tryz.prog 41 #[.agg #[.int .i64 args[k].k, .string args[k].nm, .int .i64 args[k].vr, .slice A' args[k].args.length c'], .map (some M)] W (CpPost W U)) := Lib.hid (fun W hW => hU ▸ HI.out args[k] _ W M nn f (HBG.out _ (List.getElem_mem hlt)) (HSH.out _ (List.getElem_mem hlt)) ((HMN.out.below hBr).below hW) (hin.later hW))
        have HT : Hid ((args.take (k + 1)).map (renT f) = (args.take k).map (renT f) ++ [U]) := Lib.hid (hU ▸ take_map hlt)
        obtain ⟨Ar, cr, rfl⟩ := vform HS.out.own
        have hs0 := HS.out.bel.size
        clear hr hin hb HI hBr hU
        go_wp2_with fail
        refine (CALL.out _ (below_alloc wr _)).mono ?_; rintro e w2 ⟨A2, c2, rfl, hr2, hb2⟩
        have hsz1 : (wr.alloc (.cells #[.int .i64 args[k].k, .string args[k].nm, .int .i64 args[k].vr, .slice A' args[k].args.length c'] 24)).heap.size = wr.heap.size + 1 := by simp
        have B2 := Lib.hid (bt (below_alloc wr (.cells #[.int .i64 args[k].k, .string args[k].nm, .int .i64 args[k].vr, .slice A' args[k].args.length c'] 24)) hb2)
        have R2 : Hid (TRow w2 (wr.heap.size ≤ ·) A2 U.args) := Lib.hid (hr2.weak (fun b _ h => by rw [hsz1] at h; omega))
        have OW2 := Lib.hid (own_bl HS.out.own B2.out)
        have hs2 := B2.out.size
        clear hr2 hb2 CALL x0 x1 x2 x3 hsz1
        unfold tv
        go_wp2_with (at_builtin; refine wpList_append_lies _ rfl (.tmp 32) (.tmp 36) 22 rfl wB.heap.size TT24 i0 (.agg #[.int .i64 0, .string .empty, .int .i64 0, .slice none 0 0]) 4 56 Tryz.underlying22 hi0 hz0 hz1 hz2 rfl (by decide) (.slice Ar k cr) k xs rfl (OW2.out.alloc _) ⟨w2.heap.size, 0, none⟩ 1 1 (kidT U A2 c2) rfl rfl (kid_news (by have := heap_alloc_new w2 (.cells #[.int .i64 U.k, .string U.nm, .int .i64 U.vr, .slice A2 U.args.length c2] 24); simpa using this)) (kid_one _ _ _) (by omega) (by unfold maxLen; omega) (by omega) (by simp; omega) (w2.heap.size + 1) (by simp) ?_; intro g cap w4 own4 gr4 at4 hlt4)
        have ST4 : Hid (CpS wB w4 (.slice (some ⟨g, 0, none⟩) (k + 1) cap) (k + 1) ((args.take (k + 1)).map (renT f)) (xs ++ kidT U A2 c2)) := Lib.hid (by
          rw [HT.out]
          exact cp_step HS.out B2.out R2.out _ own4 gr4 (by
            rcases at4 with e | e
            · exact .inl e.symm
            · right; rw [e]; simp [Value.ownBlock]))
        clear own4 gr4 at4 OW2 R2 B2
        go_wp2
        go_roundw
        case rel => exact ⟨k + 1, _, _, rfl, by omega, by go_num, ST4⟩
        case measure => simp [intOf]; omega
      · obtain rfl : k = args.length := by omega
        have hge : ¬ (args.length : Int) < (args.length : Int) := by omega
        obtain ⟨A', c', rfl, hrow⟩ := cp_fin HS.out
        rw [List.take_length] at hrow
        have HROW := Lib.hid hrow
        have hbx : wr.heap[w.heap.size]? = some (.cells #[.int .i64 V.k, .string V.nm, .int .i64 V.vr, .slice A args.length c] 24 (0, 0)) := (HS.out.bel.block w.heap.size (by have := HZ.out; omega)).trans BX.out.1
        have hrs : wr.heap[w.heap.size + 1]? = some (.cells #[.int .i64 0, .string ⟨#[]⟩, .int .i64 0, .slice none 0 0] 24 (0, 0)) := (HS.out.bel.block (w.heap.size + 1) (by have := HZ.out; omega)).trans BX.out.2
        obtain ⟨z0, z1, z2, z3⟩ := cell4 hbx
        have y0 : wr.cell? ⟨w.heap.size + 1, 0, none⟩ = some (.int .i64 0) := by simp [World.cell?, hrs]
        have y1 : wr.cell? ⟨w.heap.size + 1, 1, none⟩ = some (.string ⟨#[]⟩) := by simp [World.cell?, hrs]
        have y2 : wr.cell? ⟨w.heap.size + 1, 2, none⟩ = some (.int .i64 0) := by simp [World.cell?, hrs]
        have y3 : wr.cell? ⟨w.heap.size + 1, 3, none⟩ = some (.slice none 0 0) := by simp [World.cell?, hrs]
        have f0 : ∀ j, wr.frozen? ⟨w.heap.size, j, none⟩ = false := fun j => by simp [World.frozen?, hbx]
        have f1 : ∀ j, wr.frozen? ⟨w.heap.size + 1, j, none⟩ = false := fun j => by simp [World.frozen?, hrs]
        have g3 := f0 3
        have k0 := f1 0; have k1 := f1 1; have k2 := f1 2; have k3 := f1 3
        have HBX := Lib.hid hbx
        have HRS := Lib.hid hrs
        clear hrow hbx hrs f0 f1
        have BWR := Lib.hid (bt HB.out (HS.out.bel.mono (by have := HZ.out; omega)))
        have SZ := HS.out.bel.size
        have hsz2 := HZ.out
        go_wp2
        obtain ⟨wf, hwf⟩ : ∃ wf, wf = (((((wr.setCell ⟨w.heap.size, 3, none⟩ (.slice A' args.length c')).setCell ⟨w.heap.size + 1, 0, none⟩ (.int .i64 V.k)).setCell ⟨w.heap.size + 1, 1, none⟩ (.string V.nm)).setCell ⟨w.heap.size + 1, 2, none⟩ (.int .i64 V.vr)).setCell ⟨w.heap.size + 1, 3, none⟩ (.slice A' args.length c')) := ⟨_, rfl⟩
        rw [← hwf]
        have hf : wf.heap[w.heap.size + 1]? = some (.cells #[.int .i64 V.k, .string V.nm, .int .i64 V.vr, .slice A' args.length c'] 24 (0, 0)) := by rw [hwf]; simp [World.setCell, Array.getElem?_modify, HRS.out]
        have HK : Hid (∀ b, wB.heap.size ≤ b → wf.heap[b]? = wr.heap[b]?) := Lib.hid (fun b hb => by
          rw [hwf, Below.heap_setCell _ _ _ _ (by show b ≠ w.heap.size + 1; omega), Below.heap_setCell _ _ _ _ (by show b ≠ w.heap.size + 1; omega), Below.heap_setCell _ _ _ _ (by show b ≠ w.heap.size + 1; omega), Below.heap_setCell _ _ _ _ (by show b ≠ w.heap.size + 1; omega), Below.heap_setCell _ _ _ _ (by show b ≠ w.heap.size; omega)])
        have HBF : Hid (Below w.heap.size w wf) := Lib.hid (by
          rw [hwf]
          exact ((((BWR.out.setCell (Nat.le_refl _) _).setCell (Nat.le_succ _) _).setCell (Nat.le_succ _) _).setCell (Nat.le_succ _) _).setCell (Nat.le_succ _) _)
        have HSZF : Hid (wf.heap.size = wr.heap.size) := Lib.hid (by rw [hwf]; simp [World.setCell])
        have t0 : wf.cell? ⟨w.heap.size + 1, 0, none⟩ = some (.int .i64 V.k) := by simp [World.cell?, hf]
        have t1 : wf.cell? ⟨w.heap.size + 1, 1, none⟩ = some (.string V.nm) := by simp [World.cell?, hf]
        have t2 : wf.cell? ⟨w.heap.size + 1, 2, none⟩ = some (.int .i64 V.vr) := by simp [World.cell?, hf]
        have t3 : wf.cell? ⟨w.heap.size + 1, 3, none⟩ = some (.slice A' args.length c') := by simp [World.cell?, hf]
        clear hf hwf y0 y1 y2 y3 z0 z1 z2 z3 g3 k0 k1 k2 k3
        (try simp only [Exit.inBlock, Exit.then])
        refine bodyPost_ret (by simp [results, Tryz.results41, go_sem, t0, t1, t2, t3]; try rfl) rfl ?_
        refine ⟨A', c', ?_, ?_, HBF.out⟩
        · rw [HREQ.out]
          show Ending.returned _ = Ending.returned (.agg #[.int .i64 V.k, .string V.nm, .int .i64 V.vr, .slice A' (args.map (renT f)).length c'])
          rw [List.length_map]
        · rw [HREQ.out]
          show TRow wf _ A' (args.map (renT f))
          exact HROW.out.move (fun b hb hp => ⟨HK.out b hp, Nat.le_trans (by omega) hp⟩) (by have := HSZF.out; omega)
-- from Tz
theorem tv_in {w w' : World} {A : Option Addr} {c : Nat} {V : TT} (h : TRow w any0 A V.args) (hb : Below w.heap.size w w') : TIn w' any0 V (tv V A c) := ⟨A, c, rfl, h.later hb⟩
-- from Ua
set_option maxRecDepth 100000 in
set_option maxHeartbeats 2000000 in
theorem index_any {l : List Int} {A : Option Addr} {c : Nat} {w : World} (x : Int) (hl : l.length ≤ 1000000) (h : IRow w A l) : Calls Tryz.prog 66 #[.slice A l.length c, .int .i64 x] w fun e w' => (∃ i : Int, e = .returned (.int .i64 i) ∧ (0 ≤ i ↔ x ∈ l)) ∧ Below w.heap.size w w' := by
  have HR := Lib.hid h
  obtain ⟨N, hN⟩ : ∃ N, N = l.length := ⟨_, rfl⟩
  have HN := Lib.hid hN
  rw [← hN] at hl ⊢
  clear h hN
  go_enter Tryz.func66, Tryz.ntmps66
  go_wp2
  go_loopw [8] (fun i wr => ∃ k : Nat, k ≤ N ∧ i = .int .i64 k ∧ wr = w ∧ Hid (x ∉ l.take k)) (fun i _ => N - (intOf i).toNat)
  case atStart => exact ⟨0, by omega, by first | rfl | trivial, by first | rfl | trivial, Lib.hid (by simp)⟩
  case round =>
    obtain ⟨k, hk, rfl, rfl, HT⟩ := hrel
    by_cases hlt : k < N
    · have hlti : (k : Int) < (N : Int) := by omega
      have hlt' : k < l.length := by rw [← HN.out]; exact hlt
      obtain ⟨b, o, rfl, hb, hr⟩ : ∃ b o, A = some ⟨b, o, none⟩ ∧ b < wr.heap.size ∧ ∀ j (h : j < l.length), wr.cell? ⟨b, o + j, none⟩ = some (.int .i64 l[j]) := HR.out.resolve_left (by rw [← HN.out]; omega)
      have x0 := hr k hlt'
      by_cases hx : l[k] = x
      · have qx : (x == l[k]) = true := by rw [hx]; exact beq_self_eq_true x
        have HIN : Hid (x ∈ l) := Lib.hid (hx ▸ List.getElem_mem hlt')
        clear hr hb hx
        go_wp2
        go_ret
        exact ⟨⟨_, rfl, ⟨fun _ => HIN.out, fun _ => by omega⟩⟩, Below.refl _ _⟩
      · have qx : (x == l[k]) = false := beq_eq_false_iff_ne.2 (fun e => hx e.symm)
        have HT2 := Lib.hid (notin_take hlt' HT.out hx)
        clear hr hb hx
        go_wp2
        go_roundw
        case rel => exact ⟨k + 1, by omega, by go_num, by first | rfl | trivial, HT2⟩
        case measure => simp [intOf]; omega
    · obtain rfl : k = N := by omega
      have hge : ¬ (k : Int) < (k : Int) := by omega
      go_wp2
      go_ret
      refine ⟨⟨_, rfl, ?_⟩, Below.refl _ _⟩
      have := HT.out
      rw [HN.out, List.take_length] at this
      exact ⟨fun h => absurd h (by omega), fun h => absurd h this⟩
set_option maxRecDepth 100000 in
set_option maxHeartbeats 2000000 in
theorem contains_any {l : List Int} {A : Option Addr} {c : Nat} {w : World} (x : Int) (hl : l.length ≤ 1000000) (h : IRow w A l) : Calls Tryz.prog 43 #[.slice A l.length c, .int .i64 x] w fun e w' => e = .returned (.bool (decide (x ∈ l))) ∧ Below w.heap.size w w' := by
  have CI := Lib.hid (index_any (c := c) x hl h)
  obtain ⟨N, hN⟩ : ∃ N, N = l.length := ⟨_, rfl⟩
  obtain ⟨q, hq⟩ : ∃ q, q = decide (x ∈ l) := ⟨_, rfl⟩
  rw [← hN] at CI ⊢
  rw [← hq]
  have HQ := Lib.hid hq
  clear h hN hl hq
  go_enter Tryz.func43, Tryz.ntmps43
  go_wp2_with fail
  refine CI.out.mono ?_; rintro e w2 ⟨⟨i, rfl, hi⟩, hb⟩
  have HI := Lib.hid hi
  have HB := Lib.hid hb
  clear hi CI hb
  by_cases h0 : 0 ≤ i
  · have d0 : decide (0 ≤ i) = true := decide_eq_true h0
    have hq : q = true := by rw [HQ.out]; exact decide_eq_true (HI.out.1 h0)
    subst hq
    go_wp2
    go_ret
    exact ⟨rfl, HB.out⟩
  · have d0 : decide (0 ≤ i) = false := decide_eq_false h0
    have hq : q = false := by rw [HQ.out]; exact decide_eq_false (fun h => h0 (HI.out.2 h))
    subst hq
    go_wp2
    go_ret
    exact ⟨rfl, HB.out⟩
-- from Ub
/-- the i-th of a scheme's variables is as it may not be. -/
def badAt (vs all : List Int) (i : Nat) : Prop := (0 < i ∧ all.getD i 0 ≤ all.getD (i - 1) 0) ∨ all.getD i 0 ∉ vs
instance (vs all : List Int) (i : Nat) : Decidable (badAt vs all i) := by unfold badAt; infer_instance
def sgoodT (V : TT) (all : List Int) : Bool := goodT V && decide (∀ i, i < all.length → ¬ badAt (varsOf V) all i)
theorem sgood_no {V : TT} {all : List Int} {k : Nat} (h : k < all.length) (hb : badAt (varsOf V) all k) : sgoodT V all = false := by
  unfold sgoodT
  rw [Bool.and_eq_false_iff]
  exact .inr (decide_eq_false (fun h2 => h2 k h hb))
theorem sgood_yes {V : TT} {all : List Int} (hg : goodT V = true) (h : ∀ i, i < all.length → ¬ badAt (varsOf V) all i) : sgoodT V all = true := by
  unfold sgoodT
  rw [hg, decide_eq_true h]; rfl
set_option maxRecDepth 100000 in
set_option maxHeartbeats 4000000 in
theorem sgood_any {d : Nat} {V : TT} {all : List Int} {Al A : Option Addr} {ca c : Nat} {w : World} (hd : d ≤ 7) (hbg : bigT d V = false) (hl : all.length ≤ 10) (ha : IRow w Al all) (h : TRow w any0 A V.args) : Calls Tryz.prog 17 #[scv Al all.length ca V A c] w fun e w' => e = .returned (.bool (sgoodT V all)) ∧ Below w.heap.size w w' := by
  have CG := Lib.hid (fun W (hW : Below w.heap.size w W) => good_any hd hbg (tv_in (c := c) h hW))
  have CV := Lib.hid (fun W (hW : Below w.heap.size w W) (hsh : shp V = true) => vars_any hd hbg hsh (tv_in (c := c) h hW))
  have HBG := Lib.hid hbg
  obtain ⟨N, hN⟩ : ∃ N, N = all.length := ⟨_, rfl⟩
  have HN := Lib.hid hN
  have HAL := Lib.hid ha
  obtain ⟨ans, hans⟩ : ∃ b, b = sgoodT V all := ⟨_, rfl⟩
  rw [← hN] at hl ⊢
  rw [← hans]
  have HNS := Lib.hid hans
  unfold tv at CG CV
  unfold scv
  obtain ⟨wA, hwA⟩ : ∃ z, z = w.alloc (.cells #[.slice Al N ca, .int .i64 V.k, .string V.nm, .int .i64 V.vr, .slice A V.args.length c] SchT) := ⟨_, rfl⟩
  have HA := Lib.hid (show Below w.heap.size w wA by rw [hwA]; exact below_alloc w _)
  have hx := heap_alloc_new w (.cells #[.slice Al N ca, .int .i64 V.k, .string V.nm, .int .i64 V.vr, .slice A V.args.length c] SchT)
  rw [← hwA] at hx
  have hz : wA.heap.size = w.heap.size + 1 := by rw [hwA]; simp
  obtain ⟨⟨x0, x1, x2, x3, x4⟩, -⟩ := five_cells hx
  have HX := Lib.hid hx; have HZ := Lib.hid hz; have HWA := Lib.hid hwA
  have HG := Lib.hid (show ∀ b, b = goodT V → b = goodT V from fun _ h => h)
  cases hg : goodT V with
  | false =>
    have hf : ans = false := by rw [hans]; unfold sgoodT; rw [hg]; rfl
    subst hf
    rw [hg] at CG
    clear hbg h hwA hx hz hN ha hg hans
    go_enter Tryz.func17, Tryz.ntmps17
    go_wp2_with fail
    rw [← HWA.out]
    try go_wp2_with fail
    refine (CG.out _ HA.out).mono ?_; rintro e w1 ⟨rfl, b1⟩
    have B1 := Lib.hid (bt HA.out b1)
    clear b1
    go_wp2
    go_ret
    exact ⟨rfl, B1.out⟩
  | true =>
    have hsh : shp V = true := by have q := hg; unfold goodT at q; rw [Bool.and_eq_true] at q; exact q.2
    have HSH := Lib.hid hsh
    have HGG := Lib.hid hg
    rw [hg] at CG
    have HVL := Lib.hid (show (varsOf V).length ≤ 1000000 by have := varsT_len V []; have := small_nodes hbg hd; unfold varsOf; simp at *; omega)
    clear hbg hsh h hwA hx hz hN ha hg hans
    go_enter Tryz.func17, Tryz.ntmps17
    go_wp2_with fail
    rw [← HWA.out]
    try go_wp2_with fail
    refine (CG.out _ HA.out).mono ?_; rintro e w1 ⟨rfl, b1⟩
    have B1 := Lib.hid (bt HA.out b1)
    have hx1 := (b1.block w.heap.size (by have := HZ.out; omega)).trans HX.out
    have HX1 := Lib.hid hx1
    have q1 := b1.size
    obtain ⟨⟨y0, y1, y2, y3, y4⟩, -⟩ := five_cells hx1
    have Q1 := Lib.hid q1
    clear b1 hx1 q1 x0 x1 x2 x3 x4 CG
    go_wp2_with fail
    refine (CV.out _ B1.out HSH.out).mono ?_; rintro e w2 ⟨A2, c2, rfl, o2, b2⟩
    have B2 := Lib.hid (bt B1.out b2.out)
    have RV := Lib.hid (own_irow o2.out rfl)
    have hx2 := (b2.out.block w.heap.size (by have := Q1.out; have := HZ.out; omega)).trans HX1.out
    obtain ⟨⟨z0, z1, z2, z3, z4⟩, -⟩ := five_cells hx2
    have HX2 := Lib.hid hx2
    have Q2 := Lib.hid (show w.heap.size < w2.heap.size by have := Q1.out; have := HZ.out; have := b2.out.size; omega)
    obtain ⟨vs, hvs⟩ : ∃ vs, vs = varsOf V := ⟨_, rfl⟩
    rw [← hvs] at RV HVL ⊢
    have HVS := Lib.hid hvs
    clear o2 b2 hx2 CV y0 y1 y2 y3 y4 hvs
    go_wp2
    clear z0 z1 z2 z3 z4
    go_loopw [16] (fun i wr => ∃ k : Nat, k ≤ N ∧ i = .int .i64 k ∧ Hid (Below w2.heap.size w2 wr) ∧ Hid (∀ i, i < k → ¬ badAt vs all i)) (fun i _ => N - (intOf i).toNat)
    case atStart => exact ⟨0, by omega, by first | rfl | trivial, Lib.hid (Below.refl _ _), Lib.hid (fun i hi => by omega)⟩
    case round =>
      obtain ⟨k, hk, rfl, HB, HS⟩ := hrel
      obtain ⟨⟨z0, z1, z2, z3, z4⟩, -⟩ := five_cells ((HB.out.block w.heap.size Q2.out).trans HX2.out)
      by_cases hlt : k < N
      · have hlti : (k : Int) < (N : Int) := by omega
        have hlt' : k < all.length := by rw [← HN.out]; exact hlt
        obtain ⟨b, o, rfl, hb, hr⟩ : ∃ b o, Al = some ⟨b, o, none⟩ ∧ b < wr.heap.size ∧ ∀ j (h : j < all.length), wr.cell? ⟨b, o + j, none⟩ = some (.int .i64 all[j]) := ((HAL.out.later B2.out).later HB.out).resolve_left (by rw [← HN.out]; omega)
        have x0 := hr k hlt'
        obtain ⟨y, hy⟩ : ∃ y, y = all[k] := ⟨_, rfl⟩
        rw [← hy] at x0
        have HY := Lib.hid (show all.getD k 0 = y by rw [hy]; simp [List.getD_eq_getElem?_getD, hlt'])
        clear hy
        have CC := Lib.hid (fun W (hW : Below wr.heap.size wr W) => contains_any (c := c2) y HVL.out ((RV.out.later HB.out).later hW))
        cases k with
        | zero =>
          rw [Nat.add_zero] at x0
          clear hr hb
          have hg0 : ¬ (0 : Int) < ((0 : Nat) : Int) := by omega
          go_wp2_with fail
          refine (CC.out _ (Below.refl _ _)).mono ?_; rintro e w3 ⟨rfl, b3⟩
          have B3 := Lib.hid (bt HB.out b3)
          clear b3 CC
          by_cases hin : y ∈ vs
          · have din := decide_eq_true hin
            rw [din]
            have HSN := Lib.hid (show ∀ i, i < 0 + 1 → ¬ badAt vs all i from fun i hi => by
              by_cases he : i = 0
              · subst he
                unfold badAt
                rw [HY.out]
                rintro (⟨h1, h2⟩ | h1)
                · omega
                · exact h1 hin
              · exact HS.out i (by omega))
            clear hin din
            go_wp2
            go_roundw
            case rel => exact ⟨0 + 1, by omega, by go_num, B3, HSN⟩
            case measure => simp [intOf]; omega
          · have din := decide_eq_false hin
            rw [din]
            have hf : ans = false := by rw [HNS.out]; exact sgood_no (k := 0) hlt' (by rw [← HVS.out]; exact .inr (by rw [HY.out]; exact hin))
            subst hf
            clear hin din
            go_wp2
            go_ret
            exact ⟨rfl, bt B2.out B3.out⟩
        | succ j =>
          have x1 := hr j (by omega)
          obtain ⟨p, hp⟩ : ∃ p, p = all[j]'(by omega) := ⟨_, rfl⟩
          rw [← hp] at x1
          have HP := Lib.hid (show all.getD j 0 = p by rw [hp]; simp [List.getD_eq_getElem?_getD, show j < all.length by omega])
          clear hp
          have hg0 : (0 : Int) < ((j + 1 : Nat) : Int) := by omega
          have hw : IntKind.i64.wrap (((j + 1 : Nat) : Int) - 1) = (j : Int) := by rw [show ((j + 1 : Nat) : Int) - 1 = (j : Int) by omega]; exact IntWalk.i64_in _ (by omega)
          have hj : (j : Int) < (N : Int) := by omega
          by_cases hle : y ≤ p
          · have dle := decide_eq_true hle
            have hf : ans = false := by rw [HNS.out]; exact sgood_no (k := j + 1) hlt' (by rw [← HVS.out]; exact .inl ⟨by omega, by rw [HY.out, Nat.add_sub_cancel, HP.out]; exact hle⟩)
            subst hf
            clear hr hb
            go_wp2
            go_ret
            exact ⟨rfl, bt B2.out HB.out⟩
          · have dle := decide_eq_false hle
            clear hr hb
            go_wp2_with fail
            refine (CC.out _ (Below.refl _ _)).mono ?_; rintro e w3 ⟨rfl, b3⟩
            have B3 := Lib.hid (bt HB.out b3)
            clear b3 CC
            by_cases hin : y ∈ vs
            · have din := decide_eq_true hin
              rw [din]
              have HSN := Lib.hid (show ∀ i, i < (j + 1) + 1 → ¬ badAt vs all i from fun i hi => by
                by_cases he : i = (j + 1)
                · subst he
                  unfold badAt
                  rw [HY.out]
                  rintro (⟨h1, h2⟩ | h1)
                  · rw [Nat.add_sub_cancel, HP.out] at h2; omega
                  · exact h1 hin
                · exact HS.out i (by omega))
              clear hin din
              go_wp2
              go_roundw
              case rel => exact ⟨(j + 1) + 1, by omega, by go_num, B3, HSN⟩
              case measure => simp [intOf]; omega
            · have din := decide_eq_false hin
              rw [din]
              have hf : ans = false := by rw [HNS.out]; exact sgood_no (k := (j + 1)) hlt' (by rw [← HVS.out]; exact .inr (by rw [HY.out]; exact hin))
              subst hf
              clear hin din
              go_wp2
              go_ret
              exact ⟨rfl, bt B2.out B3.out⟩
      · obtain rfl : k = N := by omega
        have hge : ¬ (k : Int) < (k : Int) := by omega
        have hf : ans = true := by rw [HNS.out]; exact sgood_yes HGG.out (fun i hi => by rw [← HVS.out]; exact HS.out i (by rw [HN.out]; exact hi))
        subst hf
        go_wp2
        go_ret
        exact ⟨rfl, bt B2.out HB.out⟩
-- from Sg
theorem good_varT {n : Int} (h0 : 0 ≤ n) (h1 : n ≤ 1999) : goodT (varT n) = true := by
  have e : shp (varT n) = true := by
    rw [shp_eq, Bool.and_eq_true]
    exact ⟨by simp [headOk, varT, TT.k, TT.nm, TT.vr, TT.args, arT, h0, h1, emptyB], rfl⟩
  unfold goodT
  rw [e]
  rfl
theorem vars_varT (n : Int) : varsOf (varT n) = [n] := by
  unfold varsOf
  rw [varsT_eq]
  rfl
theorem ivs_take {l : List Int} {k : Nat} (h : k < l.length) : ivs (l.take (k + 1)) = ivs (l.take k) ++ [.int .i64 l[k]] := by
  rw [List.take_succ_eq_append_getElem h, ivs_app]; rfl
/-- what answers a new row of numbers. -/
def RowPost (w : World) (l : List Int) (e : Ending) (w' : World) : Prop := ∃ A c, e = .returned (.slice A l.length c) ∧ IRow w' A l ∧ Below w.heap.size w w'
-- from Sh
/-- a row of one's own is sorted: it stays one's own, and as long. -/
theorem sort_any {w : World} {B n c : Nat} {A : Option Addr} {l : List Int} (hl : l.length ≤ 100000) (h : w.ownsRow B TI 1 (.slice A n c) n (ivs l)) :
    Calls Tryz.prog 35 #[.slice A n c] w fun e w' => e = .returned (.tuple #[]) ∧ w.grownBy w' (Value.ownBlock (.slice A n c)) ∧ ∃ ts : List Int, ts.length = l.length ∧ w'.ownsRow B TI 1 (.slice A n c) n (ivs ts) := by
  have hn : n = l.length := by have := h.1; rw [ivs_len] at this; omega
  by_cases h0 : n = 0
  · subst h0
    refine (Tryz.slices_Sort_int_none A c w).mono ?_
    rintro e w' ⟨rfl, rfl⟩
    exact ⟨rfl, ⟨rfl, rfl, rfl, Nat.le_refl _, fun _ _ _ => rfl⟩, l, rfl, h⟩
  · rcases h.2 with ⟨q1, q2⟩ | ⟨g, cap, cur, q1, q2, q3, q4, q5, q6, q7⟩
    · exact absurd q2 h0
    · injection q1 with q1 _ q1c
      subst q1 q1c
      have hh := holds_of_blockI (ss := l) q3 (by rw [Nat.mul_one, hn] at q7; exact q7)
      have hS := Tryz.slices_Sort_int g 0 c l w hh (Array.getElem?_eq_some_iff.1 q3).1 (by omega)
      rw [← hn] at hS
      refine hS.mono ?_
      rintro e w' ⟨rfl, m, os, rfl⟩
      refine ⟨rfl, grownBy_sortedI _, l.mergeSort fun x y => decide (x ≤ y), by simp, ?_⟩
      have := ownsRow_sortedI (w := w) (n := m) (os := os) (ss := l) (ts := l.mergeSort fun x y => decide (x ≤ y)) (by simp) q2 q3 (by omega) q5 q6
      rw [← hn] at this
      exact this
set_option maxRecDepth 100000 in
set_option maxHeartbeats 2000000 in
theorem sshow_any {V : TT} {Al A : Option Addr} {m ca c : Nat} {w : World} (hbg : bigT 7 V = false) (hsh : shp V = true) (h : TRow w any0 A V.args) :
    Calls Tryz.prog 22 #[scv Al m ca V A c] w fun e w' => e = .returned (.string (showT V)) ∧ Below w.heap.size w w' := by
  have CS := Lib.hid (fun W (hW : Below w.heap.size w W) => show_any hbg hsh (tv_in (c := c) h hW))
  obtain ⟨T, hT⟩ : ∃ T, T = showT V := ⟨_, rfl⟩
  rw [← hT] at CS ⊢
  unfold tv at CS
  unfold scv
  have HB := Lib.hid (below_alloc w (.cells #[.slice Al m ca, .int .i64 V.k, .string V.nm, .int .i64 V.vr, .slice A V.args.length c] SchT))
  clear hbg hsh h hT
  go_enter Tryz.func22, Tryz.ntmps22
  go_wp2_with fail
  refine (CS.out _ HB.out).mono ?_; rintro e w1 ⟨rfl, b1⟩
  have B1 := Lib.hid (bt HB.out b1)
  clear b1
  go_wp2
  go_ret
  exact ⟨rfl, B1.out⟩
-- from Rb
/-- a row of one's own is sorted: it stays one's own, and as long. -/
theorem sort_gen {w : World} {B n c : Nat} {A : Option Addr} {l : List Int} (hl : l.length ≤ 100000) (h : w.ownsRow B TI 1 (.slice A n c) n (ivs l)) :
    Calls Tryz.prog 35 #[.slice A n c] w fun e w' => e = .returned (.tuple #[]) ∧ w.grownBy w' (Value.ownBlock (.slice A n c)) ∧ w'.ownsRow B TI 1 (.slice A n c) n (ivs (l.mergeSort fun x y => decide (x ≤ y))) := by
  have hn : n = l.length := by have := h.1; rw [ivs_len] at this; omega
  by_cases h0 : n = 0
  · subst h0
    refine (Tryz.slices_Sort_int_none A c w).mono ?_
    rintro e w' ⟨rfl, rfl⟩
    have hl0 : l = [] := List.length_eq_zero_iff.1 (by omega)
    subst hl0
    refine ⟨rfl, ⟨rfl, rfl, rfl, Nat.le_refl _, fun _ _ _ => rfl⟩, ?_⟩
    rw [List.mergeSort_nil]; exact h
  · rcases h.2 with ⟨q1, q2⟩ | ⟨g, cap, cur, q1, q2, q3, q4, q5, q6, q7⟩
    · exact absurd q2 h0
    · injection q1 with q1 _ q1c
      subst q1 q1c
      have hh := holds_of_blockI (ss := l) q3 (by rw [Nat.mul_one, hn] at q7; exact q7)
      have hS := Tryz.slices_Sort_int g 0 c l w hh (Array.getElem?_eq_some_iff.1 q3).1 (by omega)
      rw [← hn] at hS
      refine hS.mono ?_
      rintro e w' ⟨rfl, m, os, rfl⟩
      refine ⟨rfl, grownBy_sortedI _, ?_⟩
      have := ownsRow_sortedI (w := w) (n := m) (os := os) (ss := l) (ts := l.mergeSort fun x y => decide (x ≤ y)) (by simp) q2 q3 (by omega) q5 q6
      rw [← hn] at this
      exact this
/-- what stands in a row once. -/
theorem addV_nodup {l : List Int} {x : Int} (h : l.Nodup) : (addV l x).Nodup := by
  unfold addV; split
  · exact h
  · rename_i hx
    rw [List.nodup_append]
    exact ⟨h, by simp, fun a ha b hb e => hx (by rw [List.mem_singleton] at hb; subst hb; exact e ▸ ha)⟩
mutual
theorem varsT_nodup : ∀ (V : TT) (l : List Int), l.Nodup → (varsT V l).Nodup
  | .mk k nm vr args, l, h => by
    rw [varsT_eq]
    refine varsL_nodup args _ ?_
    show (if k = 7 then addV l vr else l).Nodup
    split
    · exact addV_nodup h
    · exact h
theorem varsL_nodup : ∀ (args : List TT) (l : List Int), l.Nodup → (varsL args l).Nodup
  | [], l, h => by rw [varsL]; exact h
  | a :: r, l, h => by rw [varsL]; exact varsL_nodup r _ (varsT_nodup a l h)
end
/-- the variables that are not taken, in order. -/
def freeS (V : TT) (tk : List Int) : List Int := ((varsOf V).filter fun x => decide (x ∉ tk)).mergeSort fun x y => decide (x ≤ y)
theorem freeS_perm (V : TT) (tk : List Int) : (freeS V tk).Perm ((varsOf V).filter fun x => decide (x ∉ tk)) := List.mergeSort_perm _ _
theorem freeS_mem {V : TT} {tk : List Int} {x : Int} : x ∈ freeS V tk ↔ x ∈ varsOf V ∧ x ∉ tk := by
  rw [(freeS_perm V tk).mem_iff, List.mem_filter, decide_eq_true_eq]
theorem freeS_len (V : TT) (tk : List Int) : (freeS V tk).length ≤ (varsOf V).length := by
  rw [(freeS_perm V tk).length_eq]; exact List.length_filter_le _ _
theorem freeS_lt (V : TT) (tk : List Int) : (freeS V tk).Pairwise (· < ·) := by
  have h1 : (freeS V tk).Pairwise (fun x y => decide (x ≤ y) = true) := List.pairwise_mergeSort (le := fun x y : Int => decide (x ≤ y)) (fun a b c h1 h2 => by simp at *; omega) (fun a b => by simp; omega) _
  have h2 : (freeS V tk).Nodup := (freeS_perm V tk).nodup_iff.2 ((varsT_nodup V [] (by simp)).filter _)
  exact (h1.and h2).imp fun ⟨a, b⟩ => by have := of_decide_eq_true a; omega
-- from Rc
/-- a row of schemes. -/
def SRow (w : World) (A : Option Addr) (E : List (List Int × TT)) : Prop := E.length = 0 ∨ ∃ b o, A = some ⟨b, o, none⟩ ∧ b < w.heap.size ∧ ∀ i (h : i < E.length), ∃ Al ca A' c', w.cell? ⟨b, o + i * 5, none⟩ = some (.slice Al E[i].1.length ca) ∧ w.cell? ⟨b, o + i * 5 + 1, none⟩ = some (.int .i64 E[i].2.k) ∧ w.cell? ⟨b, o + i * 5 + 2, none⟩ = some (.string E[i].2.nm) ∧ w.cell? ⟨b, o + i * 5 + 3, none⟩ = some (.int .i64 E[i].2.vr) ∧ w.cell? ⟨b, o + i * 5 + 4, none⟩ = some (.slice A' E[i].2.args.length c') ∧ IRow w Al E[i].1 ∧ TRow w any0 A' E[i].2.args
theorem SRow.later {w w' : World} {A : Option Addr} {E : List (List Int × TT)} (h : SRow w A E) (hb : Below w.heap.size w w') : SRow w' A E := by
  rcases h with h | ⟨b, o, h1, h2, h3⟩
  · exact .inl h
  · refine .inr ⟨b, o, h1, Nat.lt_of_lt_of_le h2 hb.size, fun i hi => ?_⟩
    obtain ⟨Al, ca, A', c', q0, q1, q2, q3, q4, q5, q6⟩ := h3 i hi
    exact ⟨Al, ca, A', c', (hb.cell (p := ⟨b, _, none⟩) h2).trans q0, (hb.cell (p := ⟨b, _, none⟩) h2).trans q1, (hb.cell (p := ⟨b, _, none⟩) h2).trans q2, (hb.cell (p := ⟨b, _, none⟩) h2).trans q3, (hb.cell (p := ⟨b, _, none⟩) h2).trans q4, q5.later hb, q6.later hb⟩
theorem set5_frm (w : World) (R : Nat) (a b c d e : Value) : Frm w (set5 w R a b c d e) (· = R) :=
  (frm_set (R := (· = R)) 0 a rfl).trans ((frm_set (R := (· = R)) 1 b rfl).trans ((frm_set (R := (· = R)) 2 c rfl).trans ((frm_set (R := (· = R)) 3 d rfl).trans (frm_set (R := (· = R)) 4 e rfl))))
theorem filter_take {p : Int → Bool} {l : List Int} {k : Nat} (h : k < l.length) : (l.take (k + 1)).filter p = (l.take k).filter p ++ (if p l[k] then [l[k]] else []) := by
  rw [List.take_succ_eq_append_getElem h, List.filter_append]
  congr 1
  simp only [List.filter_cons, List.filter_nil]
def flt (tk vs : List Int) (k : Nat) : List Int := (vs.take k).filter fun x => decide (x ∉ tk)
theorem flt_no {tk vs : List Int} {k : Nat} (h : k < vs.length) (hin : vs[k] ∈ tk) : flt tk vs (k + 1) = flt tk vs k := by
  unfold flt; rw [filter_take h, if_neg (by simp [hin]), List.append_nil]
theorem flt_yes {tk vs : List Int} {k : Nat} (h : k < vs.length) (hin : vs[k] ∉ tk) : ivs (flt tk vs (k + 1)) = ivs (flt tk vs k) ++ [.int .i64 vs[k]] := by
  unfold flt; rw [filter_take h, if_pos (by simp [hin]), ivs_app]; rfl
-- from Ud
theorem plain_i64 (y : Int) (h0 : 0 ≤ y) (h1 : y ≤ 1999) : plainElem (H := Unit) Tryz.prog TI (.int .i64 y) = some (.lit (.int .i64 y), []) := plainElem_int Tryz.underlying3 (wf_int (by omega) (by omega))
theorem mn_step {w' : World} {M k : Nat} {f : Int → Option Int} {D : DataW Unit} {x y : Int} (hD : Maps.IsMap D) (h1 : ∀ z, Maps.has D (.int .i64 z) = (f z).isSome) (h2 : ∀ z u, f z = some u → D.atKey (.int .i64 z) (.lit (.int .i64 0)) = .lit (.int .i64 u))
    (h : w'.ownsMap Tryz.prog TI (plainElem Tryz.prog TI) M (k + 1) (D.put (.int .i64 x) (.lit (.int .i64 y)))) : MN w' M (k + 1) (putF f x y) := by
  obtain ⟨a, b, c⟩ := mn_put x y hD h1 h2
  exact ⟨_, h, a, b, c⟩
theorem good_all {V : TT} {all : List Int} (h : sgoodT V all = true) : goodT V = true ∧ ∀ i (h : i < all.length), all[i] ∈ varsOf V := by
  unfold sgoodT at h
  rw [Bool.and_eq_true, decide_eq_true_eq] at h
  refine ⟨h.1, fun i hi => ?_⟩
  have := h.2 i hi
  unfold badAt at this
  simp only [not_or, Decidable.not_not] at this
  have e : all.getD i 0 = all[i] := by simp [List.getD_eq_getElem?_getD, hi]
  rw [e] at this
  exact this.2
mutual
theorem vars_in : ∀ (V : TT) (l : List Int), shp V = true → (∀ x ∈ l, 0 ≤ x ∧ x ≤ 1999) → ∀ x ∈ varsT V l, 0 ≤ x ∧ x ≤ 1999
  | .mk k nm vr args, l, h, hl, x, hx => by
    rw [varsT_eq] at hx
    rw [shp_eq, Bool.and_eq_true] at h
    have hv := head_var h.1
    refine varsL_in args _ h.2 (fun y hy => ?_) x hx
    revert hy
    show y ∈ (if k = 7 then addV l vr else l) → _
    intro hy
    split at hy
    · unfold addV at hy
      split at hy
      · exact hl y hy
      · rcases List.mem_append.1 hy with h2 | h2
        · exact hl y h2
        · rw [List.mem_singleton] at h2; subst h2; exact ⟨hv.1, hv.2.1⟩
    · exact hl y hy
theorem varsL_in : ∀ (args : List TT) (l : List Int), shpL args = true → (∀ x ∈ l, 0 ≤ x ∧ x ≤ 1999) → ∀ x ∈ varsL args l, 0 ≤ x ∧ x ≤ 1999
  | [], l, _, hl, x, hx => by rw [varsL] at hx; exact hl x hx
  | a :: r, l, h, hl, x, hx => by
    rw [varsL] at hx
    rw [shpL, Bool.and_eq_true] at h
    exact varsL_in r _ h.2 (fun y hy => vars_in a l h.1 hl y hy) x hx
end
-- from Uc
/-- a renamed type is as small. -/
theorem big_ren (f : Int → Option Int) : ∀ (d : Nat) (V : TT), bigT d V = false → bigT d (renT f V) = false
  | 0, V, h => by cases h
  | d + 1, V, h => by
    obtain ⟨h1, h2, h3⟩ := bigT_parts h
    by_cases hc : V.k = 7 ∧ (f V.vr).isSome = true
    · obtain ⟨y, hy⟩ := Option.isSome_iff_exists.1 hc.2
      rw [renT_var hc.1 hy]; rfl
    · rw [renT_not hc]
      have e : bigT (d + 1) (TT.mk V.k V.nm V.vr (V.args.map (renT f))) = (decide (4 < (V.args.map (renT f)).length) || decide (60 < V.nm.size) || (V.args.map (renT f)).any (bigT d)) := rfl
      rw [e, List.length_map, decide_eq_false (by omega : ¬ 4 < V.args.length), decide_eq_false (by omega : ¬ 60 < V.nm.size)]
      simp only [Bool.or_self, Bool.false_or]
      rw [List.any_eq_false]
      intro a ha
      obtain ⟨b, hb, rfl⟩ := List.mem_map.1 ha
      rw [big_ren f d b (h3 b hb)]
      simp
-- from Rd
mutual
theorem cnt_ren (f : Int → Option Int) : ∀ (V : TT) (m : Int), shp V = true → cnt (renT f V) m = cnt V m
  | .mk k nm vr args, m, h => by
    by_cases hc : k = 7 ∧ (f vr).isSome = true
    · obtain ⟨ha, hn⟩ := shp_var h hc.1
      have ha : args = [] := ha
      obtain ⟨y, hy⟩ := Option.isSome_iff_exists.1 hc.2
      rw [renT_var (V := .mk k nm vr args) hc.1 hy, cnt_eq, cnt_eq]
      show cntTL [] 1 m = cntTL args 1 m
      rw [ha]
    · rw [renT_not (V := .mk k nm vr args) hc, cnt_eq, cnt_eq]
      rw [shp_eq, Bool.and_eq_true] at h
      exact cntL_ren f args 1 m h.2
theorem cntL_ren (f : Int → Option Int) : ∀ (l : List TT) (n m : Int), shpL l = true → cntTL (l.map (renT f)) n m = cntTL l n m
  | [], n, m, _ => rfl
  | a :: r, n, m, h => by
    rw [shpL, Bool.and_eq_true] at h
    rw [List.map_cons, cntTL, cntTL, cnt_ren f a _ h.1, cntL_ren f r _ _ h.2]
end
mutual
theorem shp_ren {f : Int → Option Int} (hf : ∀ x y, f x = some y → 0 ≤ y ∧ y ≤ 1999) : ∀ V : TT, shp V = true → shp (renT f V) = true
  | .mk k nm vr args, h => by
    by_cases hc : k = 7 ∧ (f vr).isSome = true
    · obtain ⟨y, hy⟩ := Option.isSome_iff_exists.1 hc.2
      rw [renT_var (V := .mk k nm vr args) hc.1 hy]
      have := good_varT (hf vr y hy).1 (hf vr y hy).2
      unfold goodT at this; rw [Bool.and_eq_true] at this; exact this.2
    · rw [renT_not (V := .mk k nm vr args) hc]
      rw [shp_eq, Bool.and_eq_true] at h ⊢
      refine ⟨?_, shpL_ren hf args h.2⟩
      have h1 := h.1
      unfold headOk at h1 ⊢
      simp only [TT.k, TT.nm, TT.vr, TT.args, List.length_map] at h1 ⊢
      exact h1
theorem shpL_ren {f : Int → Option Int} (hf : ∀ x y, f x = some y → 0 ≤ y ∧ y ≤ 1999) : ∀ l : List TT, shpL l = true → shpL (l.map (renT f)) = true
  | [], _ => rfl
  | a :: r, h => by
    rw [shpL, Bool.and_eq_true] at h
    rw [List.map_cons, shpL, shp_ren hf a h.1, shpL_ren hf r h.2]; rfl
end
theorem good_ren {f : Int → Option Int} (hf : ∀ x y, f x = some y → 0 ≤ y ∧ y ≤ 1999) {V : TT} (h : goodT V = true) : goodT (renT f V) = true := by
  unfold goodT at h ⊢
  rw [Bool.and_eq_true] at h ⊢
  refine ⟨?_, shp_ren hf V h.2⟩
  have e : sizeT (renT f V) = sizeT V := by unfold sizeT; rw [cnt_ren f V _ h.2]
  rw [e]; exact h.1
/-- those in a row have become n, n + 1, ... -/
def FOk (f : Int → Option Int) (l : List Int) (n : Int) (k : Nat) : Prop := (∀ x, (f x).isSome = true ↔ x ∈ l) ∧ (∀ x y, f x = some y → n ≤ y ∧ y < n + k) ∧ ∀ x x' y, f x = some y → f x' = some y → x = x'
theorem FOk.step {f : Int → Option Int} {l : List Int} {n x : Int} {k : Nat} (h : FOk f l n k) : FOk (putF f x (n + k)) (l ++ [x]) n (k + 1) := by
  obtain ⟨h1, h2, h3⟩ := h
  refine ⟨fun z => ?_, fun z y hz => ?_, fun z z' y hz hz' => ?_⟩
  · unfold putF
    rw [List.mem_append, List.mem_singleton]
    by_cases e : z = x
    · rw [if_pos e]; simp [e]
    · rw [if_neg e, h1 z]; simp [e]
  · unfold putF at hz
    split at hz
    · injection hz with hz; omega
    · have := h2 z y hz; omega
  · unfold putF at hz hz'
    split at hz <;> split at hz'
    · rename_i a b; rw [a, b]
    · injection hz with hz; have := h2 z' y hz'; omega
    · injection hz' with hz'; have := h2 z y hz; omega
    · exact h3 z z' y hz hz'
theorem fok_nil (l : List Int) (n : Int) : FOk (fun _ => none) (l.take 0) n 0 := ⟨fun x => by simp, fun _ _ h => (by cases h), fun _ _ _ h => (by cases h)⟩
theorem set4_frm (w : World) (R : Nat) (a b c d : Value) : Frm w (set4 w R a b c d) (· = R) :=
  (frm_set (R := (· = R)) 0 a rfl).trans ((frm_set (R := (· = R)) 1 b rfl).trans ((frm_set (R := (· = R)) 2 c rfl).trans (frm_set (R := (· = R)) 3 d rfl)))
theorem take_snoc {l : List Int} {k : Nat} (h : k < l.length) : l.take (k + 1) = l.take k ++ [l[k]] := List.take_succ_eq_append_getElem h
end Go.Proofs.YtifopogkbjhkjaaGreatDoor
