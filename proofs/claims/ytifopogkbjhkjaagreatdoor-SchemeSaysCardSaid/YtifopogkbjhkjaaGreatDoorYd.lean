import Derived.Test.YtifopogkbjhkjaaGreatDoorYb
namespace Go.Proofs.YtifopogkbjhkjaaGreatDoor
open Go.ChangeShapes Go.WideShapes Go.ChangeAt Go.RowKit Go.WideMaps
set_option linter.unusedVariables false
set_option linter.unusedSimpArgs false
theorem res_fun {St : List TT} {t T T' : TT} (h : Res St t T) (h' : Res St t T') : T = T' := by
  induction h with
  | stop hb => cases h' with
    | stop _ => rfl
    | step hb' _ => exact absurd hb' hb
  | step hb _ ih => cases h' with
    | stop hb' => exact absurd hb hb'
    | step _ h' => exact ih h'
theorem res_stop {St : List TT} {t T : TT} (h : Res St t T) : ¬ bnd St T := by
  induction h with
  | stop hb => exact hb
  | step _ _ ih => exact ih
theorem res_shp {St : List TT} {rk : Int → Nat} (hst : StOk St rk) {t T : TT} (h : Res St t T) (hs : shp t = true) : shp T = true := by
  induction h with
  | stop hb => exact hs
  | step hb _ ih => exact ih (hst.shp _ hb.2)
theorem res_rk {St : List TT} {rk : Int → Nat} (hst : StOk St rk) {t T : TT} (h : Res St t T) : rkT rk T ≤ rkT rk t := by
  induction h with
  | stop hb => exact Nat.le_refl _
  | step hb _ ih => exact Nat.le_trans ih (Nat.le_of_lt (rk_step hst hb))
theorem res_ex {St : List TT} {rk : Int → Nat} (hst : StOk St rk) : ∀ (n : Nat) (t : TT), rkT rk t < n → ∃ T, Res St t T := by
  intro n
  induction n with
  | zero => intro t h; omega
  | succ n ih =>
    intro t h
    by_cases hb : bnd St t
    · obtain ⟨T, hT⟩ := ih (stA St t.vr) (by have := rk_step hst hb; omega)
      exact ⟨T, .step hb hT⟩
    · exact ⟨t, .stop hb⟩
open Classical in
/-- what is left of a type when its variable is followed. -/
noncomputable def resF (St : List TT) (t : TT) : TT := if h : ∃ T, Res St t T then Classical.choose h else t
theorem resF_res {St : List TT} {rk : Int → Nat} (hst : StOk St rk) (t : TT) : Res St t (resF St t) := by
  have h := res_ex hst _ t (Nat.lt_succ_self _)
  unfold resF
  rw [dif_pos h]
  exact Classical.choose_spec h
theorem shp_head {V : TT} (h : shp V = true) : 0 ≤ V.vr ∧ V.args.length ≤ 2 ∧ ∀ a ∈ V.args, shp a = true := by
  rw [shp_eq, Bool.and_eq_true] at h
  have hh := head_var h.1
  refine ⟨hh.1, ?_, (shpL_all _).1 h.2⟩
  have h5 := hh.2.2.2.2
  unfold arT at h5
  split at h5
  · omega
  · split at h5 <;> omega
theorem resolve_ok {P : Nat → Prop} {St : List TT} {rk : Int → Nat} (hst : StOk St rk) {V : TT} {A : Option Addr} {c sb : Nat} {n : Int} {w : World} (hsh : shp V = true) (hV : TRow w P A V.args) (hs : SubP w P sb n St) :
    Calls Tryz.prog 47 #[.pointer (some ⟨sb, 0, none⟩), tv V A c] w fun e w' => ∃ A' c', e = .returned (tv (resF St V) A' c') ∧ TRow w P A' (resF St V).args ∧ Below w.heap.size w w' := by
  refine (resolve_any (m := rkT rk) (fun t ht => rk_step hst ht) (fun t ht _ => (shp_head (hst.shp _ ht.2)).1) (fun _ => (shp_head hsh).1) hV hs).mono ?_
  rintro e w' ⟨T, A', c', rfl, hr, hT, -, hb⟩
  obtain rfl := res_fun hT (resF_res hst V)
  exact ⟨A', c', rfl, hr, hb⟩
/-- the arguments' nodes, until there are more than m. -/
def cnuL (f : TT → Int → Int) : List TT → Int → Int → Int
  | [], n, _ => n
  | a :: r, n, m => if m < n then n else cnuL f r (n + f a (m - n)) m
/-- the nodes of a type, R followed at each, until there are more than m (below the fuel). -/
def cntR (R : TT → TT) : Nat → TT → Int → Int
  | 0, _, _ => 1
  | d + 1, t, m => cnuL (cntR R d) (R t).args 1 m
theorem cntL_le {f : TT → Int → Int} (hf : ∀ a k, 0 ≤ k → 1 ≤ f a k ∧ f a k ≤ k + 1) : ∀ (l : List TT) (n m : Int), 0 ≤ m → n ≤ m + 1 → n ≤ cnuL f l n m ∧ cnuL f l n m ≤ m + 1
  | [], n, m, _, h => by rw [cnuL]; omega
  | a :: r, n, m, h0, h => by
    rw [cnuL]
    split
    · omega
    · have h1 := hf a (m - n) (by omega)
      have h2 := cntL_le hf r (n + f a (m - n)) m h0 (by omega)
      omega
theorem cntR_le (R : TT → TT) : ∀ (d : Nat) (t : TT) (m : Int), 0 ≤ m → 1 ≤ cntR R d t m ∧ cntR R d t m ≤ m + 1
  | 0, t, m, h => by rw [cntR]; omega
  | d + 1, t, m, h => by rw [cntR]; exact cntL_le (fun a k hk => cntR_le R d a k hk) _ 1 m h (by omega)
/-- a field of a struct by value. -/
theorem field_args (x0 x1 x2 x3 : Value) (w : World) : Sem.run Tryz.prog (Instr.field 24 (.agg #[x0, x1, x2, x3]) 3) w = .ok x3 w := by
  simp [Instr.field, run_underlying Tryz.underlying24, asAgg, part, isAgg, run_underlying Tryz.underlying22]
def CoJ (f : TT → Int → Int) (w : World) (args : List TT) (most : Int) (n i : Value) (wr : World) : Prop := ∃ (k : Nat) (q : Int), k ≤ args.length ∧ i = .int .i64 k ∧ n = .int .i64 q ∧ 1 ≤ q ∧ q ≤ 1001 ∧ Hid (q ≤ most + 1 ∧ cnuL f args 1 most = cnuL f (args.drop k) q most) ∧ Hid (Below w.heap.size w wr)
set_option maxRecDepth 100000 in
set_option maxHeartbeats 4000000 in
theorem count_ok {St : List TT} {rk : Int → Nat} (hst : StOk St rk) {sb : Nat} {n : Int} : ∀ (d : Nat) (V : TT) (v : Value) (most : Int) (w : World), most < d → 0 ≤ most → most ≤ 1000 → shp V = true → TIn w any0 V v → SubR w sb n St → Calls Tryz.prog 48 #[.pointer (some ⟨sb, 0, none⟩), v, .int .i64 most] w fun e w' => e = .returned (.int .i64 (cntR (resF St) d V most)) ∧ Below w.heap.size w w' := by
  intro d
  induction d with
  | zero => intro V v most w h1 h2; omega
  | succ d ih =>
    intro V v most w hd hm0 hm1 hsh ⟨A, c, hv, hA⟩ hs
    subst hv
    obtain ⟨f, hf⟩ : ∃ f, f = cntR (resF St) d := ⟨_, rfl⟩
    have HLE := Lib.hid (show ∀ a k, 0 ≤ k → 1 ≤ f a k ∧ f a k ≤ k + 1 by rw [hf]; exact cntR_le (resF St) d)
    rw [← hf] at ih
    have HI := Lib.hid ih
    have RS := Lib.hid (fun W (hW : Below w.heap.size w W) => resolve_ok hst (c := c) hsh (hA.later hW) (hs.later hW))
    have HSH := Lib.hid (shp_head (res_shp hst (resF_res hst V) hsh)).2.2
    have hl2 := (shp_head (res_shp hst (resF_res hst V) hsh)).2.1
    have GO : cntR (resF St) (d + 1) V most = cnuL f (resF St V).args 1 most := by rw [cntR, hf]
    rw [GO]
    obtain ⟨T, hT⟩ : ∃ T, T = resF St V := ⟨_, rfl⟩
    rw [← hT] at RS HSH hl2 ⊢
    have HS := Lib.hid hs
    have HD := Lib.hid hd
    clear ih hf GO hT hs hA hd hsh
    unfold tv at RS ⊢
    have B0 := Lib.hid (below_alloc w (.cells #[.int .i64 V.k, .string V.nm, .int .i64 V.vr, .slice A V.args.length c] 24))
    have FA := field_args
    go_enter Tryz.func48, Tryz.ntmps48
    go_wp2_with fail
    refine (RS.out _ B0.out).mono ?_; rintro e w1 ⟨A1, c1, rfl, hr1, hb1⟩
    obtain ⟨args, ha⟩ : ∃ l, l = T.args := ⟨_, rfl⟩
    have HAR := Lib.hid ha
    have HA := Lib.hid (hr1.later hb1)
    have B1 := Lib.hid (bt B0.out hb1)
    rw [← ha] at HA HSH hl2 ⊢
    have ST := Lib.hid (Below.refl w1.heap.size w1)
    clear hr1 hb1 RS ha
    go_wp2
    go_loopw [7, 15] (fun n i wr => CoJ f w1 args most n i wr) (fun _ i _ => args.length - (intOf i).toNat)
    case atStart => exact ⟨0, 1, by omega, rfl, rfl, by omega, by omega, Lib.hid ⟨by omega, rfl⟩, ST⟩
    case round =>
      obtain ⟨k, q, hk, rfl, rfl, hq1, hq2, HQ, HW⟩ := hrel
      by_cases hlt : k < args.length
      · have hlti : (k : Int) < (args.length : Int) := by omega
        obtain ⟨b, o, rfl, hb, hr⟩ := HA.out.at (by omega)
        obtain ⟨A', c', x0, x1, x2, x3, hin⟩ := hr wr HW.out k hlt
        have HDROP : Hid (args.drop k = args[k] :: args.drop (k + 1)) := Lib.hid (List.drop_eq_getElem_cons hlt)
        by_cases hbr : most < q
        · have dq := decide_eq_true hbr
          have RES : Hid (cnuL f T.args 1 most = q) := Lib.hid (by rw [← HAR.out, HQ.out.2, HDROP.out, cnuL, if_pos hbr])
          have HW2 := Lib.hid (bt B1.out (bt HW.out (below_alloc wr (.cells #[.int .i64 args[k].k, .string args[k].nm, .int .i64 args[k].vr, .slice A' args[k].args.length c'] 24))))
          clear hr hin hb HI
          go_wp2
          go_ret
          exact ⟨by rw [RES.out]; rfl, HW2.out⟩
        · have dq := decide_eq_false hbr
          have hcl := HLE.out args[k] (most - q) (by omega)
          have CALL : Hid (∀ W, Below wr.heap.size wr W → Calls Tryz.prog 48 #[.pointer (some ⟨sb, 0, none⟩), .agg #[.int .i64 args[k].k, .string args[k].nm, .int .i64 args[k].vr, .slice A' args[k].args.length c'], .int .i64 (most - q)] W fun e w' => e = .returned (.int .i64 (f args[k] (most - q))) ∧ Below W.heap.size W w') := Lib.hid (fun W hW => HI.out args[k] _ (most - q) W (by have := HD.out; omega) (by omega) (by omega) (HSH.out _ (List.getElem_mem hlt)) (hin.later hW) (HS.out.later (bt B1.out (bt HW.out hW))))
          obtain ⟨C, hC⟩ : ∃ z, z = f args[k] (most - q) := ⟨_, rfl⟩
          rw [← hC] at CALL hcl
          have NX : Hid (q + C ≤ most + 1 ∧ cnuL f args 1 most = cnuL f (args.drop (k + 1)) (q + C) most) := Lib.hid ⟨by omega, by rw [HQ.out.2, HDROP.out, cnuL, if_neg hbr, ← hC]⟩
          have hs1 : 1 ≤ q + C := by omega
          have hs2 : q + C ≤ 1001 := by omega
          have hm9 : 0 ≤ most - q := by omega
          clear hr hin hb HI HQ hC
          go_wp2_with fail
          refine (CALL.out _ (below_alloc wr _)).mono ?_; rintro e w2 ⟨rfl, hb2⟩
          have HW1 := Lib.hid (bt HW.out (bt (below_alloc wr (.cells #[.int .i64 args[k].k, .string args[k].nm, .int .i64 args[k].vr, .slice A' args[k].args.length c'] 24)) hb2))
          clear hb2 CALL x0 x1 x2 x3
          go_wp2
          go_roundw
          case rel => exact ⟨k + 1, q + C, by omega, by go_num, rfl, hs1, hs2, NX, HW1⟩
          case measure => simp [intOf]; omega
      · have RES : Hid (cnuL f T.args 1 most = q) := Lib.hid (by rw [← HAR.out, HQ.out.2, List.drop_of_length_le (by omega), cnuL])
        have hge : ¬ (k : Int) < (args.length : Int) := by omega
        have HW2 := Lib.hid (bt B1.out HW.out)
        go_wp2
        go_ret
        exact ⟨by rw [RES.out]; rfl, HW2.out⟩
end Go.Proofs.YtifopogkbjhkjaaGreatDoor
namespace Go.Proofs.YtifopogkbjhkjaaGreatDoor
open DR
open Go.ChangeShapes Go.WideShapes Go.ChangeAt Go.RowKit Go.WideMaps
set_option linter.unusedVariables false
set_option linter.unusedSimpArgs false
theorem res_bnd {St : List TT} {rk : Int → Nat} (hst : StOk St rk) {t T : TT} (h : Res St t T) (hb : bnd St t) : rkT rk T < rkT rk t := by
  cases h with
  | stop hb' => exact absurd hb hb'
  | step _ h' => exact Nat.lt_of_le_of_lt (res_rk hst h') (rk_step hst hb)
theorem nodes_arg {V a : TT} (h : a ∈ V.args) : nodes a < nodes V := by
  have h1 := nodes_eq V
  have h2 : ∀ l : List TT, a ∈ l → nodes a ≤ nodesL l := by
    intro l
    induction l with
    | nil => intro h; cases h
    | cons b r ih =>
      intro h
      rw [nodesL]
      rcases List.mem_cons.1 h with rfl | h
      · omega
      · have := ih h; omega
  have := h2 _ h
  omega
/-- what holds of a type if it holds of the arguments of what it stands for. -/
theorem res_ind {St : List TT} {rk : Int → Nat} (hst : StOk St rk) {P : TT → Prop} (step : ∀ t, shp t = true → (∀ a ∈ (resF St t).args, P a) → P t) : ∀ t, shp t = true → P t := by
  have main : ∀ (r : Nat) (m : Nat) (t : TT), rkT rk t < r → nodes t < m → shp t = true → P t := by
    intro r
    induction r with
    | zero => intro m t h; omega
    | succ r ihr =>
      intro m
      induction m with
      | zero => intro t _ h; omega
      | succ m ihm =>
        intro t hr hm hsh
        refine step t hsh fun a ha => ?_
        have hR := resF_res hst t
        have hsa := (shp_head (res_shp hst hR hsh)).2.2 a ha
        have hra := rkT_arg rk ha
        by_cases hb : bnd St t
        · have h1 := res_bnd hst hR hb
          exact ihr (nodes a + 1) a (by omega) (by omega) hsa
        · have e : resF St t = t := (res_fun hR (.stop hb))
          rw [e] at ha hra
          have := nodes_arg ha
          exact ihm a (by omega) (by omega) hsa
  exact fun t h => main _ _ t (Nat.lt_succ_self _) (Nat.lt_succ_self _) h
theorem occ_res {St : List TT} {v : Int} {t T : TT} (h : Res St t T) : Occ St v t ↔ Occ St v T := by
  induction h with
  | stop hb => exact Iff.rfl
  | step hb _ ih =>
    refine Iff.trans ⟨fun ho => ?_, fun ho => .step hb ho⟩ ih
    cases ho with
    | here _ hb' _ => exact absurd hb hb'
    | step _ ho => exact ho
    | arg h7 _ _ => exact absurd hb.1 h7
theorem occ_var {St : List TT} {v : Int} {T : TT} (hb : ¬ bnd St T) (h7 : T.k = 7) : Occ St v T ↔ T.vr = v := by
  refine ⟨fun ho => ?_, fun h => .here h7 hb h⟩
  cases ho with
  | here _ _ h => exact h
  | step hb' _ => exact absurd hb' hb
  | arg h7' _ _ => exact absurd h7 h7'
theorem occ_args {St : List TT} {v : Int} {T : TT} (h7 : T.k ≠ 7) : Occ St v T ↔ ∃ a ∈ T.args, Occ St v a := by
  refine ⟨fun ho => ?_, fun ⟨a, ha, h⟩ => .arg h7 ha h⟩
  cases ho with
  | here h _ _ => exact absurd h h7
  | step hb _ => exact absurd hb.1 h7
  | arg _ ha h => exact ⟨_, ha, h⟩
/-- the one that unifies, in memory. -/
def UniR (w : World) (ub sb : Nat) (n : Int) (St : List TT) : Prop := (∃ x, w.heap[ub]? = some (.cells #[.pointer (some ⟨sb, 0, none⟩), x] 67 (0, 0))) ∧ SubR w sb n St
theorem UniR.later {w w' : World} {ub S : Nat} {n : Int} {St : List TT} (h : UniR w ub S n St) (hb : Below w.heap.size w w') : UniR w' ub S n St := by
  obtain ⟨⟨x, h1⟩, h2⟩ := h
  exact ⟨⟨x, (hb.block ub (Array.getElem?_eq_some_iff.1 h1).1).trans h1⟩, h2.later hb⟩
open Classical in
set_option maxRecDepth 100000 in
set_option maxHeartbeats 4000000 in
theorem occurs_ok {St : List TT} {rk : Int → Nat} (hst : StOk St rk) {ub sb : Nat} {n v : Int} : ∀ V : TT, shp V = true → ∀ (x : Value) (w : World), TIn w any0 V x → UniR w ub sb n St → Calls Tryz.prog 72 #[.pointer (some ⟨ub, 0, none⟩), .int .i64 v, x] w fun e w' => e = .returned (.bool (decide (Occ St v V))) ∧ Below w.heap.size w w' := by
  refine res_ind hst ?_
  intro V hsh ih x w ⟨A, c, hv, hA⟩ hu
  subst hv
  have hR := resF_res hst V
  have OR := Lib.hid (show Occ St v V ↔ Occ St v (resF St V) from occ_res hR)
  have NB := Lib.hid (res_stop hR)
  have RS := Lib.hid (fun W (hW : Below w.heap.size w W) => resolve_ok hst (P := (· < w.heap.size)) (c := c) hsh ((hA.weak fun b hb _ => hb).later hW) (hu.2.low.later hW))
  have HSH := Lib.hid (shp_head (res_shp hst hR hsh)).2.2
  have hl2 := (shp_head (res_shp hst hR hsh)).2.1
  have HI := Lib.hid ih
  obtain ⟨T, hT⟩ : ∃ T, T = resF St V := ⟨_, rfl⟩
  rw [← hT] at RS HSH hl2 OR NB HI
  have HU := Lib.hid hu
  obtain ⟨⟨ux, hu1⟩, -⟩ := hu
  have hul := (Array.getElem?_eq_some_iff.1 hu1).1
  unfold tv at RS ⊢
  obtain ⟨wA, hwA⟩ : ∃ z, z = w.alloc (.cells #[.int .i64 V.k, .string V.nm, .int .i64 V.vr, .slice A V.args.length c] 24) := ⟨_, rfl⟩
  have BA := Lib.hid (show Below w.heap.size w wA by rw [hwA]; exact below_alloc w _)
  have HX := Lib.hid (show wA.heap[w.heap.size]? = some (.cells #[.int .i64 V.k, .string V.nm, .int .i64 V.vr, .slice A V.args.length c] 24 (0, 0)) by rw [hwA]; exact heap_alloc_new w _)
  have HZ := Lib.hid (show wA.heap.size = w.heap.size + 1 by rw [hwA]; simp)
  have KU := Lib.hid (sub_cell ((BA.out.block ub hul).trans hu1)).1
  have HUL := Lib.hid hul
  have HWA := Lib.hid hwA
  clear ih hT hA hsh hR hu1 hul hwA hst
  go_enter Tryz.func72, Tryz.ntmps72
  go_wp2_with fail
  try rw [← HWA.out]
  refine wp_region_D [6] (fun w' => Below wA.heap.size wA w') (by kernel_rfl) (bdr wA) (fun hHeld => ?_)
  refine WDs 0 ⟨some 9, .move (.tmp 0), 84, _, #[], none⟩ ?va0 ?hya0 hHeld ?_
  case hya0 => (intro wz hSw; (try dsimp only at hSw); go_simp; try with_reducible rfl)
  (try simp only [putz])
  refine WDs 1 ⟨some 10, .nilCheck (.tmp 9), 0, _, #[⟨0, .data⟩], none⟩ ?va1 ?hya1 hHeld ?_
  case hya1 => (intro wz hSw; (try dsimp only at hSw); go_simp; try with_reducible rfl)
  (try simp only [putz])
  refine WDs 2 ⟨some 11, .fieldAddr 67 (.tmp 10) 0, 0, _, #[⟨1, .data⟩], none⟩ ?va2 ?hya2 hHeld ?_
  case hya2 => (intro wz hSw; (try dsimp only at hSw); go_simp; try with_reducible rfl)
  (try simp only [putz])
  refine WDs 3 ⟨some 12, .load 31 (.tmp 11), 31, _, #[⟨2, .data⟩], none⟩ ?va3 ?hya3 hHeld ?_
  case hya3 => (intro wz hSw; (try dsimp only at hSw); have q0 := (hSw.cell (p := ⟨ub, 0, none⟩) (by have := HZ.out; have := HUL.out; show ub < _; omega)).trans KU.out; go_simp; try with_reducible rfl)
  (try simp only [putz])
  refine WDs 4 ⟨some 13, .load 24 (.tmp 5), 24, _, #[], none⟩ ?va4 ?hya4 hHeld ?_
  case hya4 => (intro wz hSw; (try dsimp only at hSw); obtain ⟨z0, z1, z2, z3⟩ := cells4 ((hSw.block w.heap.size (by have := HZ.out; omega)).trans HX.out); go_simp; try with_reducible rfl)
  (try simp only [putz])
  refine WD_ready (rs := [5]) (by kernel_rfl) (by simp) ?_
  refine AllD.cons (o := _) rfl (fun K hK => ?_) AllD.nil
  rw [if_pos (by rfl)]
  go_simp
  refine (RS.out _ (bt BA.out hHeld)).mono ?_; rintro e w1 ⟨A1, c1, rfl, hr1, hb1⟩
  try go_wp2_with fail
  refine hK.out _ _ (bt hHeld hb1) (fun hHeld => ?_)
  clear hK K
  (try simp only [putz])
  have H1 := Lib.hid hHeld
  have R1 := Lib.hid (hr1.later hb1)
  have X1 := Lib.hid ((hHeld.block w.heap.size (by have := HZ.out; omega)).trans HX.out)
  obtain ⟨f0, f1, f2, f3⟩ := froz4 X1.out
  obtain ⟨g0, g1, g2, g3⟩ := cells4 X1.out
  clear hHeld hr1 hb1
  refine WD_ready (rs := [6]) (by kernel_rfl) (by simp) ?_
  refine AllD.last (o := _) rfl (by kernel_rfl) (fun K hK => ?_) AllD.nil
  rw [if_pos (by rfl)]
  go_simp
  refine hK.out _ _ ?_
  clear hK K
  (try simp only [putz])
  refine WD_done (by kernel_rfl) ?_ _
  obtain ⟨wS, hwS⟩ : ∃ z, z = (((w1.setCell ⟨w.heap.size, 0, none⟩ (.int .i64 T.k)).setCell ⟨w.heap.size, 1, none⟩ (.string T.nm)).setCell ⟨w.heap.size, 2, none⟩ (.int .i64 T.vr)).setCell ⟨w.heap.size, 3, none⟩ (.slice A1 T.args.length c1) := ⟨_, rfl⟩
  have FS := Lib.hid (show Frm w1 wS (· = w.heap.size) by rw [hwS]; exact frm4 w1 w.heap.size _ _ _ _)
  have XS := Lib.hid (show wS.heap[w.heap.size]? = some (.cells #[.int .i64 T.k, .string T.nm, .int .i64 T.vr, .slice A1 T.args.length c1] 24 (0, 0)) by rw [hwS]; exact cells_all _ _ _ _ X1.out)
  rw [← hwS]
  clear hwS g0 g1 g2 g3 f0 f1 f2 f3
  have BS : Hid (Below w.heap.size w wS) := Lib.hid ((bt BA.out H1.out).trans (FS.out.below (fun q hq => by have : q = w.heap.size := hq; omega) (by have := H1.out.size; have := HZ.out; omega)))
  have HA := Lib.hid (R1.out.move (w' := wS) (P' := any0) (fun b hb (hp : b < w.heap.size) => ⟨FS.out.block b hb (by show ¬ b = w.heap.size; omega), trivial⟩) FS.out.size)
  obtain ⟨g0, g1, g2, g3⟩ := cells4 XS.out
  by_cases h7 : T.k = 7
  · have q7 : (T.k == 7) = true := by rw [h7]; rfl
    have RES : Hid (decide (Occ St v V) = (T.vr == v)) := Lib.hid (by rw [decide_eq_decide.2 (OR.out.trans (occ_var NB.out h7))]; rfl)
    clear h7
    go_wp2
    go_ret
    exact ⟨by rw [RES.out]; rfl, BS.out⟩
  · have q7 : (T.k == 7) = false := beq_eq_false_iff_ne.2 h7
    have OA := Lib.hid (OR.out.trans (occ_args (v := v) h7))
    clear h7
    have ST := Lib.hid (Below.refl wS.heap.size wS)
    go_wp2
    go_loopw [25] (fun i wr => ∃ k : Nat, k ≤ T.args.length ∧ i = .int .i64 k ∧ Hid (∀ a ∈ T.args.take k, ¬ Occ St v a) ∧ Hid (Below wS.heap.size wS wr)) (fun i _ => T.args.length - (intOf i).toNat)
    case atStart => exact ⟨0, by omega, by first | rfl | trivial, Lib.hid (by simp), ST⟩
    case round =>
      obtain ⟨k, hk, rfl, HQ, HW⟩ := hrel
      by_cases hlt : k < T.args.length
      · have hlti : (k : Int) < (T.args.length : Int) := by omega
        obtain ⟨b, o, rfl, hb, hr⟩ := HA.out.at (by omega)
        obtain ⟨A', c', x0, x1, x2, x3, hin⟩ := hr wr HW.out k hlt
        have CALL := Lib.hid (fun W (hW : Below wr.heap.size wr W) => HI.out T.args[k] (List.getElem_mem hlt) _ W (hin.later hW) (HU.out.later (bt BS.out (bt HW.out hW))))
        have HTK : Hid (T.args.take (k + 1) = T.args.take k ++ [T.args[k]]) := Lib.hid (List.take_succ_eq_append_getElem hlt)
        have HMEM := Lib.hid (List.getElem_mem hlt)
        obtain ⟨E, hE⟩ : ∃ E, E = T.args[k] := ⟨_, rfl⟩
        rw [← hE] at x0 x1 x2 x3 CALL HTK HMEM
        unfold tv at CALL
        clear hr hin hb HI hE
        by_cases ho : Occ St v E
        · have HO := Lib.hid ho
          rw [decide_eq_true ho] at CALL
          have RES : Hid (decide (Occ St v V) = true) := Lib.hid (decide_eq_true (OA.out.2 ⟨E, HMEM.out, ho⟩))
          clear ho
          go_wp2_with fail
          refine (CALL.out _ (below_alloc wr _)).mono ?_; rintro e w2 ⟨rfl, hb2⟩
          have HW1 := Lib.hid (bt BS.out (bt HW.out (bt (below_alloc wr (.cells #[.int .i64 E.k, .string E.nm, .int .i64 E.vr, .slice A' E.args.length c'] 24)) hb2)))
          clear hb2 CALL x0 x1 x2 x3
          go_wp2
          go_ret
          exact ⟨by rw [RES.out]; rfl, HW1.out⟩
        · have HO := Lib.hid (show ∀ a ∈ T.args.take (k + 1), ¬ Occ St v a by
            intro a ha
            rw [HTK.out, List.mem_append] at ha
            rcases ha with ha | ha
            · exact HQ.out a ha
            · rw [List.mem_singleton] at ha; rw [ha]; exact ho)
          rw [decide_eq_false ho] at CALL
          clear ho
          go_wp2_with fail
          refine (CALL.out _ (below_alloc wr _)).mono ?_; rintro e w2 ⟨rfl, hb2⟩
          have HW1 := Lib.hid (bt HW.out (bt (below_alloc wr (.cells #[.int .i64 E.k, .string E.nm, .int .i64 E.vr, .slice A' E.args.length c'] 24)) hb2))
          clear hb2 CALL x0 x1 x2 x3
          go_wp2
          go_roundw
          case rel => exact ⟨k + 1, by omega, by go_num, HO, HW1⟩
          case measure => simp [intOf]; omega
      · have RES : Hid (decide (Occ St v V) = false) := Lib.hid (decide_eq_false (fun h => by
          obtain ⟨a, ha, ho⟩ := OA.out.1 h
          have := HQ.out
          rw [List.take_of_length_le (by omega)] at this
          exact this a ha ho))
        have hge : ¬ (k : Int) < (T.args.length : Int) := by omega
        have HW1 := Lib.hid (bt BS.out HW.out)
        go_wp2
        go_ret
        exact ⟨by rw [RES.out]; rfl, HW1.out⟩
end Go.Proofs.YtifopogkbjhkjaaGreatDoor
