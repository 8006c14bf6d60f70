import Derived.Test.YtdkfimejabanlaaDoorYb
namespace Go.Proofs.YtdkfimejabanlaaDoor
open Go.ChangeShapes Go.WideShapes Go.ChangeAt Go.RowKit Go.WideMaps
set_option linter.unusedVariables false
set_option linter.unusedSimpArgs false
theorem res_fun {St : List TT} {t T T' : TT} (h : Res St t T) (h' : Res St t T') : T = T' := by
  induction h with
  | stop hb => cases h' with
    | stop _ => rfl
    | step hb' _ => exact absurd hb' hb
  | step hb _ ih => cases h' with
    | stop hb' => exact absurd hb hb'
    | step _ h' => exact ih h'
theorem res_stop {St : List TT} {t T : TT} (h : Res St t T) : ¬ bnd St T := by
  induction h with
  | stop hb => exact hb
  | step _ _ ih => exact ih
theorem res_shp {St : List TT} {rk : Int → Nat} (hst : StOk St rk) {t T : TT} (h : Res St t T) (hs : shp t = true) : shp T = true := by
  induction h with
  | stop hb => exact hs
  | step hb _ ih => exact ih (hst.shp _ hb.2)
theorem res_rk {St : List TT} {rk : Int → Nat} (hst : StOk St rk) {t T : TT} (h : Res St t T) : rkT rk T ≤ rkT rk t := by
  induction h with
  | stop hb => exact Nat.le_refl _
  | step hb _ ih => exact Nat.le_trans ih (Nat.le_of_lt (rk_step hst hb))
theorem res_ex {St : List TT} {rk : Int → Nat} (hst : StOk St rk) : ∀ (n : Nat) (t : TT), rkT rk t < n → ∃ T, Res St t T := by
  intro n
  induction n with
  | zero => intro t h; omega
  | succ n ih =>
    intro t h
    by_cases hb : bnd St t
    · obtain ⟨T, hT⟩ := ih (stA St t.vr) (by have := rk_step hst hb; omega)
      exact ⟨T, .step hb hT⟩
    · exact ⟨t, .stop hb⟩
open Classical in
/-- what is left of a type when its variable is followed. -/
noncomputable def resF (St : List TT) (t : TT) : TT := if h : ∃ T, Res St t T then Classical.choose h else t
theorem resF_res {St : List TT} {rk : Int → Nat} (hst : StOk St rk) (t : TT) : Res St t (resF St t) := by
  have h := res_ex hst _ t (Nat.lt_succ_self _)
  unfold resF
  rw [dif_pos h]
  exact Classical.choose_spec h
theorem shp_head {V : TT} (h : shp V = true) : 0 ≤ V.vr ∧ V.args.length ≤ 2 ∧ ∀ a ∈ V.args, shp a = true := by
  rw [shp_eq, Bool.and_eq_true] at h
  have hh := head_var h.1
  refine ⟨hh.1, ?_, (shpL_all _).1 h.2⟩
  have h5 := hh.2.2.2.2
  unfold arT at h5
  split at h5
  · omega
  · split at h5 <;> omega
theorem resolve_ok {P : Nat → Prop} {St : List TT} {rk : Int → Nat} (hst : StOk St rk) {V : TT} {A : Option Addr} {c sb : Nat} {n : Int} {w : World} (hsh : shp V = true) (hV : TRow w P A V.args) (hs : SubP w P sb n St) :
    Calls Tryd.prog 49 #[.pointer (some ⟨sb, 0, none⟩), tv V A c] w fun e w' => ∃ A' c', e = .returned (tv (resF St V) A' c') ∧ TRow w P A' (resF St V).args ∧ Below w.heap.size w w' := by
  refine (resolve_any (m := rkT rk) (fun t ht => rk_step hst ht) (fun t ht _ => (shp_head (hst.shp _ ht.2)).1) (fun _ => (shp_head hsh).1) hV hs).mono ?_
  rintro e w' ⟨T, A', c', rfl, hr, hT, -, hb⟩
  obtain rfl := res_fun hT (resF_res hst V)
  exact ⟨A', c', rfl, hr, hb⟩
/-- the arguments' nodes, until there are more than m. -/
def cnuL (f : TT → Int → Int) : List TT → Int → Int → Int
  | [], n, _ => n
  | a :: r, n, m => if m < n then n else cnuL f r (n + f a (m - n)) m
/-- the nodes of a type, R followed at each, until there are more than m (below the fuel). -/
def cntR (R : TT → TT) : Nat → TT → Int → Int
  | 0, _, _ => 1
  | d + 1, t, m => cnuL (cntR R d) (R t).args 1 m
theorem cntL_le {f : TT → Int → Int} (hf : ∀ a k, 0 ≤ k → 1 ≤ f a k ∧ f a k ≤ k + 1) : ∀ (l : List TT) (n m : Int), 0 ≤ m → n ≤ m + 1 → n ≤ cnuL f l n m ∧ cnuL f l n m ≤ m + 1
  | [], n, m, _, h => by rw [cnuL]; omega
  | a :: r, n, m, h0, h => by
    rw [cnuL]
    split
    · omega
    · have h1 := hf a (m - n) (by omega)
      have h2 := cntL_le hf r (n + f a (m - n)) m h0 (by omega)
      omega
theorem cntR_le (R : TT → TT) : ∀ (d : Nat) (t : TT) (m : Int), 0 ≤ m → 1 ≤ cntR R d t m ∧ cntR R d t m ≤ m + 1
  | 0, t, m, h => by rw [cntR]; omega
  | d + 1, t, m, h => by rw [cntR]; exact cntL_le (fun a k hk => cntR_le R d a k hk) _ 1 m h (by omega)
/-- a field of a struct by value. -/
theorem field_args (x0 x1 x2 x3 : Value) (w : World) : Sem.run Tryd.prog (Instr.field 27 (.agg #[x0, x1, x2, x3]) 3) w = .ok x3 w := by
  simp [Instr.field, run_underlying Tryd.underlying27, asAgg, part, isAgg, run_underlying Tryd.underlying25]
def CoJ (f : TT → Int → Int) (w : World) (args : List TT) (most : Int) (n i : Value) (wr : World) : Prop := ∃ (k : Nat) (q : Int), k ≤ args.length ∧ i = .int .i64 k ∧ n = .int .i64 q ∧ 1 ≤ q ∧ q ≤ 1001 ∧ Hid (q ≤ most + 1 ∧ cnuL f args 1 most = cnuL f (args.drop k) q most) ∧ Hid (Below w.heap.size w wr)
set_option maxRecDepth 100000 in
set_option maxHeartbeats 4000000 in
theorem count_ok {St : List TT} {rk : Int → Nat} (hst : StOk St rk) {sb : Nat} {n : Int} : ∀ (d : Nat) (V : TT) (v : Value) (most : Int) (w : World), most < d → 0 ≤ most → most ≤ 1000 → shp V = true → TIn w any0 V v → SubR w sb n St → Calls Tryd.prog 50 #[.pointer (some ⟨sb, 0, none⟩), v, .int .i64 most] w fun e w' => e = .returned (.int .i64 (cntR (resF St) d V most)) ∧ Below w.heap.size w w' := by
  intro d
  induction d with
  | zero => intro V v most w h1 h2; omega
  | succ d ih =>
    intro V v most w hd hm0 hm1 hsh ⟨A, c, hv, hA⟩ hs
    subst hv
    obtain ⟨f, hf⟩ : ∃ f, f = cntR (resF St) d := ⟨_, rfl⟩
    have HLE := Lib.hid (show ∀ a k, 0 ≤ k → 1 ≤ f a k ∧ f a k ≤ k + 1 by rw [hf]; exact cntR_le (resF St) d)
    rw [← hf] at ih
    have HI := Lib.hid ih
    have RS := Lib.hid (fun W (hW : Below w.heap.size w W) => resolve_ok hst (c := c) hsh (hA.later hW) (hs.later hW))
    have HSH := Lib.hid (shp_head (res_shp hst (resF_res hst V) hsh)).2.2
    have hl2 := (shp_head (res_shp hst (resF_res hst V) hsh)).2.1
    have GO : cntR (resF St) (d + 1) V most = cnuL f (resF St V).args 1 most := by rw [cntR, hf]
    rw [GO]
    obtain ⟨T, hT⟩ : ∃ T, T = resF St V := ⟨_, rfl⟩
    rw [← hT] at RS HSH hl2 ⊢
    have HS := Lib.hid hs
    have HD := Lib.hid hd
    clear ih hf GO hT hs hA hd hsh
    unfold tv at RS ⊢
    have B0 := Lib.hid (below_alloc w (.cells #[.int .i64 V.k, .string V.nm, .int .i64 V.vr, .slice A V.args.length c] 27))
    have FA := field_args
    go_enter Tryd.func50, Tryd.ntmps50
    go_wp2_with fail
    refine (RS.out _ B0.out).mono ?_; rintro e w1 ⟨A1, c1, rfl, hr1, hb1⟩
    obtain ⟨args, ha⟩ : ∃ l, l = T.args := ⟨_, rfl⟩
    have HAR := Lib.hid ha
    have HA := Lib.hid (hr1.later hb1)
    have B1 := Lib.hid (bt B0.out hb1)
    rw [← ha] at HA HSH hl2 ⊢
    have ST := Lib.hid (Below.refl w1.heap.size w1)
    clear hr1 hb1 RS ha
    go_wp2
    go_loopw [7, 15] (fun n i wr => CoJ f w1 args most n i wr) (fun _ i _ => args.length - (intOf i).toNat)
    case atStart => exact ⟨0, 1, by omega, rfl, rfl, by omega, by omega, Lib.hid ⟨by omega, rfl⟩, ST⟩
    case round =>
      obtain ⟨k, q, hk, rfl, rfl, hq1, hq2, HQ, HW⟩ := hrel
      by_cases hlt : k < args.length
      · have hlti : (k : Int) < (args.length : Int) := by omega
        obtain ⟨b, o, rfl, hb, hr⟩ := HA.out.at (by omega)
        obtain ⟨A', c', x0, x1, x2, x3, hin⟩ := hr wr HW.out k hlt
        have HDROP : Hid (args.drop k = args[k] :: args.drop (k + 1)) := Lib.hid (List.drop_eq_getElem_cons hlt)
        by_cases hbr : most < q
        · have dq := decide_eq_true hbr
          have RES : Hid (cnuL f T.args 1 most = q) := Lib.hid (by rw [← HAR.out, HQ.out.2, HDROP.out, cnuL, if_pos hbr])
          have HW2 := Lib.hid (bt B1.out (bt HW.out (below_alloc wr (.cells #[.int .i64 args[k].k, .string args[k].nm, .int .i64 args[k].vr, .slice A' args[k].args.length c'] 27))))
          clear hr hin hb HI
          go_wp2
          go_ret
          exact ⟨by rw [RES.out]; rfl, HW2.out⟩
        · have dq := decide_eq_false hbr
          have hcl := HLE.out args[k] (most - q) (by omega)
          have CALL : Hid (∀ W, Below wr.heap.size wr W → Calls Tryd.prog 50 #[.pointer (some ⟨sb, 0, none⟩), .agg #[.int .i64 args[k].k, .string args[k].nm, .int .i64 args[k].vr, .slice A' args[k].args.length c'], .int .i64 (most - q)] W fun e w' => e = .returned (.int .i64 (f args[k] (most - q))) ∧ Below W.heap.size W w') := Lib.hid (fun W hW => HI.out args[k] _ (most - q) W (by have := HD.out; omega) (by omega) (by omega) (HSH.out _ (List.getElem_mem hlt)) (hin.later hW) (HS.out.later (bt B1.out (bt HW.out hW))))
          obtain ⟨C, hC⟩ : ∃ z, z = f args[k] (most - q) := ⟨_, rfl⟩
          rw [← hC] at CALL hcl
          have NX : Hid (q + C ≤ most + 1 ∧ cnuL f args 1 most = cnuL f (args.drop (k + 1)) (q + C) most) := Lib.hid ⟨by omega, by rw [HQ.out.2, HDROP.out, cnuL, if_neg hbr, ← hC]⟩
          have hs1 : 1 ≤ q + C := by omega
          have hs2 : q + C ≤ 1001 := by omega
          have hm9 : 0 ≤ most - q := by omega
          clear hr hin hb HI HQ hC
          go_wp2_with fail
          refine (CALL.out _ (below_alloc wr _)).mono ?_; rintro e w2 ⟨rfl, hb2⟩
          have HW1 := Lib.hid (bt HW.out (bt (below_alloc wr (.cells #[.int .i64 args[k].k, .string args[k].nm, .int .i64 args[k].vr, .slice A' args[k].args.length c'] 27)) hb2))
          clear hb2 CALL x0 x1 x2 x3
          go_wp2
          go_roundw
          case rel => exact ⟨k + 1, q + C, by omega, by go_num, rfl, hs1, hs2, NX, HW1⟩
          case measure => simp [intOf]; omega
      · have RES : Hid (cnuL f T.args 1 most = q) := Lib.hid (by rw [← HAR.out, HQ.out.2, List.drop_of_length_le (by omega), cnuL])
        have hge : ¬ (k : Int) < (args.length : Int) := by omega
        have HW2 := Lib.hid (bt B1.out HW.out)
        go_wp2
        go_ret
        exact ⟨by rw [RES.out]; rfl, HW2.out⟩
end Go.Proofs.YtdkfimejabanlaaDoor
