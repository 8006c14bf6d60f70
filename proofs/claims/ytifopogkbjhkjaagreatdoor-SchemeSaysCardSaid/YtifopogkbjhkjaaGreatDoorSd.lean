import Derived.Test.YtifopogkbjhkjaaGreatDoorSc
import Derived.Test.YtifopogkbjhkjaaGreatDoorDr
namespace Go.Proofs.YtifopogkbjhkjaaGreatDoor
open DR
open Go.ChangeShapes Go.WideShapes Go.ChangeAt Go.RowKit Go.WideMaps
set_option linter.unusedVariables false
set_option linter.unusedSimpArgs false
theorem WD_take0 {P : Program} {ops : Array Oper} {Q : Exit → Act → World → Prop} {S : World → Prop} {ds : List Nat} {i : Nat} {oi : Oper} {v : Value} {n : Nat} {listed : Array Bool} {a : Act} {w : World} (hi : ops[i]? = some oi)
    (hs : Region.noSelect ops = true) (hf : Region.free .any ops listed i = true) (hr : (Region.ready .any ops listed).contains i = true) (hw : (ds.contains i == false) = true)
    (hQ : ∀ c a w, Q (.panic c) (a.put oi.dst v) w → Q (.panic c) a w) (hy : YieldsIf P ops (fun _ => True) oi v a) (hS : S w)
    (h : WD P ops Q ds S n (listed.setIfInBounds i true) (a.put oi.dst v) w) : WD P ops Q ds S (n + 1) listed a w := fun hc => by
  have hr' : i ∈ Region.ready .any ops listed := by simpa using hr
  exact wpD_take (S1 := fun _ => True) hi hs hQ (by simpa [inD] using hw) (.inl (fun _ => trivial)) n listed a w hc (Region.free_spec hi hf) hr' hy (fun _ => hS) (h (closed_step hc hr'))
/-- a text is appended, at the operation. -/
theorem step_append_str {P : Program} {o : Oper} {a : Act} {w : World} {K : Act → World → Prop} {Q : Exit → Act → World → Prop} (sl x : Operand) (t u : TypeId)
    (ho : o.op = .call { callee := .builtin .append, args := #[sl, x], argTypes := #[t, u] })
    (base : Nat) (e : TypeId) (i : TypeInfo) (ht : P.underlying t = some (.slice e)) (hu : P.underlying u = some .string) (hi : P.info? e = some i) (hz : i.zero = some (.int .u8 0))
    (hsize : i.size = 1) (hby : i.bytes = 1)
    (v : Value) (n : Nat) (xs : List Value) (hs : a.eval sl = v) (hown : w.ownsRow base e 1 v n xs) (s : ByteArray) (hx : a.eval x = .string s)
    (h63 : n + s.size ≤ maxLen) (hbytes : n + s.size ≤ 140737488355328) (hbase : base ≤ w.heap.size)
    (h : ∀ v' w', w'.ownsRow base e 1 v' (n + s.size) (xs ++ Lib.strCells s) → w.grownBy w' v.ownBlock → K (a.put o.dst v') w') : o.wp P a w K Q := by
  obtain ⟨v', w', hr, h2, h3, h4⟩ := Lib.run_append_own_string (P := P) w base t u o.type e i ht hu hi hz hsize hby v n xs hown s h63 hbytes hbase
  unfold Oper.wp execOp
  simp only [ho, resolve, invoke, builtin, Sem.run_bind, Sem.run_pure, Result.andThen_ok, List.map_toArray, List.map_cons, List.map_nil, hs, hx, hr]
  exact h v' w' h2 h3
set_option maxRecDepth 100000 in
set_option maxHeartbeats 8000000 in
theorem write_any : ∀ (d : Nat) (V : TT) (v : Value) (q : Int) (w0 w : World) (R M : Nat) (l : List Int) (s : ByteArray), bigT d V = false → shp V = true → 0 ≤ q → q + d ≤ 1000 → (varsT V l).length ≤ 99 → s.size + (txt V l).size ≤ 900000 → TIn w (· < w0.heap.size) V v → VX w0 w R M l s →
    Calls Tryz.prog 46 #[.pointer (some ⟨R, 0, none⟩), v, .int .i64 q] w (WrPost w0 R M (varsT V l) (s ++ txt V l) w) := by
  intro d
  induction d with
  | zero => intro V v q w0 w R M l s h; cases h
  | succ d ih =>
  intro V v q w0 w R M l s hbg hsh hq0 hq1 hn hs ⟨A, c, hv, hA⟩ h
  obtain ⟨i0, hi, hz0, hz1, hz2⟩ := info_parts infoU
  obtain ⟨hl4, hnm, b3⟩ := bigT_parts hbg
  rw [shp_eq, Bool.and_eq_true] at hsh
  obtain ⟨v0, v1, k0, k7, har⟩ := head_var hsh.1
  have hall := (shpL_all _).1 hsh.2
  have HNA : Hid (V.k ≠ 5 ∧ V.k ≠ 6 → V.args = []) := Lib.hid (fun h => by
    have e : arT V.k = 0 := by unfold arT; rw [if_neg h.1, if_neg h.2]
    rw [e] at har
    exact List.length_eq_zero_iff.1 (by omega))
  subst hv
  have HI := Lib.hid ih
  have HAZ : Hid (∀ W, Below w0.heap.size w0 W → TRow W (· < w0.heap.size) A V.args) := Lib.hid (fun W hW => hA.moveP (fun k _ hp => ⟨Nat.lt_of_lt_of_le hp hW.size, (hW.block k hp).trans (h.base.block k hp).symm, hp⟩))
  unfold tv
  have S1 := Lib.hid (h.below (below_alloc w (.cells #[.int .i64 V.k, .string V.nm, .int .i64 V.vr, .slice A V.args.length c] 24)))
  have KA := Lib.hid (KeepT.below (below_alloc w (.cells #[.int .i64 V.k, .string V.nm, .int .i64 V.vr, .slice A V.args.length c] 24)))
  have dq : decide (131072 < q) = false := decide_eq_false (by omega)
  obtain ⟨A1, c1, z1, own1, hB1, cl1⟩ := vx_open S1.out
  have OWN := Lib.hid own1
  have CL := Lib.hid cl1
  clear ih hbg h own1 cl1 har
  by_cases h1 : V.k = 1
  · have q1 : (V.k == 1) = true := by rw [h1]; rfl
    have HTX : Hid (txt V l = ⟨#[105, 110, 116]⟩) := Lib.hid (by rw [txt_eq]; simp [h1])
    have HTV : Hid (varsT V l = l) := Lib.hid (by rw [varsT_eq, if_neg (by omega), HNA.out (by omega)]; rfl)
    have hsz : s.size ≤ 900000 := by omega
    clear h1 hA hs hn hsh
    go_enter Tryz.func46, Tryz.ntmps46
    go_wp2_with (at_builtin; refine Lib.wpList_append_own_string _ rfl (.tmp 17) (.const (.string ⟨#[105, 110, 116]⟩)) 81 9 rfl w0.heap.size 5 i0 Tryz.underlying81 Tryz.underlying9 hi hz0 hz1 hz2 _ _ _ rfl OWN.out ⟨#[105, 110, 116]⟩ rfl (by unfold maxLen; show s.size + 3 ≤ _; omega) (by show s.size + 3 ≤ _; omega) hB1 ?_)
    intro v4 w4 own4 gr4 hne4
    obtain ⟨y4, g4, vx4, k4⟩ := CL.out ⟨#[105, 110, 116]⟩ v4 w4 own4 gr4
    obtain ⟨A4, c4, rfl⟩ := own_form own4
    have VXW := Lib.hid vx4
    have KW := Lib.hid (KA.out.trans k4)
    clear own4 gr4 hne4 vx4 k4 CL OWN z1
    go_wp2
    go_ret
    exact ⟨rfl, Lib.hid (by rw [HTX.out, HTV.out]; exact VXW.out), KW⟩
  by_cases h2 : V.k = 2
  · have q2 : (V.k == 2) = true := by rw [h2]; rfl
    have q1 : (V.k == 1) = false := beq_eq_false_iff_ne.2 (by omega)
    have HTX : Hid (txt V l = ⟨#[98, 111, 111, 108]⟩) := Lib.hid (by rw [txt_eq]; simp [h2])
    have HTV : Hid (varsT V l = l) := Lib.hid (by rw [varsT_eq, if_neg (by omega), HNA.out (by omega)]; rfl)
    have hsz : s.size ≤ 900000 := by omega
    clear h2 hA hs hn hsh
    go_enter Tryz.func46, Tryz.ntmps46
    go_wp2_with (at_builtin; refine Lib.wpList_append_own_string _ rfl (.tmp 27) (.const (.string ⟨#[98, 111, 111, 108]⟩)) 81 9 rfl w0.heap.size 5 i0 Tryz.underlying81 Tryz.underlying9 hi hz0 hz1 hz2 _ _ _ rfl OWN.out ⟨#[98, 111, 111, 108]⟩ rfl (by unfold maxLen; show s.size + 4 ≤ _; omega) (by show s.size + 4 ≤ _; omega) hB1 ?_)
    intro v4 w4 own4 gr4 hne4
    obtain ⟨y4, g4, vx4, k4⟩ := CL.out ⟨#[98, 111, 111, 108]⟩ v4 w4 own4 gr4
    obtain ⟨A4, c4, rfl⟩ := own_form own4
    have VXW := Lib.hid vx4
    have KW := Lib.hid (KA.out.trans k4)
    clear own4 gr4 hne4 vx4 k4 CL OWN z1
    go_wp2
    go_ret
    exact ⟨rfl, Lib.hid (by rw [HTX.out, HTV.out]; exact VXW.out), KW⟩
  by_cases h3 : V.k = 3
  · have q3 : (V.k == 3) = true := by rw [h3]; rfl
    have q1 : (V.k == 1) = false := beq_eq_false_iff_ne.2 (by omega)
    have q2 : (V.k == 2) = false := beq_eq_false_iff_ne.2 (by omega)
    have HTX : Hid (txt V l = ⟨#[117, 110, 105, 116]⟩) := Lib.hid (by rw [txt_eq]; simp [h3])
    have HTV : Hid (varsT V l = l) := Lib.hid (by rw [varsT_eq, if_neg (by omega), HNA.out (by omega)]; rfl)
    have hsz : s.size ≤ 900000 := by omega
    clear h3 hA hs hn hsh
    go_enter Tryz.func46, Tryz.ntmps46
    go_wp2_with (at_builtin; refine Lib.wpList_append_own_string _ rfl (.tmp 37) (.const (.string ⟨#[117, 110, 105, 116]⟩)) 81 9 rfl w0.heap.size 5 i0 Tryz.underlying81 Tryz.underlying9 hi hz0 hz1 hz2 _ _ _ rfl OWN.out ⟨#[117, 110, 105, 116]⟩ rfl (by unfold maxLen; show s.size + 4 ≤ _; omega) (by show s.size + 4 ≤ _; omega) hB1 ?_)
    intro v4 w4 own4 gr4 hne4
    obtain ⟨y4, g4, vx4, k4⟩ := CL.out ⟨#[117, 110, 105, 116]⟩ v4 w4 own4 gr4
    obtain ⟨A4, c4, rfl⟩ := own_form own4
    have VXW := Lib.hid vx4
    have KW := Lib.hid (KA.out.trans k4)
    clear own4 gr4 hne4 vx4 k4 CL OWN z1
    go_wp2
    go_ret
    exact ⟨rfl, Lib.hid (by rw [HTX.out, HTV.out]; exact VXW.out), KW⟩
  by_cases h5 : V.k = 5
  · have q5 : (V.k == 5) = true := by rw [h5]; rfl
    have q1 : (V.k == 1) = false := beq_eq_false_iff_ne.2 (by omega)
    have q2 : (V.k == 2) = false := beq_eq_false_iff_ne.2 (by omega)
    have q3 : (V.k == 3) = false := beq_eq_false_iff_ne.2 (by omega)
    have q4 : (V.k == 4) = false := beq_eq_false_iff_ne.2 (by omega)
    have htx : txt V l = ⟨#[40]⟩ ++ txtL true ⟨#[32, 45, 62, 32]⟩ V.args l ++ ⟨#[41]⟩ := by rw [txt_eq]; simp [h5]
    have htv : varsT V l = varsL V.args l := by rw [varsT_eq, if_neg (by omega)]
    have HTX := Lib.hid htx; have HTV := Lib.hid htv
    have CE := Lib.hid (fun W (hW : VX w0 W R M l s) => encl_of (c := c) (A := A) (w := W) (btw := ⟨#[32, 45, 62, 32]⟩) (fin := ⟨#[41]⟩) hq0 (by omega) hl4 (by show _ ≤ 4; simp [ByteArray.size]) (by show _ ≤ 5; simp [ByteArray.size]) (fun k h W l' s' v h1 h2 h3 h4 => HI.out V.args[k] v (q + 1) w0 W R M l' s' (b3 _ (List.getElem_mem h)) (hall _ (List.getElem_mem h)) (by omega) (by omega) h1 h2 h3 h4) HAZ.out (by rw [← htv]; exact hn) (by rw [htx, ByteArray.size_append, ByteArray.size_append] at hs; have e : (⟨#[40]⟩ : ByteArray).size = 1 := rfl; omega) hW)
    clear h5 hA hs hn hsh htx htv CL OWN z1 HI hall b3
    go_enter Tryz.func46, Tryz.ntmps46
    go_wp2_with fail
    refine (CE.out _ S1.out).mono ?_; rintro e w4 ⟨rfl, vx4, k4⟩
    have VXW := Lib.hid (show VX w0 w4 R M (varsT V l) (s ++ txt V l) by rw [HTX.out, HTV.out]; have := vx4.out; simpa only [ByteArray.append_assoc] using this)
    have KW := Lib.hid (KA.out.trans k4.out)
    clear vx4 k4 CE
    go_wp2
    go_ret
    exact ⟨rfl, VXW, KW⟩
  by_cases h6 : V.k = 6
  · have q6 : (V.k == 6) = true := by rw [h6]; rfl
    have q1 : (V.k == 1) = false := beq_eq_false_iff_ne.2 (by omega)
    have q2 : (V.k == 2) = false := beq_eq_false_iff_ne.2 (by omega)
    have q3 : (V.k == 3) = false := beq_eq_false_iff_ne.2 (by omega)
    have q4 : (V.k == 4) = false := beq_eq_false_iff_ne.2 (by omega)
    have q5 : (V.k == 5) = false := beq_eq_false_iff_ne.2 (by omega)
    have htx : txt V l = ⟨#[40]⟩ ++ txtL true ⟨#[]⟩ V.args l ++ ⟨#[32, 114, 101, 102, 41]⟩ := by rw [txt_eq]; simp [h6]
    have htv : varsT V l = varsL V.args l := by rw [varsT_eq, if_neg (by omega)]
    have HTX := Lib.hid htx; have HTV := Lib.hid htv
    have CE := Lib.hid (fun W (hW : VX w0 W R M l s) => encl_of (c := c) (A := A) (w := W) (btw := ⟨#[]⟩) (fin := ⟨#[32, 114, 101, 102, 41]⟩) hq0 (by omega) hl4 (by show _ ≤ 4; simp [ByteArray.size]) (by show _ ≤ 5; simp [ByteArray.size]) (fun k h W l' s' v h1 h2 h3 h4 => HI.out V.args[k] v (q + 1) w0 W R M l' s' (b3 _ (List.getElem_mem h)) (hall _ (List.getElem_mem h)) (by omega) (by omega) h1 h2 h3 h4) HAZ.out (by rw [← htv]; exact hn) (by rw [htx, ByteArray.size_append, ByteArray.size_append] at hs; have e : (⟨#[40]⟩ : ByteArray).size = 1 := rfl; omega) hW)
    clear h6 hA hs hn hsh htx htv CL OWN z1 HI hall b3
    go_enter Tryz.func46, Tryz.ntmps46
    go_wp2_with fail
    refine (CE.out _ S1.out).mono ?_; rintro e w4 ⟨rfl, vx4, k4⟩
    have VXW := Lib.hid (show VX w0 w4 R M (varsT V l) (s ++ txt V l) by rw [HTX.out, HTV.out]; have := vx4.out; simpa only [ByteArray.append_assoc] using this)
    have KW := Lib.hid (KA.out.trans k4.out)
    clear vx4 k4 CE
    go_wp2
    go_ret
    exact ⟨rfl, VXW, KW⟩
  by_cases h4 : V.k = 4
  · have q4 : (V.k == 4) = true := by rw [h4]; rfl
    have q1 : (V.k == 1) = false := beq_eq_false_iff_ne.2 (by omega)
    have q2 : (V.k == 2) = false := beq_eq_false_iff_ne.2 (by omega)
    have q3 : (V.k == 3) = false := beq_eq_false_iff_ne.2 (by omega)
    have HTX : Hid (txt V l = V.nm) := Lib.hid (by rw [txt_eq]; simp [h4])
    have HTV : Hid (varsT V l = l) := Lib.hid (by rw [varsT_eq, if_neg (by omega), HNA.out ⟨h5, h6⟩]; rfl)
    have hsz : s.size ≤ 900000 := by omega
    clear h4 hA hs hn hsh h1 h2 h3 h5 h6 CL OWN z1
    obtain ⟨wB, hwB⟩ : ∃ z, z = w.alloc (.cells #[.int .i64 V.k, .string V.nm, .int .i64 V.vr, .slice A V.args.length c] 24) := ⟨_, rfl⟩
    rw [← hwB] at S1 KA hB1
    have HX0 := Lib.hid (show wB.heap[w.heap.size]? = some (.cells #[.int .i64 V.k, .string V.nm, .int .i64 V.vr, .slice A V.args.length c] 24 (0, 0)) by rw [hwB]; exact heap_alloc_new w _)
    have HWB := Lib.hid hwB
    have SD := Lib.hid (S1.out.below (bdr wB))
    obtain ⟨A2, c2, z2, own2, hB2, cl2⟩ := vx_open SD.out
    have OWN := Lib.hid own2
    have CL := Lib.hid cl2
    have KEEP := Lib.hid (And.intro z2 (show wB.drew.cell? ⟨w.heap.size, 1, none⟩ = some (.string V.nm) from (cell4 HX0.out).2.1))
    obtain ⟨x0, x1, x2, x3⟩ := cell4 HX0.out
    rw [hwB] at x0 x1 x2 x3
    clear own2 cl2 z2 hwB
    go_enter Tryz.func46, Tryz.ntmps46
    go_wp2_with fail
    rw [← HWB.out]
    clear x0 x1 x2 x3
    refine wp_region_D [7, 10] (fun w' => w'.cell? ⟨R, 2, none⟩ = some (.slice A2 s.size c2) ∧ w'.cell? ⟨w.heap.size, 1, none⟩ = some (.string V.nm)) (by kernel_rfl) (KEEP.out) (fun hHeld => ?_)
    refine WD_take0 (i := 0) (oi := ⟨some 43, .move (.tmp 0), 102, _, #[], none⟩) (v := ?va0) rfl (by kernel_rfl) (by kernel_rfl) (by kernel_rfl) (by kernel_rfl) (fun _ _ _ h => h) (Or.inl ⟨by rfl, ?hya0⟩) hHeld ?_
    case hya0 => (intro wz _; go_simp; try with_reducible rfl)
    (try simp only [putz])
    refine WDs 1 ⟨some 44, .move (.tmp 0), 102, _, #[], none⟩ ?va1 ?hya1 hHeld ?_
    case hya1 => (intro wz hSw; (try dsimp only at hSw); have z0 := hSw.1; have z1 := hSw.2; go_simp; try with_reducible rfl)
    (try simp only [putz])
    refine WDs 2 ⟨some 45, .nilCheck (.tmp 44), 0, _, #[⟨1, .data⟩], none⟩ ?va2 ?hya2 hHeld ?_
    case hya2 => (intro wz hSw; (try dsimp only at hSw); have z0 := hSw.1; have z1 := hSw.2; go_simp; try with_reducible rfl)
    (try simp only [putz])
    refine WDs 3 ⟨some 46, .fieldAddr 83 (.tmp 45) 2, 0, _, #[⟨2, .data⟩], none⟩ ?va3 ?hya3 hHeld ?_
    case hya3 => (intro wz hSw; (try dsimp only at hSw); have z0 := hSw.1; have z1 := hSw.2; go_simp; try with_reducible rfl)
    (try simp only [putz])
    refine WDs 4 ⟨some 47, .load 81 (.tmp 46), 81, _, #[⟨3, .data⟩], none⟩ ?va4 ?hya4 hHeld ?_
    case hya4 => (intro wz hSw; (try dsimp only at hSw); have z0 := hSw.1; have z1 := hSw.2; go_simp; try with_reducible rfl)
    (try simp only [putz])
    refine WDs 5 ⟨some 48, .fieldAddr 24 (.tmp 4) 1, 0, _, #[], none⟩ ?va5 ?hya5 hHeld ?_
    case hya5 => (intro wz hSw; (try dsimp only at hSw); have z0 := hSw.1; have z1 := hSw.2; go_simp; try with_reducible rfl)
    (try simp only [putz])
    refine WDs 6 ⟨some 49, .load 9 (.tmp 48), 9, _, #[⟨5, .data⟩], none⟩ ?va6 ?hya6 hHeld ?_
    case hya6 => (intro wz hSw; (try dsimp only at hSw); have z0 := hSw.1; have z1 := hSw.2; go_simp; try with_reducible rfl)
    (try simp only [putz])
    refine WD_ready (rs := [7]) (by kernel_rfl) (by simp) ?_
    refine AllD.last (o := _) rfl (by kernel_rfl) (fun K hK => ?_) AllD.nil
    rw [if_pos (by rfl)]
    refine step_append_str (.tmp 47) (.tmp 49) 81 9 rfl w0.heap.size 5 i0 Tryz.underlying81 Tryz.underlying9 hi hz0 hz1 hz2 _ _ _ rfl OWN.out V.nm rfl (by unfold maxLen; omega) (by omega) hB2 ?_
    intro v4 w4 own4 gr4
    obtain ⟨y4, g4, vx4, k4⟩ := CL.out V.nm v4 w4 own4 gr4
    obtain ⟨A4, c4, rfl⟩ := own_form own4
    refine hK.out _ _ ?_
    clear hK K
    (try simp only [putz])
    refine WD_takeAny (i := 8) (oi := ⟨some 51, .nilCheck (.tmp 43), 0, _, #[⟨0, .data⟩, ⟨0, .phase⟩, ⟨1, .phase⟩, ⟨2, .phase⟩, ⟨3, .phase⟩, ⟨4, .phase⟩, ⟨5, .phase⟩, ⟨6, .phase⟩, ⟨7, .phase⟩], none⟩) (v := ?va8) rfl (by kernel_rfl) (by kernel_rfl) (by kernel_rfl) (by kernel_rfl) (fun _ _ _ h => h) (Or.inl ⟨by rfl, ?hya8⟩) ?_
    case hya8 => (intro wz _; go_simp; try with_reducible rfl)
    (try simp only [putz])
    refine WD_takeAny (i := 9) (oi := ⟨some 52, .fieldAddr 83 (.tmp 51) 2, 0, _, #[⟨8, .data⟩, ⟨0, .phase⟩, ⟨1, .phase⟩, ⟨2, .phase⟩, ⟨3, .phase⟩, ⟨4, .phase⟩, ⟨5, .phase⟩, ⟨6, .phase⟩, ⟨7, .phase⟩], none⟩) (v := ?va9) rfl (by kernel_rfl) (by kernel_rfl) (by kernel_rfl) (by kernel_rfl) (fun _ _ _ h => h) (Or.inl ⟨by rfl, ?hya9⟩) ?_
    case hya9 => (intro wz _; go_simp; try with_reducible rfl)
    (try simp only [putz])
    refine WD_ready (rs := [10]) (by kernel_rfl) (by simp) ?_
    refine AllD.last (o := _) rfl (by kernel_rfl) (fun K hK => ?_) AllD.nil
    rw [if_pos (by rfl)]
    go_simp
    refine hK.out _ _ ?_
    clear hK K
    (try simp only [putz])
    refine WD_done (by kernel_rfl) ?_ _
    have VXW := Lib.hid vx4
    have KW : Hid (KeepT w _) := Lib.hid (KA.out.trans ((show KeepT wB wB.drew from fun _ _ h => h).trans k4))
    clear own4 gr4 vx4 k4 CL OWN y4 g4 hHeld KEEP
    go_wp2
    go_ret
    exact ⟨rfl, Lib.hid (by rw [HTX.out, HTV.out]; exact VXW.out), KW⟩
  · have h7 : V.k = 7 := by omega
    have q7 : (V.k == 7) = true := by rw [h7]; rfl
    have q1 : (V.k == 1) = false := beq_eq_false_iff_ne.2 (by omega)
    have q2 : (V.k == 2) = false := beq_eq_false_iff_ne.2 (by omega)
    have q3 : (V.k == 3) = false := beq_eq_false_iff_ne.2 (by omega)
    have q4 : (V.k == 4) = false := beq_eq_false_iff_ne.2 (by omega)
    have q5 : (V.k == 5) = false := beq_eq_false_iff_ne.2 (by omega)
    have q6 : (V.k == 6) = false := beq_eq_false_iff_ne.2 (by omega)
    have htv : varsT V l = addV l V.vr := by rw [varsT_eq, if_pos h7, HNA.out ⟨h5, h6⟩]; rfl
    have htx : txt V l = letT (posV (addV l V.vr) V.vr + 1) := by rw [txt_eq]; simp [h7]
    have hmemx : V.vr ∈ addV l V.vr := by unfold addV; split <;> simp_all
    have hpl := posV_lt hmemx
    obtain ⟨p, hp⟩ : ∃ p, p = posV (addV l V.vr) V.vr := ⟨_, rfl⟩
    rw [htv] at hn
    rw [← hp] at hpl htx
    have hll := (addV_len l V.vr).2
    have hsz : s.size + (letT (p + 1)).size ≤ 900000 := by rw [htx] at hs; exact hs
    have MT := Lib.hid (fun W (hW : VX w0 W R M l s) => hp ▸ meet_any4 V.vr v0 v1 (by omega) hW)
    have LT := Lib.hid (fun W => (show Calls Tryz.prog 70 #[.int .i64 ((p : Int) + 1)] W _ from letter_any (p + 1) (by omega) (by omega) W))
    have HTX := Lib.hid htx; have HTV := Lib.hid htv
    clear h7 hA hs hn hsh h1 h2 h3 h4 h5 h6 CL OWN z1 htv htx hmemx hpl hp
    obtain ⟨wB, hwB⟩ : ∃ z, z = w.alloc (.cells #[.int .i64 V.k, .string V.nm, .int .i64 V.vr, .slice A V.args.length c] 24) := ⟨_, rfl⟩
    rw [← hwB] at S1 KA hB1
    have HX0 := Lib.hid (show wB.heap[w.heap.size]? = some (.cells #[.int .i64 V.k, .string V.nm, .int .i64 V.vr, .slice A V.args.length c] 24 (0, 0)) by rw [hwB]; exact heap_alloc_new w _)
    have HWB := Lib.hid hwB
    have SD := Lib.hid (S1.out.below (bdr wB))
    obtain ⟨A2, c2, z2, own2, hB2, cl2⟩ := vx_open SD.out
    have KEEP := Lib.hid (And.intro z2 (show wB.drew.heap[w.heap.size]? = some (.cells #[.int .i64 V.k, .string V.nm, .int .i64 V.vr, .slice A V.args.length c] 24 (0, 0)) from HX0.out))
    obtain ⟨x0, x1, x2, x3⟩ := cell4 HX0.out
    rw [hwB] at x0 x1 x2 x3
    clear own2 cl2 z2 hwB
    go_enter Tryz.func46, Tryz.ntmps46
    go_wp2_with fail
    rw [← HWB.out]
    clear x0 x1 x2 x3
    refine wp_region_D [10, 13] (fun w' => w'.cell? ⟨R, 2, none⟩ = some (.slice A2 s.size c2) ∧ w'.heap[w.heap.size]? = some (.cells #[.int .i64 V.k, .string V.nm, .int .i64 V.vr, .slice A V.args.length c] 24 (0, 0))) (by kernel_rfl) (KEEP.out) (fun hHeld => ?_)
    refine WD_take0 (i := 0) (oi := ⟨some 69, .move (.tmp 0), 102, _, #[], none⟩) (v := ?vb0) rfl (by kernel_rfl) (by kernel_rfl) (by kernel_rfl) (by kernel_rfl) (fun _ _ _ h => h) (Or.inl ⟨by rfl, ?hyb0⟩) hHeld ?_
    case hyb0 => (intro wz _; go_simp; try with_reducible rfl)
    (try simp only [putz])
    refine WDs 1 ⟨some 70, .move (.tmp 0), 102, _, #[], none⟩ ?vb1 ?hyb1 hHeld ?_
    case hyb1 => (intro wz hSw; (try dsimp only at hSw); have z0 := hSw.1; have zc := cell4 hSw.2; have z1 := zc.1; have z2 := zc.2.1; have z3 := zc.2.2.1; go_simp; try with_reducible rfl)
    (try simp only [putz])
    refine WDs 2 ⟨some 71, .nilCheck (.tmp 70), 0, _, #[⟨1, .data⟩], none⟩ ?vb2 ?hyb2 hHeld ?_
    case hyb2 => (intro wz hSw; (try dsimp only at hSw); have z0 := hSw.1; have zc := cell4 hSw.2; have z1 := zc.1; have z2 := zc.2.1; have z3 := zc.2.2.1; go_simp; try with_reducible rfl)
    (try simp only [putz])
    refine WDs 3 ⟨some 72, .fieldAddr 83 (.tmp 71) 2, 0, _, #[⟨2, .data⟩], none⟩ ?vb3 ?hyb3 hHeld ?_
    case hyb3 => (intro wz hSw; (try dsimp only at hSw); have z0 := hSw.1; have zc := cell4 hSw.2; have z1 := zc.1; have z2 := zc.2.1; have z3 := zc.2.2.1; go_simp; try with_reducible rfl)
    (try simp only [putz])
    refine WDs 4 ⟨some 73, .load 81 (.tmp 72), 81, _, #[⟨3, .data⟩], none⟩ ?vb4 ?hyb4 hHeld ?_
    case hyb4 => (intro wz hSw; (try dsimp only at hSw); have z0 := hSw.1; have zc := cell4 hSw.2; have z1 := zc.1; have z2 := zc.2.1; have z3 := zc.2.2.1; go_simp; try with_reducible rfl)
    (try simp only [putz])
    refine WDs 5 ⟨some 74, .move (.tmp 0), 102, _, #[], none⟩ ?vb5 ?hyb5 hHeld ?_
    case hyb5 => (intro wz hSw; (try dsimp only at hSw); have z0 := hSw.1; have zc := cell4 hSw.2; have z1 := zc.1; have z2 := zc.2.1; have z3 := zc.2.2.1; go_simp; try with_reducible rfl)
    (try simp only [putz])
    refine WDs 6 ⟨some 75, .fieldAddr 24 (.tmp 4) 2, 0, _, #[], none⟩ ?vb6 ?hyb6 hHeld ?_
    case hyb6 => (intro wz hSw; (try dsimp only at hSw); have z0 := hSw.1; have zc := cell4 hSw.2; have z1 := zc.1; have z2 := zc.2.1; have z3 := zc.2.2.1; go_simp; try with_reducible rfl)
    (try simp only [putz])
    refine WDs 7 ⟨some 76, .load 3 (.tmp 75), 3, _, #[⟨6, .data⟩], none⟩ ?vb7 ?hyb7 hHeld ?_
    case hyb7 => (intro wz hSw; (try dsimp only at hSw); have z0 := hSw.1; have zc := cell4 hSw.2; have z1 := zc.1; have z2 := zc.2.1; have z3 := zc.2.2.1; go_simp; try with_reducible rfl)
    (try simp only [putz])
    refine WD_ready (rs := [8]) (by kernel_rfl) (by simp) ?_
    refine AllD.cons (o := _) rfl (fun K hK => ?_) AllD.nil
    rw [if_pos (by rfl)]
    go_simp
    refine (MT.out _ SD.out).mono ?_; rintro e w5 ⟨rfl, s5, k5, m5⟩
    try go_wp2_with fail
    refine hK.out _ _ (⟨m5.out.trans KEEP.out.1, k5.out _ _ KEEP.out.2⟩) (fun hHeld => ?_)
    clear hK K
    (try simp only [putz])
    have V5 := Lib.hid (show VX w0 w5 R M (addV l V.vr) s from s5.out)
    have K5 := Lib.hid k5.out
    clear s5 k5 m5
    refine WD_ready (rs := [9]) (by kernel_rfl) (by simp) ?_
    refine AllD.cons (o := _) rfl (fun K hK => ?_) AllD.nil
    rw [if_pos (by rfl)]
    go_simp
    refine (LT.out _).mono ?_; rintro e w6 ⟨rfl, b6⟩
    try go_wp2_with fail
    refine hK.out _ _ (⟨(b6.cell (p := ⟨R, 2, none⟩) (by obtain ⟨_, _, v, _⟩ := V5.out; exact v.rlt)).trans hHeld.1, (b6.block _ (Array.getElem?_eq_some_iff.1 hHeld.2).1).trans hHeld.2⟩) (fun hHeld => ?_)
    clear hK K
    (try simp only [putz])
    have V6 := Lib.hid (V5.out.below b6)
    have K6 := Lib.hid (K5.out.trans (KeepT.below b6))
    clear b6
    obtain ⟨A3, c3, z3, own3, hB3, cl3⟩ := vx_open V6.out
    have e3 := Option.some.inj (z3.symm.trans hHeld.1)
    injection e3 with e3a _ e3c
    subst e3a e3c
    have OWN := Lib.hid own3
    have CL := Lib.hid cl3
    clear own3 cl3 z3
    refine WD_ready (rs := [10]) (by kernel_rfl) (by simp) ?_
    refine AllD.last (o := _) rfl (by kernel_rfl) (fun K hK => ?_) AllD.nil
    rw [if_pos (by rfl)]
    refine step_append_str (.tmp 73) (.tmp 78) 81 9 rfl w0.heap.size 5 i0 Tryz.underlying81 Tryz.underlying9 hi hz0 hz1 hz2 _ _ _ rfl OWN.out (letT (p + 1)) rfl (by unfold maxLen; omega) (by omega) hB3 ?_
    intro v4 w4 own4 gr4
    obtain ⟨y4, g4, vx4, k4⟩ := CL.out (letT (p + 1)) v4 w4 own4 gr4
    obtain ⟨A4, c4, rfl⟩ := own_form own4
    refine hK.out _ _ ?_
    clear hK K
    (try simp only [putz])
    refine WD_takeAny (i := 11) (oi := ⟨some 80, .nilCheck (.tmp 69), 0, _, #[⟨0, .data⟩, ⟨0, .phase⟩, ⟨1, .phase⟩, ⟨2, .phase⟩, ⟨3, .phase⟩, ⟨4, .phase⟩, ⟨5, .phase⟩, ⟨6, .phase⟩, ⟨7, .phase⟩, ⟨8, .phase⟩, ⟨9, .phase⟩, ⟨10, .phase⟩], none⟩) (v := ?vb11) rfl (by kernel_rfl) (by kernel_rfl) (by kernel_rfl) (by kernel_rfl) (fun _ _ _ h => h) (Or.inl ⟨by rfl, ?hyb11⟩) ?_
    case hyb11 => (intro wz _; go_simp; try with_reducible rfl)
    (try simp only [putz])
    refine WD_takeAny (i := 12) (oi := ⟨some 81, .fieldAddr 83 (.tmp 80) 2, 0, _, #[⟨11, .data⟩, ⟨0, .phase⟩, ⟨1, .phase⟩, ⟨2, .phase⟩, ⟨3, .phase⟩, ⟨4, .phase⟩, ⟨5, .phase⟩, ⟨6, .phase⟩, ⟨7, .phase⟩, ⟨8, .phase⟩, ⟨9, .phase⟩, ⟨10, .phase⟩], none⟩) (v := ?vb12) rfl (by kernel_rfl) (by kernel_rfl) (by kernel_rfl) (by kernel_rfl) (fun _ _ _ h => h) (Or.inl ⟨by rfl, ?hyb12⟩) ?_
    case hyb12 => (intro wz _; go_simp; try with_reducible rfl)
    (try simp only [putz])
    refine WD_ready (rs := [13]) (by kernel_rfl) (by simp) ?_
    refine AllD.last (o := _) rfl (by kernel_rfl) (fun K hK => ?_) AllD.nil
    rw [if_pos (by rfl)]
    go_simp
    refine hK.out _ _ ?_
    clear hK K
    (try simp only [putz])
    refine WD_done (by kernel_rfl) ?_ _
    have VXW := Lib.hid vx4
    have KW : Hid (KeepT w _) := Lib.hid (KA.out.trans ((show KeepT wB wB.drew from fun _ _ h => h).trans (K6.out.trans k4)))
    clear own4 gr4 vx4 k4 CL OWN y4 g4 hHeld KEEP
    go_wp2
    go_ret
    exact ⟨rfl, Lib.hid (by rw [HTX.out, HTV.out]; exact VXW.out), KW⟩
end Go.Proofs.YtifopogkbjhkjaaGreatDoor
