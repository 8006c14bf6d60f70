import Derived.Test.YtifopogkbjhkjaaGreatDoorYg
namespace Go.Proofs.YtifopogkbjhkjaaGreatDoor
open DR
open Go.ChangeShapes Go.WideShapes Go.ChangeAt Go.RowKit Go.WideMaps
set_option linter.unusedVariables false
set_option linter.unusedSimpArgs false
theorem SubP.mv {w w' : World} {g S : Nat} {n : Int} {St : List TT} (h : SubP w (· ≠ g) S n St) (hS : S ≠ g) (f : Frm w w' (· = g)) : SubP w' (· ≠ g) S n St := by
  obtain ⟨A, c, h1, h2⟩ := h
  exact ⟨A, c, (f.block S (Array.getElem?_eq_some_iff.1 h1).1 hS).trans h1, h2.move (fun b hb hp => ⟨f.block b hb hp, hp⟩) f.size⟩
theorem TRow.mvg {w w' : World} {g : Nat} {A : Option Addr} {l : List TT} (h : TRow w (· ≠ g) A l) (f : Frm w w' (· = g)) : TRow w' (· ≠ g) A l := h.move (fun b hb hp => ⟨f.block b hb hp, hp⟩) f.size
def MzPost (St : List TT) (g : Nat) (w : World) (m : Int) (e : Ending) (w' : World) : Prop := e = .returned (.int .i64 m) ∧ ∃ K', KnR w' g K' ∧ KOk St K' ∧ Frm w w' (· = g)
set_option maxRecDepth 100000 in
set_option maxHeartbeats 4000000 in
theorem measure_ok {St : List TT} {rk : Int → Nat} (hst : StOk St rk) {sb g kc : Nat} {n : Int} (hsg : sb ≠ g) : ∀ V, shp V = true → ∀ (v : Value) (K : List Int) (w : World), TIn w (· ≠ g) V v → SubP w (· ≠ g) sb n St → KnR w g K → KOk St K →
    Calls Tryz.prog 51 #[.pointer (some ⟨sb, 0, none⟩), v, .slice (some ⟨g, 0, none⟩) St.length kc] w (MzPost St g w (msz St V)) := by
  refine bnd_ind hst ?_
  intro V hsh ihb iha v K w ⟨A, c, hv, hA⟩ hs hkn hko
  subst hv
  unfold tv
  have hsl := shp_head hsh
  have HS0 := Lib.hid hs
  obtain ⟨SA, sc, hs1, hrow⟩ := hs
  obtain ⟨wB, hwB⟩ : ∃ z, z = w.alloc (.cells #[.int .i64 V.k, .string V.nm, .int .i64 V.vr, .slice A V.args.length c] 24) := ⟨_, rfl⟩
  have BB := Lib.hid (show Below w.heap.size w wB by rw [hwB]; exact below_alloc w _)
  have HX := Lib.hid (show wB.heap[w.heap.size]? = some (.cells #[.int .i64 V.k, .string V.nm, .int .i64 V.vr, .slice A V.args.length c] 24 (0, 0)) by rw [hwB]; exact heap_alloc_new w _)
  have HZ := Lib.hid (show wB.heap.size = w.heap.size + 1 by rw [hwB]; simp)
  have HGL := Lib.hid hkn.lt
  have FB := Lib.hid (Frm.of_below BB.out (Nat.le_refl _) (· = g))
  have HS := Lib.hid (sub_cell ((BB.out.block sb (Array.getElem?_eq_some_iff.1 hs1).1).trans hs1)).2
  have HKN := Lib.hid (hkn.keep (BB.out.block g hkn.lt))
  have HKO := Lib.hid hko
  have HSB := Lib.hid (HS0.out.mv hsg FB.out)
  have HA := Lib.hid (hA.mvg FB.out)
  have HROW := Lib.hid (hrow.mvg FB.out)
  have HWB := Lib.hid hwB
  have HSH := Lib.hid hsh
  have HIB := Lib.hid ihb
  have HIA := Lib.hid iha
  have HST := Lib.hid hst
  have HSG := Lib.hid hsg
  have hv0 := hsl.1
  have hl2 := hsl.2.1
  have HSA := Lib.hid hsl.2.2
  obtain ⟨x0, x1, x2, x3⟩ := cells4 HX.out
  clear hs1 hrow hwB hkn hko hA hsh ihb iha hst hsg hsl HS0
  by_cases hb : bnd St V
  · have HB := Lib.hid hb
    obtain ⟨x, hx⟩ : ∃ x : Nat, V.vr = x := ⟨V.vr.toNat, by omega⟩
    have hlt : x < St.length := by
      refine Classical.byContradiction fun h => hb.2 ?_
      rw [hx]; exact stA_out h
    have q7 : (V.k == 7) = true := by rw [hb.1]; rfl
    have HXV := Lib.hid hx
    have hlti : (x : Int) < (St.length : Int) := by omega
    obtain ⟨b, o, rfl, hbl, hr⟩ := HROW.out.at (by omega)
    obtain ⟨A', c', e0, e1, e2, e3, hin⟩ := hr wB (Below.refl _ _) x hlt
    obtain ⟨E, hE⟩ : ∃ E, E = St[x] := ⟨_, rfl⟩
    have HSE := Lib.hid (show stA St V.vr = E by rw [hx, stA_at hlt, hE])
    have hlk : x < K.length := by rw [HKO.out.1]; exact hlt
    have HKX := Lib.hid (show K[x] = 0 ∨ K[x] = msz St E by have := HKO.out.2 x hlk; rw [← hx, HSE.out] at this; exact this)
    have HMZ := Lib.hid (show msz St V = msz St E by rw [msz_bnd HST.out HSH.out hb, HSE.out])
    have HKS := Lib.hid (show KOk St (K.set x (msz St E)) by have := HKO.out.set x; rw [← hx, HSE.out] at this; exact this)
    obtain ⟨A2, c2, htv, hin⟩ := hin
    obtain ⟨rfl, rfl⟩ := tv_inj htv
    have HBG := Lib.hid (show b ≠ g by
      rcases HROW.out with h | ⟨b', o', e, -, hp, -⟩
      · omega
      · cases e; exact hp)
    have CALL := Lib.hid (fun W (K' : List Int) (f : Frm wB W (· = g)) (h1 : KnR W g K') (h2 : KOk St K') => (show ∀ (v : Value) (K : List Int) (w : World), TIn w (· ≠ g) E v → SubP w (· ≠ g) sb n St → KnR w g K → KOk St K → Calls Tryz.prog 51 #[.pointer (some ⟨sb, 0, none⟩), v, .slice (some ⟨g, 0, none⟩) St.length kc] w (MzPost St g w (msz St E)) by rw [← HSE.out]; exact HIB.out HB.out) (tv E A' c') K' W ⟨A', c', rfl, (show TRow wB (· ≠ g) A' E.args by rw [hE]; exact hin).mvg f⟩ (HSB.out.mv HSG.out f) h1 h2)
    rw [← hE] at e0 e1 e2 e3
    rw [hx] at HX x2
    have qk : (E.k == 0) = false := beq_eq_false_iff_ne.2 (by rw [← HSE.out]; exact hb.2)
    have qk2 : (E.k != 0) = true := by simp [bne, qk]
    have E0 := Lib.hid e0
    have E1 := Lib.hid e1
    have E2 := Lib.hid e2
    have E3 := Lib.hid e3
    have HBL := Lib.hid hbl
    have KG := HKN.out.get hlk
    have FIN0 : Hid (MzPost St g w (msz St V) (.returned (.int .i64 (msz St E))) wB.drew) := Lib.hid ⟨by rw [HMZ.out], K, HKN.out.keep rfl, HKO.out, (by have f := FB.out; exact ⟨f.os, f.tape, f.output, f.size, f.block⟩)⟩
    clear hb hx hr hin htv hE e0 e1 e2 e3 HIA hbl hv0
    unfold tv at CALL
    go_enter Tryz.func51, Tryz.ntmps51
    go_wp2_with fail
    try rw [← HWB.out]
    refine wp_region_held_drew (S := fun w' => w'.heap[w.heap.size]? = some (.cells #[.int .i64 V.k, .string V.nm, .int .i64 (x : Int), .slice A V.args.length c] 24 (0, 0)) ∧ w'.cell? ⟨sb, 1, none⟩ = some (.slice (some ⟨b, o, none⟩) St.length sc) ∧ w'.cell? ⟨b, o + x * 4, none⟩ = some (.int .i64 E.k)) (by kernel_rfl) ?_ (fun hHeld => ?_)
    · exact ⟨HX.out, HS.out, E0.out⟩
    refine WHt 0 ⟨some 10, .fieldAddr 24 (.tmp 4) 0, 0, _, #[], none⟩ (v := ?va0) rfl (by kernel_rfl) (fun _ _ _ h => h) (Or.inl ⟨by rfl, ?hya0⟩) (by assumption) ?_
    case hya0 => (intro wz hSw; (try dsimp only at hSw); obtain ⟨z0, z1, z2, z3⟩ := cells4 hSw.1; have z4 := hSw.2.1; have z5 := hSw.2.2; go_simp; try with_reducible rfl)
    (try simp only [putz])
    refine WHt 1 ⟨some 11, .load 3 (.tmp 10), 3, _, #[⟨0, .data⟩], none⟩ (v := ?va1) rfl (by kernel_rfl) (fun _ _ _ h => h) (Or.inl ⟨by rfl, ?hya1⟩) (by assumption) ?_
    case hya1 => (intro wz hSw; (try dsimp only at hSw); obtain ⟨z0, z1, z2, z3⟩ := cells4 hSw.1; have z4 := hSw.2.1; have z5 := hSw.2.2; go_simp; try with_reducible rfl)
    (try simp only [putz])
    refine WHt 2 ⟨some 12, .binOp .eql 3 (.tmp 11) (.const (.int .i64 7)) 3, 4, _, #[⟨1, .data⟩], none⟩ (v := ?va2) rfl (by kernel_rfl) (fun _ _ _ h => h) (Or.inl ⟨by rfl, ?hya2⟩) (by assumption) ?_
    case hya2 => (intro wz hSw; (try dsimp only at hSw); obtain ⟨z0, z1, z2, z3⟩ := cells4 hSw.1; have z4 := hSw.2.1; have z5 := hSw.2.2; go_simp; try with_reducible rfl)
    (try simp only [putz])
    refine WHt 3 ⟨some 13, .move (.tmp 12), 4, _, #[⟨2, .data⟩], none⟩ (v := ?va3) rfl (by kernel_rfl) (fun _ _ _ h => h) (Or.inl ⟨by rfl, ?hya3⟩) (by assumption) ?_
    case hya3 => (intro wz hSw; (try dsimp only at hSw); obtain ⟨z0, z1, z2, z3⟩ := cells4 hSw.1; have z4 := hSw.2.1; have z5 := hSw.2.2; go_simp; try with_reducible rfl)
    (try simp only [putz])
    refine WHt 4 ⟨some 14, .fieldAddr 24 (.tmp 4) 2, 0, _, #[⟨3, .guard⟩], some (3, true)⟩ (v := ?va4) rfl (by kernel_rfl) (fun _ _ _ h => h) (Or.inl ⟨by rfl, ?hya4⟩) (by assumption) ?_
    case hya4 => (intro wz hSw; (try dsimp only at hSw); obtain ⟨z0, z1, z2, z3⟩ := cells4 hSw.1; have z4 := hSw.2.1; have z5 := hSw.2.2; go_simp; try with_reducible rfl)
    (try simp only [putz])
    refine WHt 5 ⟨some 15, .load 3 (.tmp 14), 3, _, #[⟨4, .data⟩, ⟨3, .guard⟩], some (3, true)⟩ (v := ?va5) rfl (by kernel_rfl) (fun _ _ _ h => h) (Or.inl ⟨by rfl, ?hya5⟩) (by assumption) ?_
    case hya5 => (intro wz hSw; (try dsimp only at hSw); obtain ⟨z0, z1, z2, z3⟩ := cells4 hSw.1; have z4 := hSw.2.1; have z5 := hSw.2.2; go_simp; try with_reducible rfl)
    (try simp only [putz])
    refine WHt 6 ⟨some 16, .move (.tmp 0), 31, _, #[⟨3, .guard⟩], some (3, true)⟩ (v := ?va6) rfl (by kernel_rfl) (fun _ _ _ h => h) (Or.inl ⟨by rfl, ?hya6⟩) (by assumption) ?_
    case hya6 => (intro wz hSw; (try dsimp only at hSw); obtain ⟨z0, z1, z2, z3⟩ := cells4 hSw.1; have z4 := hSw.2.1; have z5 := hSw.2.2; go_simp; try with_reducible rfl)
    (try simp only [putz])
    refine WHt 7 ⟨some 17, .nilCheck (.tmp 16), 0, _, #[⟨6, .data⟩, ⟨3, .guard⟩], some (3, true)⟩ (v := ?va7) rfl (by kernel_rfl) (fun _ _ _ h => h) (Or.inl ⟨by rfl, ?hya7⟩) (by assumption) ?_
    case hya7 => (intro wz hSw; (try dsimp only at hSw); obtain ⟨z0, z1, z2, z3⟩ := cells4 hSw.1; have z4 := hSw.2.1; have z5 := hSw.2.2; go_simp; try with_reducible rfl)
    (try simp only [putz])
    refine WHt 8 ⟨some 18, .fieldAddr 65 (.tmp 17) 1, 0, _, #[⟨7, .data⟩, ⟨3, .guard⟩], some (3, true)⟩ (v := ?va8) rfl (by kernel_rfl) (fun _ _ _ h => h) (Or.inl ⟨by rfl, ?hya8⟩) (by assumption) ?_
    case hya8 => (intro wz hSw; (try dsimp only at hSw); obtain ⟨z0, z1, z2, z3⟩ := cells4 hSw.1; have z4 := hSw.2.1; have z5 := hSw.2.2; go_simp; try with_reducible rfl)
    (try simp only [putz])
    refine WHt 9 ⟨some 19, .load 22 (.tmp 18), 22, _, #[⟨8, .data⟩, ⟨3, .guard⟩], some (3, true)⟩ (v := ?va9) rfl (by kernel_rfl) (fun _ _ _ h => h) (Or.inl ⟨by rfl, ?hya9⟩) (by assumption) ?_
    case hya9 => (intro wz hSw; (try dsimp only at hSw); obtain ⟨z0, z1, z2, z3⟩ := cells4 hSw.1; have z4 := hSw.2.1; have z5 := hSw.2.2; go_simp; try with_reducible rfl)
    (try simp only [putz])
    refine WHt 10 ⟨some 20, .call { callee := .builtin .len, args := #[.tmp 19], argTypes := #[22] }, 3, _, #[⟨9, .data⟩, ⟨3, .guard⟩], some (3, true)⟩ (v := ?va10) rfl (by kernel_rfl) (fun _ _ _ h => h) (Or.inl ⟨by rfl, ?hya10⟩) (by assumption) ?_
    case hya10 => (intro wz hSw; (try dsimp only at hSw); obtain ⟨z0, z1, z2, z3⟩ := cells4 hSw.1; have z4 := hSw.2.1; have z5 := hSw.2.2; go_simp; try with_reducible rfl)
    (try simp only [putz])
    refine WHt 11 ⟨some 21, .binOp .lss 3 (.tmp 15) (.tmp 20) 3, 4, _, #[⟨5, .data⟩, ⟨10, .data⟩, ⟨3, .guard⟩], some (3, true)⟩ (v := ?va11) rfl (by kernel_rfl) (fun _ _ _ h => h) (Or.inl ⟨by rfl, ?hya11⟩) (by assumption) ?_
    case hya11 => (intro wz hSw; (try dsimp only at hSw); obtain ⟨z0, z1, z2, z3⟩ := cells4 hSw.1; have z4 := hSw.2.1; have z5 := hSw.2.2; go_simp; try with_reducible rfl)
    (try simp only [putz])
    refine WHt 12 ⟨some 22, .pick (.tmp 13) (.tmp 21) (.const (.bool false)), 4, _, #[⟨3, .data⟩, ⟨11, .data⟩], none⟩ (v := ?va12) rfl (by kernel_rfl) (fun _ _ _ h => h) (Or.inl ⟨by rfl, ?hya12⟩) (by assumption) ?_
    case hya12 => (intro wz hSw; (try dsimp only at hSw); obtain ⟨z0, z1, z2, z3⟩ := cells4 hSw.1; have z4 := hSw.2.1; have z5 := hSw.2.2; go_simp; try with_reducible rfl)
    (try simp only [putz])
    refine WHt 13 ⟨some 23, .move (.tmp 22), 4, _, #[⟨12, .data⟩, ⟨3, .chain⟩], none⟩ (v := ?va13) rfl (by kernel_rfl) (fun _ _ _ h => h) (Or.inl ⟨by rfl, ?hya13⟩) (by assumption) ?_
    case hya13 => (intro wz hSw; (try dsimp only at hSw); obtain ⟨z0, z1, z2, z3⟩ := cells4 hSw.1; have z4 := hSw.2.1; have z5 := hSw.2.2; go_simp; try with_reducible rfl)
    (try simp only [putz])
    refine WHt 14 ⟨some 24, .move (.tmp 0), 31, _, #[⟨13, .guard⟩], some (13, true)⟩ (v := ?va14) rfl (by kernel_rfl) (fun _ _ _ h => h) (Or.inl ⟨by rfl, ?hya14⟩) (by assumption) ?_
    case hya14 => (intro wz hSw; (try dsimp only at hSw); obtain ⟨z0, z1, z2, z3⟩ := cells4 hSw.1; have z4 := hSw.2.1; have z5 := hSw.2.2; go_simp; try with_reducible rfl)
    (try simp only [putz])
    refine WHt 15 ⟨some 25, .nilCheck (.tmp 24), 0, _, #[⟨14, .data⟩, ⟨13, .guard⟩], some (13, true)⟩ (v := ?va15) rfl (by kernel_rfl) (fun _ _ _ h => h) (Or.inl ⟨by rfl, ?hya15⟩) (by assumption) ?_
    case hya15 => (intro wz hSw; (try dsimp only at hSw); obtain ⟨z0, z1, z2, z3⟩ := cells4 hSw.1; have z4 := hSw.2.1; have z5 := hSw.2.2; go_simp; try with_reducible rfl)
    (try simp only [putz])
    refine WHt 16 ⟨some 26, .fieldAddr 65 (.tmp 25) 1, 0, _, #[⟨15, .data⟩, ⟨13, .guard⟩], some (13, true)⟩ (v := ?va16) rfl (by kernel_rfl) (fun _ _ _ h => h) (Or.inl ⟨by rfl, ?hya16⟩) (by assumption) ?_
    case hya16 => (intro wz hSw; (try dsimp only at hSw); obtain ⟨z0, z1, z2, z3⟩ := cells4 hSw.1; have z4 := hSw.2.1; have z5 := hSw.2.2; go_simp; try with_reducible rfl)
    (try simp only [putz])
    refine WHt 17 ⟨some 27, .load 22 (.tmp 26), 22, _, #[⟨16, .data⟩, ⟨13, .guard⟩], some (13, true)⟩ (v := ?va17) rfl (by kernel_rfl) (fun _ _ _ h => h) (Or.inl ⟨by rfl, ?hya17⟩) (by assumption) ?_
    case hya17 => (intro wz hSw; (try dsimp only at hSw); obtain ⟨z0, z1, z2, z3⟩ := cells4 hSw.1; have z4 := hSw.2.1; have z5 := hSw.2.2; go_simp; try with_reducible rfl)
    (try simp only [putz])
    refine WHt 18 ⟨some 28, .fieldAddr 24 (.tmp 4) 2, 0, _, #[⟨13, .guard⟩], some (13, true)⟩ (v := ?va18) rfl (by kernel_rfl) (fun _ _ _ h => h) (Or.inl ⟨by rfl, ?hya18⟩) (by assumption) ?_
    case hya18 => (intro wz hSw; (try dsimp only at hSw); obtain ⟨z0, z1, z2, z3⟩ := cells4 hSw.1; have z4 := hSw.2.1; have z5 := hSw.2.2; go_simp; try with_reducible rfl)
    (try simp only [putz])
    refine WHt 19 ⟨some 29, .load 3 (.tmp 28), 3, _, #[⟨18, .data⟩, ⟨13, .guard⟩], some (13, true)⟩ (v := ?va19) rfl (by kernel_rfl) (fun _ _ _ h => h) (Or.inl ⟨by rfl, ?hya19⟩) (by assumption) ?_
    case hya19 => (intro wz hSw; (try dsimp only at hSw); obtain ⟨z0, z1, z2, z3⟩ := cells4 hSw.1; have z4 := hSw.2.1; have z5 := hSw.2.2; go_simp; try with_reducible rfl)
    (try simp only [putz])
    refine WHt 20 ⟨some 30, .indexAddr 22 (.tmp 27) (.tmp 29), 0, _, #[⟨17, .data⟩, ⟨19, .data⟩, ⟨13, .guard⟩], some (13, true)⟩ (v := ?va20) rfl (by kernel_rfl) (fun _ _ _ h => h) (Or.inl ⟨by rfl, ?hya20⟩) (by assumption) ?_
    case hya20 => (intro wz hSw; (try dsimp only at hSw); obtain ⟨z0, z1, z2, z3⟩ := cells4 hSw.1; have z4 := hSw.2.1; have z5 := hSw.2.2; go_simp; try with_reducible rfl)
    (try simp only [putz])
    refine WHt 21 ⟨some 31, .fieldAddr 24 (.tmp 30) 0, 0, _, #[⟨20, .data⟩, ⟨13, .guard⟩], some (13, true)⟩ (v := ?va21) rfl (by kernel_rfl) (fun _ _ _ h => h) (Or.inl ⟨by rfl, ?hya21⟩) (by assumption) ?_
    case hya21 => (intro wz hSw; (try dsimp only at hSw); obtain ⟨z0, z1, z2, z3⟩ := cells4 hSw.1; have z4 := hSw.2.1; have z5 := hSw.2.2; go_simp; try with_reducible rfl)
    (try simp only [putz])
    refine WHt 22 ⟨some 32, .load 3 (.tmp 31), 3, _, #[⟨21, .data⟩, ⟨13, .guard⟩], some (13, true)⟩ (v := ?va22) rfl (by kernel_rfl) (fun _ _ _ h => h) (Or.inl ⟨by rfl, ?hya22⟩) (by assumption) ?_
    case hya22 => (intro wz hSw; (try dsimp only at hSw); obtain ⟨z0, z1, z2, z3⟩ := cells4 hSw.1; have z4 := hSw.2.1; have z5 := hSw.2.2; go_simp; try with_reducible rfl)
    (try simp only [putz])
    refine WHt 23 ⟨some 33, .binOp .neq 3 (.tmp 32) (.const (.int .i64 0)) 3, 4, _, #[⟨22, .data⟩, ⟨13, .guard⟩], some (13, true)⟩ (v := ?va23) rfl (by kernel_rfl) (fun _ _ _ h => h) (Or.inl ⟨by rfl, ?hya23⟩) (by assumption) ?_
    case hya23 => (intro wz hSw; (try dsimp only at hSw); obtain ⟨z0, z1, z2, z3⟩ := cells4 hSw.1; have z4 := hSw.2.1; have z5 := hSw.2.2; go_simp; try with_reducible rfl)
    (try simp only [putz])
    refine WHt 24 ⟨some 34, .pick (.tmp 23) (.tmp 33) (.const (.bool false)), 4, _, #[⟨13, .data⟩, ⟨23, .data⟩], none⟩ (v := ?va24) rfl (by kernel_rfl) (fun _ _ _ h => h) (Or.inl ⟨by rfl, ?hya24⟩) (by assumption) ?_
    case hya24 => (intro wz hSw; (try dsimp only at hSw); obtain ⟨z0, z1, z2, z3⟩ := cells4 hSw.1; have z4 := hSw.2.1; have z5 := hSw.2.2; go_simp; try with_reducible rfl)
    (try simp only [putz])
    refine wpAnyH_done (by kernel_rfl) ?_ _
    by_cases hz : K[x] = 0
    · have qz : (K[x] == 0) = true := by rw [hz]; rfl
      clear hz FIN0
      have HSBL := Lib.hid (show sb < wB.heap.size by obtain ⟨_, _, h1, _⟩ := HSB.out; exact (Array.getElem?_eq_some_iff.1 h1).1)
      go_wp2_with fail
      have HXN := Lib.hid (show w.heap.size < wB.heap.size ∧ w.heap.size ≠ g by have := HZ.out; have := HGL.out; omega)
      refine wp_region_D [15] (fun w' => Frm wB w' (· = g) ∧ ∃ K', KnR w' g K' ∧ KOk St K') (by kernel_rfl) (⟨⟨rfl, rfl, rfl, Nat.le_refl _, fun _ _ _ => rfl⟩, K, HKN.out.keep rfl, HKO.out⟩) (fun hHeld => ?_)
      refine WDs 0 ⟨some 41, .move (.tmp 2), 26, _, #[], none⟩ ?vr0 ?hyr0 hHeld ?_
      case hyr0 => (intro wz hSw; (try dsimp only at hSw); have q2 := (World.cell?_of_block (a := ⟨w.heap.size, 2, none⟩) (hSw.1.block _ HXN.out.1 HXN.out.2)).trans x2; have q4 := (World.cell?_of_block (a := ⟨sb, 1, none⟩) (hSw.1.block _ HSBL.out HSG.out)).trans HS.out; have q5 := (World.cell?_of_block (a := ⟨b, _, none⟩) (hSw.1.block _ HBL.out HBG.out)).trans E0.out; have q6 := (World.cell?_of_block (a := ⟨b, _, none⟩) (hSw.1.block _ HBL.out HBG.out)).trans E1.out; have q7 := (World.cell?_of_block (a := ⟨b, _, none⟩) (hSw.1.block _ HBL.out HBG.out)).trans E2.out; have q8 := (World.cell?_of_block (a := ⟨b, _, none⟩) (hSw.1.block _ HBL.out HBG.out)).trans E3.out; go_simp; try with_reducible rfl)
      (try simp only [putz])
      refine WDs 1 ⟨some 42, .fieldAddr 24 (.tmp 4) 2, 0, _, #[], none⟩ ?vr1 ?hyr1 hHeld ?_
      case hyr1 => (intro wz hSw; (try dsimp only at hSw); have q2 := (World.cell?_of_block (a := ⟨w.heap.size, 2, none⟩) (hSw.1.block _ HXN.out.1 HXN.out.2)).trans x2; have q4 := (World.cell?_of_block (a := ⟨sb, 1, none⟩) (hSw.1.block _ HSBL.out HSG.out)).trans HS.out; have q5 := (World.cell?_of_block (a := ⟨b, _, none⟩) (hSw.1.block _ HBL.out HBG.out)).trans E0.out; have q6 := (World.cell?_of_block (a := ⟨b, _, none⟩) (hSw.1.block _ HBL.out HBG.out)).trans E1.out; have q7 := (World.cell?_of_block (a := ⟨b, _, none⟩) (hSw.1.block _ HBL.out HBG.out)).trans E2.out; have q8 := (World.cell?_of_block (a := ⟨b, _, none⟩) (hSw.1.block _ HBL.out HBG.out)).trans E3.out; go_simp; try with_reducible rfl)
      (try simp only [putz])
      refine WDs 2 ⟨some 43, .load 3 (.tmp 42), 3, _, #[⟨1, .data⟩], none⟩ ?vr2 ?hyr2 hHeld ?_
      case hyr2 => (intro wz hSw; (try dsimp only at hSw); have q2 := (World.cell?_of_block (a := ⟨w.heap.size, 2, none⟩) (hSw.1.block _ HXN.out.1 HXN.out.2)).trans x2; have q4 := (World.cell?_of_block (a := ⟨sb, 1, none⟩) (hSw.1.block _ HSBL.out HSG.out)).trans HS.out; have q5 := (World.cell?_of_block (a := ⟨b, _, none⟩) (hSw.1.block _ HBL.out HBG.out)).trans E0.out; have q6 := (World.cell?_of_block (a := ⟨b, _, none⟩) (hSw.1.block _ HBL.out HBG.out)).trans E1.out; have q7 := (World.cell?_of_block (a := ⟨b, _, none⟩) (hSw.1.block _ HBL.out HBG.out)).trans E2.out; have q8 := (World.cell?_of_block (a := ⟨b, _, none⟩) (hSw.1.block _ HBL.out HBG.out)).trans E3.out; go_simp; try with_reducible rfl)
      (try simp only [putz])
      refine WDs 3 ⟨some 44, .move (.tmp 0), 31, _, #[], none⟩ ?vr3 ?hyr3 hHeld ?_
      case hyr3 => (intro wz hSw; (try dsimp only at hSw); have q2 := (World.cell?_of_block (a := ⟨w.heap.size, 2, none⟩) (hSw.1.block _ HXN.out.1 HXN.out.2)).trans x2; have q4 := (World.cell?_of_block (a := ⟨sb, 1, none⟩) (hSw.1.block _ HSBL.out HSG.out)).trans HS.out; have q5 := (World.cell?_of_block (a := ⟨b, _, none⟩) (hSw.1.block _ HBL.out HBG.out)).trans E0.out; have q6 := (World.cell?_of_block (a := ⟨b, _, none⟩) (hSw.1.block _ HBL.out HBG.out)).trans E1.out; have q7 := (World.cell?_of_block (a := ⟨b, _, none⟩) (hSw.1.block _ HBL.out HBG.out)).trans E2.out; have q8 := (World.cell?_of_block (a := ⟨b, _, none⟩) (hSw.1.block _ HBL.out HBG.out)).trans E3.out; go_simp; try with_reducible rfl)
      (try simp only [putz])
      refine WDs 4 ⟨some 45, .move (.tmp 0), 31, _, #[], none⟩ ?vr4 ?hyr4 hHeld ?_
      case hyr4 => (intro wz hSw; (try dsimp only at hSw); have q2 := (World.cell?_of_block (a := ⟨w.heap.size, 2, none⟩) (hSw.1.block _ HXN.out.1 HXN.out.2)).trans x2; have q4 := (World.cell?_of_block (a := ⟨sb, 1, none⟩) (hSw.1.block _ HSBL.out HSG.out)).trans HS.out; have q5 := (World.cell?_of_block (a := ⟨b, _, none⟩) (hSw.1.block _ HBL.out HBG.out)).trans E0.out; have q6 := (World.cell?_of_block (a := ⟨b, _, none⟩) (hSw.1.block _ HBL.out HBG.out)).trans E1.out; have q7 := (World.cell?_of_block (a := ⟨b, _, none⟩) (hSw.1.block _ HBL.out HBG.out)).trans E2.out; have q8 := (World.cell?_of_block (a := ⟨b, _, none⟩) (hSw.1.block _ HBL.out HBG.out)).trans E3.out; go_simp; try with_reducible rfl)
      (try simp only [putz])
      refine WDs 5 ⟨some 46, .nilCheck (.tmp 45), 0, _, #[⟨4, .data⟩], none⟩ ?vr5 ?hyr5 hHeld ?_
      case hyr5 => (intro wz hSw; (try dsimp only at hSw); have q2 := (World.cell?_of_block (a := ⟨w.heap.size, 2, none⟩) (hSw.1.block _ HXN.out.1 HXN.out.2)).trans x2; have q4 := (World.cell?_of_block (a := ⟨sb, 1, none⟩) (hSw.1.block _ HSBL.out HSG.out)).trans HS.out; have q5 := (World.cell?_of_block (a := ⟨b, _, none⟩) (hSw.1.block _ HBL.out HBG.out)).trans E0.out; have q6 := (World.cell?_of_block (a := ⟨b, _, none⟩) (hSw.1.block _ HBL.out HBG.out)).trans E1.out; have q7 := (World.cell?_of_block (a := ⟨b, _, none⟩) (hSw.1.block _ HBL.out HBG.out)).trans E2.out; have q8 := (World.cell?_of_block (a := ⟨b, _, none⟩) (hSw.1.block _ HBL.out HBG.out)).trans E3.out; go_simp; try with_reducible rfl)
      (try simp only [putz])
      refine WDs 6 ⟨some 47, .fieldAddr 65 (.tmp 46) 1, 0, _, #[⟨5, .data⟩], none⟩ ?vr6 ?hyr6 hHeld ?_
      case hyr6 => (intro wz hSw; (try dsimp only at hSw); have q2 := (World.cell?_of_block (a := ⟨w.heap.size, 2, none⟩) (hSw.1.block _ HXN.out.1 HXN.out.2)).trans x2; have q4 := (World.cell?_of_block (a := ⟨sb, 1, none⟩) (hSw.1.block _ HSBL.out HSG.out)).trans HS.out; have q5 := (World.cell?_of_block (a := ⟨b, _, none⟩) (hSw.1.block _ HBL.out HBG.out)).trans E0.out; have q6 := (World.cell?_of_block (a := ⟨b, _, none⟩) (hSw.1.block _ HBL.out HBG.out)).trans E1.out; have q7 := (World.cell?_of_block (a := ⟨b, _, none⟩) (hSw.1.block _ HBL.out HBG.out)).trans E2.out; have q8 := (World.cell?_of_block (a := ⟨b, _, none⟩) (hSw.1.block _ HBL.out HBG.out)).trans E3.out; go_simp; try with_reducible rfl)
      (try simp only [putz])
      refine WDs 7 ⟨some 48, .load 22 (.tmp 47), 22, _, #[⟨6, .data⟩], none⟩ ?vr7 ?hyr7 hHeld ?_
      case hyr7 => (intro wz hSw; (try dsimp only at hSw); have q2 := (World.cell?_of_block (a := ⟨w.heap.size, 2, none⟩) (hSw.1.block _ HXN.out.1 HXN.out.2)).trans x2; have q4 := (World.cell?_of_block (a := ⟨sb, 1, none⟩) (hSw.1.block _ HSBL.out HSG.out)).trans HS.out; have q5 := (World.cell?_of_block (a := ⟨b, _, none⟩) (hSw.1.block _ HBL.out HBG.out)).trans E0.out; have q6 := (World.cell?_of_block (a := ⟨b, _, none⟩) (hSw.1.block _ HBL.out HBG.out)).trans E1.out; have q7 := (World.cell?_of_block (a := ⟨b, _, none⟩) (hSw.1.block _ HBL.out HBG.out)).trans E2.out; have q8 := (World.cell?_of_block (a := ⟨b, _, none⟩) (hSw.1.block _ HBL.out HBG.out)).trans E3.out; go_simp; try with_reducible rfl)
      (try simp only [putz])
      refine WDs 8 ⟨some 49, .fieldAddr 24 (.tmp 4) 2, 0, _, #[], none⟩ ?vr8 ?hyr8 hHeld ?_
      case hyr8 => (intro wz hSw; (try dsimp only at hSw); have q2 := (World.cell?_of_block (a := ⟨w.heap.size, 2, none⟩) (hSw.1.block _ HXN.out.1 HXN.out.2)).trans x2; have q4 := (World.cell?_of_block (a := ⟨sb, 1, none⟩) (hSw.1.block _ HSBL.out HSG.out)).trans HS.out; have q5 := (World.cell?_of_block (a := ⟨b, _, none⟩) (hSw.1.block _ HBL.out HBG.out)).trans E0.out; have q6 := (World.cell?_of_block (a := ⟨b, _, none⟩) (hSw.1.block _ HBL.out HBG.out)).trans E1.out; have q7 := (World.cell?_of_block (a := ⟨b, _, none⟩) (hSw.1.block _ HBL.out HBG.out)).trans E2.out; have q8 := (World.cell?_of_block (a := ⟨b, _, none⟩) (hSw.1.block _ HBL.out HBG.out)).trans E3.out; go_simp; try with_reducible rfl)
      (try simp only [putz])
      refine WDs 9 ⟨some 50, .load 3 (.tmp 49), 3, _, #[⟨8, .data⟩], none⟩ ?vr9 ?hyr9 hHeld ?_
      case hyr9 => (intro wz hSw; (try dsimp only at hSw); have q2 := (World.cell?_of_block (a := ⟨w.heap.size, 2, none⟩) (hSw.1.block _ HXN.out.1 HXN.out.2)).trans x2; have q4 := (World.cell?_of_block (a := ⟨sb, 1, none⟩) (hSw.1.block _ HSBL.out HSG.out)).trans HS.out; have q5 := (World.cell?_of_block (a := ⟨b, _, none⟩) (hSw.1.block _ HBL.out HBG.out)).trans E0.out; have q6 := (World.cell?_of_block (a := ⟨b, _, none⟩) (hSw.1.block _ HBL.out HBG.out)).trans E1.out; have q7 := (World.cell?_of_block (a := ⟨b, _, none⟩) (hSw.1.block _ HBL.out HBG.out)).trans E2.out; have q8 := (World.cell?_of_block (a := ⟨b, _, none⟩) (hSw.1.block _ HBL.out HBG.out)).trans E3.out; go_simp; try with_reducible rfl)
      (try simp only [putz])
      refine WDs 10 ⟨some 51, .indexAddr 22 (.tmp 48) (.tmp 50), 0, _, #[⟨7, .data⟩, ⟨9, .data⟩], none⟩ ?vr10 ?hyr10 hHeld ?_
      case hyr10 => (intro wz hSw; (try dsimp only at hSw); have q2 := (World.cell?_of_block (a := ⟨w.heap.size, 2, none⟩) (hSw.1.block _ HXN.out.1 HXN.out.2)).trans x2; have q4 := (World.cell?_of_block (a := ⟨sb, 1, none⟩) (hSw.1.block _ HSBL.out HSG.out)).trans HS.out; have q5 := (World.cell?_of_block (a := ⟨b, _, none⟩) (hSw.1.block _ HBL.out HBG.out)).trans E0.out; have q6 := (World.cell?_of_block (a := ⟨b, _, none⟩) (hSw.1.block _ HBL.out HBG.out)).trans E1.out; have q7 := (World.cell?_of_block (a := ⟨b, _, none⟩) (hSw.1.block _ HBL.out HBG.out)).trans E2.out; have q8 := (World.cell?_of_block (a := ⟨b, _, none⟩) (hSw.1.block _ HBL.out HBG.out)).trans E3.out; go_simp; try with_reducible rfl)
      (try simp only [putz])
      refine WDs 11 ⟨some 52, .load 24 (.tmp 51), 24, _, #[⟨10, .data⟩], none⟩ ?vr11 ?hyr11 hHeld ?_
      case hyr11 => (intro wz hSw; (try dsimp only at hSw); have q2 := (World.cell?_of_block (a := ⟨w.heap.size, 2, none⟩) (hSw.1.block _ HXN.out.1 HXN.out.2)).trans x2; have q4 := (World.cell?_of_block (a := ⟨sb, 1, none⟩) (hSw.1.block _ HSBL.out HSG.out)).trans HS.out; have q5 := (World.cell?_of_block (a := ⟨b, _, none⟩) (hSw.1.block _ HBL.out HBG.out)).trans E0.out; have q6 := (World.cell?_of_block (a := ⟨b, _, none⟩) (hSw.1.block _ HBL.out HBG.out)).trans E1.out; have q7 := (World.cell?_of_block (a := ⟨b, _, none⟩) (hSw.1.block _ HBL.out HBG.out)).trans E2.out; have q8 := (World.cell?_of_block (a := ⟨b, _, none⟩) (hSw.1.block _ HBL.out HBG.out)).trans E3.out; go_simp; try with_reducible rfl)
      (try simp only [putz])
      refine WDs 12 ⟨some 53, .move (.tmp 2), 26, _, #[], none⟩ ?vr12 ?hyr12 hHeld ?_
      case hyr12 => (intro wz hSw; (try dsimp only at hSw); have q2 := (World.cell?_of_block (a := ⟨w.heap.size, 2, none⟩) (hSw.1.block _ HXN.out.1 HXN.out.2)).trans x2; have q4 := (World.cell?_of_block (a := ⟨sb, 1, none⟩) (hSw.1.block _ HSBL.out HSG.out)).trans HS.out; have q5 := (World.cell?_of_block (a := ⟨b, _, none⟩) (hSw.1.block _ HBL.out HBG.out)).trans E0.out; have q6 := (World.cell?_of_block (a := ⟨b, _, none⟩) (hSw.1.block _ HBL.out HBG.out)).trans E1.out; have q7 := (World.cell?_of_block (a := ⟨b, _, none⟩) (hSw.1.block _ HBL.out HBG.out)).trans E2.out; have q8 := (World.cell?_of_block (a := ⟨b, _, none⟩) (hSw.1.block _ HBL.out HBG.out)).trans E3.out; go_simp; try with_reducible rfl)
      (try simp only [putz])
      refine WD_ready (rs := [13]) (by kernel_rfl) (by simp) ?_
      refine AllD.cons (o := _) rfl (fun K hK => ?_) AllD.nil
      rw [if_pos (by rfl)]
      go_simp
      obtain ⟨hF, K1, hk1, hk2⟩ := hHeld
      refine (CALL.out _ K1 hF hk1 hk2).mono ?_; rintro e w2 ⟨rfl, K2, kn2, ko2, f2⟩
      try go_wp2_with fail
      refine hK.out _ _ (⟨hF.trans f2, K2, kn2, ko2⟩) (fun hHeld => ?_)
      clear hK K
      (try simp only [putz])
      refine WDs 14 ⟨some 55, .indexAddr 26 (.tmp 41) (.tmp 43), 0, _, #[⟨0, .data⟩, ⟨2, .data⟩, ⟨0, .phase⟩, ⟨1, .phase⟩, ⟨2, .phase⟩, ⟨3, .phase⟩, ⟨4, .phase⟩, ⟨5, .phase⟩, ⟨6, .phase⟩, ⟨7, .phase⟩, ⟨8, .phase⟩, ⟨9, .phase⟩, ⟨10, .phase⟩, ⟨11, .phase⟩, ⟨12, .phase⟩, ⟨13, .phase⟩], none⟩ ?vr14 ?hyr14 hHeld ?_
      case hyr14 => (intro wz hSw; (try dsimp only at hSw); go_simp; try with_reducible rfl)
      (try simp only [putz])
      obtain ⟨hF3, K3, kn3, ko3⟩ := hHeld
      have FW : Hid (Frm w w2 (· = g)) := Lib.hid (FB.out.trans hF3)
      have X2 := Lib.hid ((hF3.block w.heap.size HXN.out.1 HXN.out.2).trans HX.out)
      have hlk2 : x < K3.length := by rw [ko3.1]; exact hlt
      have g0 := kn3.get hlk2
      have g1 := kn3.frz x
      have KN2 := Lib.hid kn3
      have KO2 := Lib.hid (show KOk St (K3.set x (msz St E)) by have := ko3.set x; rw [← HXV.out, HSE.out] at this; exact this)
      clear kn3 ko3 hF3 hF hk1 hk2 kn2 ko2 f2
      refine WD_ready (rs := [15]) (by kernel_rfl) (by simp) ?_
      refine AllD.last (o := _) rfl (by kernel_rfl) (fun K hK => ?_) AllD.nil
      rw [if_pos (by rfl)]
      go_simp
      refine hK.out _ _ ?_
      clear hK K
      (try simp only [putz])
      refine WD_done (by kernel_rfl) ?_ _
      obtain ⟨wS, hwS⟩ : ∃ z, z = w2.setCell ⟨g, x, none⟩ (.int .i64 (msz St E)) := ⟨_, rfl⟩
      have KNS := Lib.hid (show KnR wS g (K3.set x (msz St E)) by rw [hwS]; exact KN2.out.set x _)
      have FS := Lib.hid (show Frm w wS (· = g) by rw [hwS]; exact FW.out.trans (frm_set (R := (· = g)) x _ rfl))
      have XS := Lib.hid (show wS.heap[w.heap.size]? = some (.cells #[.int .i64 V.k, .string V.nm, .int .i64 (x : Int), .slice A V.args.length c] 24 (0, 0)) by rw [hwS, Below.heap_setCell _ _ _ _ (by have := HGL.out; show w.heap.size ≠ g; omega)]; exact X2.out)
      rw [← hwS]
      clear hwS g0 g1 x0 x1 x2 x3 KG
      have hlk3 : x < (K3.set x (msz St E)).length := by rw [List.length_set]; exact hlk2
      have G0 := KNS.out.get hlk3
      rw [List.getElem_set_self] at G0
      obtain ⟨x0, x1, x2, x3⟩ := cells4 XS.out
      go_wp2
      go_ret
      exact ⟨by rw [HMZ.out]; rfl, _, KNS.out, KO2.out, FS.out⟩
    · have qz : (K[x] == 0) = false := beq_eq_false_iff_ne.2 hz
      have hke : K[x] = msz St E := HKX.out.resolve_left hz
      rw [hke] at KG qz
      clear hz hke
      go_wp2
      go_ret
      exact FIN0.out
  · have NB := Lib.hid hb
    by_cases h7 : V.k = 7
    · have q7 : (V.k == 7) = true := by rw [h7]; rfl
      obtain ⟨x, hx⟩ : ∃ x : Nat, V.vr = x := ⟨V.vr.toNat, by omega⟩
      have H7 := Lib.hid h7
      have HXV := Lib.hid hx
      rw [hx] at HX x2
      clear h7 hx hb hv0
      by_cases hlx : x < St.length
      · have hlxi : (x : Int) < (St.length : Int) := by omega
        obtain ⟨b1, o1, rfl, hbl, hr⟩ := HROW.out.at (by omega)
        obtain ⟨A', c', e0, -, -, -, -⟩ := hr wB (Below.refl _ _) x hlx
        obtain ⟨E, hE⟩ : ∃ E, E = St[x] := ⟨_, rfl⟩
        rw [← hE] at e0
        have hk0 : E.k = 0 := Classical.byContradiction fun h => NB.out ⟨H7.out, by rw [HXV.out, stA_at hlx, ← hE]; exact h⟩
        have qk : (E.k == 0) = true := by rw [hk0]; rfl
        have qk2 : (E.k != 0) = false := by rw [hk0]; rfl
        have E0 := Lib.hid e0
        clear hr hE e0 hbl hk0
        go_enter Tryz.func51, Tryz.ntmps51
        go_wp2_with fail
        try rw [← HWB.out]
        refine wp_region_held_drew (S := fun w' => w'.heap[w.heap.size]? = some (.cells #[.int .i64 V.k, .string V.nm, .int .i64 (x : Int), .slice A V.args.length c] 24 (0, 0)) ∧ w'.cell? ⟨sb, 1, none⟩ = some (.slice (some ⟨b1, o1, none⟩) St.length sc) ∧ w'.cell? ⟨b1, o1 + x * 4, none⟩ = some (.int .i64 E.k)) (by kernel_rfl) ?_ (fun hHeld => ?_)
        · exact ⟨HX.out, HS.out, E0.out⟩
        refine WHt 0 ⟨some 10, .fieldAddr 24 (.tmp 4) 0, 0, _, #[], none⟩ (v := ?vc0) rfl (by kernel_rfl) (fun _ _ _ h => h) (Or.inl ⟨by rfl, ?hyc0⟩) (by assumption) ?_
        case hyc0 => (intro wz hSw; (try dsimp only at hSw); obtain ⟨z0, z1, z2, z3⟩ := cells4 hSw.1; have z4 := hSw.2.1; have z5 := hSw.2.2; go_simp; try with_reducible rfl)
        (try simp only [putz])
        refine WHt 1 ⟨some 11, .load 3 (.tmp 10), 3, _, #[⟨0, .data⟩], none⟩ (v := ?vc1) rfl (by kernel_rfl) (fun _ _ _ h => h) (Or.inl ⟨by rfl, ?hyc1⟩) (by assumption) ?_
        case hyc1 => (intro wz hSw; (try dsimp only at hSw); obtain ⟨z0, z1, z2, z3⟩ := cells4 hSw.1; have z4 := hSw.2.1; have z5 := hSw.2.2; go_simp; try with_reducible rfl)
        (try simp only [putz])
        refine WHt 2 ⟨some 12, .binOp .eql 3 (.tmp 11) (.const (.int .i64 7)) 3, 4, _, #[⟨1, .data⟩], none⟩ (v := ?vc2) rfl (by kernel_rfl) (fun _ _ _ h => h) (Or.inl ⟨by rfl, ?hyc2⟩) (by assumption) ?_
        case hyc2 => (intro wz hSw; (try dsimp only at hSw); obtain ⟨z0, z1, z2, z3⟩ := cells4 hSw.1; have z4 := hSw.2.1; have z5 := hSw.2.2; go_simp; try with_reducible rfl)
        (try simp only [putz])
        refine WHt 3 ⟨some 13, .move (.tmp 12), 4, _, #[⟨2, .data⟩], none⟩ (v := ?vc3) rfl (by kernel_rfl) (fun _ _ _ h => h) (Or.inl ⟨by rfl, ?hyc3⟩) (by assumption) ?_
        case hyc3 => (intro wz hSw; (try dsimp only at hSw); obtain ⟨z0, z1, z2, z3⟩ := cells4 hSw.1; have z4 := hSw.2.1; have z5 := hSw.2.2; go_simp; try with_reducible rfl)
        (try simp only [putz])
        refine WHt 4 ⟨some 14, .fieldAddr 24 (.tmp 4) 2, 0, _, #[⟨3, .guard⟩], some (3, true)⟩ (v := ?vc4) rfl (by kernel_rfl) (fun _ _ _ h => h) (Or.inl ⟨by rfl, ?hyc4⟩) (by assumption) ?_
        case hyc4 => (intro wz hSw; (try dsimp only at hSw); obtain ⟨z0, z1, z2, z3⟩ := cells4 hSw.1; have z4 := hSw.2.1; have z5 := hSw.2.2; go_simp; try with_reducible rfl)
        (try simp only [putz])
        refine WHt 5 ⟨some 15, .load 3 (.tmp 14), 3, _, #[⟨4, .data⟩, ⟨3, .guard⟩], some (3, true)⟩ (v := ?vc5) rfl (by kernel_rfl) (fun _ _ _ h => h) (Or.inl ⟨by rfl, ?hyc5⟩) (by assumption) ?_
        case hyc5 => (intro wz hSw; (try dsimp only at hSw); obtain ⟨z0, z1, z2, z3⟩ := cells4 hSw.1; have z4 := hSw.2.1; have z5 := hSw.2.2; go_simp; try with_reducible rfl)
        (try simp only [putz])
        refine WHt 6 ⟨some 16, .move (.tmp 0), 31, _, #[⟨3, .guard⟩], some (3, true)⟩ (v := ?vc6) rfl (by kernel_rfl) (fun _ _ _ h => h) (Or.inl ⟨by rfl, ?hyc6⟩) (by assumption) ?_
        case hyc6 => (intro wz hSw; (try dsimp only at hSw); obtain ⟨z0, z1, z2, z3⟩ := cells4 hSw.1; have z4 := hSw.2.1; have z5 := hSw.2.2; go_simp; try with_reducible rfl)
        (try simp only [putz])
        refine WHt 7 ⟨some 17, .nilCheck (.tmp 16), 0, _, #[⟨6, .data⟩, ⟨3, .guard⟩], some (3, true)⟩ (v := ?vc7) rfl (by kernel_rfl) (fun _ _ _ h => h) (Or.inl ⟨by rfl, ?hyc7⟩) (by assumption) ?_
        case hyc7 => (intro wz hSw; (try dsimp only at hSw); obtain ⟨z0, z1, z2, z3⟩ := cells4 hSw.1; have z4 := hSw.2.1; have z5 := hSw.2.2; go_simp; try with_reducible rfl)
        (try simp only [putz])
        refine WHt 8 ⟨some 18, .fieldAddr 65 (.tmp 17) 1, 0, _, #[⟨7, .data⟩, ⟨3, .guard⟩], some (3, true)⟩ (v := ?vc8) rfl (by kernel_rfl) (fun _ _ _ h => h) (Or.inl ⟨by rfl, ?hyc8⟩) (by assumption) ?_
        case hyc8 => (intro wz hSw; (try dsimp only at hSw); obtain ⟨z0, z1, z2, z3⟩ := cells4 hSw.1; have z4 := hSw.2.1; have z5 := hSw.2.2; go_simp; try with_reducible rfl)
        (try simp only [putz])
        refine WHt 9 ⟨some 19, .load 22 (.tmp 18), 22, _, #[⟨8, .data⟩, ⟨3, .guard⟩], some (3, true)⟩ (v := ?vc9) rfl (by kernel_rfl) (fun _ _ _ h => h) (Or.inl ⟨by rfl, ?hyc9⟩) (by assumption) ?_
        case hyc9 => (intro wz hSw; (try dsimp only at hSw); obtain ⟨z0, z1, z2, z3⟩ := cells4 hSw.1; have z4 := hSw.2.1; have z5 := hSw.2.2; go_simp; try with_reducible rfl)
        (try simp only [putz])
        refine WHt 10 ⟨some 20, .call { callee := .builtin .len, args := #[.tmp 19], argTypes := #[22] }, 3, _, #[⟨9, .data⟩, ⟨3, .guard⟩], some (3, true)⟩ (v := ?vc10) rfl (by kernel_rfl) (fun _ _ _ h => h) (Or.inl ⟨by rfl, ?hyc10⟩) (by assumption) ?_
        case hyc10 => (intro wz hSw; (try dsimp only at hSw); obtain ⟨z0, z1, z2, z3⟩ := cells4 hSw.1; have z4 := hSw.2.1; have z5 := hSw.2.2; go_simp; try with_reducible rfl)
        (try simp only [putz])
        refine WHt 11 ⟨some 21, .binOp .lss 3 (.tmp 15) (.tmp 20) 3, 4, _, #[⟨5, .data⟩, ⟨10, .data⟩, ⟨3, .guard⟩], some (3, true)⟩ (v := ?vc11) rfl (by kernel_rfl) (fun _ _ _ h => h) (Or.inl ⟨by rfl, ?hyc11⟩) (by assumption) ?_
        case hyc11 => (intro wz hSw; (try dsimp only at hSw); obtain ⟨z0, z1, z2, z3⟩ := cells4 hSw.1; have z4 := hSw.2.1; have z5 := hSw.2.2; go_simp; try with_reducible rfl)
        (try simp only [putz])
        refine WHt 12 ⟨some 22, .pick (.tmp 13) (.tmp 21) (.const (.bool false)), 4, _, #[⟨3, .data⟩, ⟨11, .data⟩], none⟩ (v := ?vc12) rfl (by kernel_rfl) (fun _ _ _ h => h) (Or.inl ⟨by rfl, ?hyc12⟩) (by assumption) ?_
        case hyc12 => (intro wz hSw; (try dsimp only at hSw); obtain ⟨z0, z1, z2, z3⟩ := cells4 hSw.1; have z4 := hSw.2.1; have z5 := hSw.2.2; go_simp; try with_reducible rfl)
        (try simp only [putz])
        refine WHt 13 ⟨some 23, .move (.tmp 22), 4, _, #[⟨12, .data⟩, ⟨3, .chain⟩], none⟩ (v := ?vc13) rfl (by kernel_rfl) (fun _ _ _ h => h) (Or.inl ⟨by rfl, ?hyc13⟩) (by assumption) ?_
        case hyc13 => (intro wz hSw; (try dsimp only at hSw); obtain ⟨z0, z1, z2, z3⟩ := cells4 hSw.1; have z4 := hSw.2.1; have z5 := hSw.2.2; go_simp; try with_reducible rfl)
        (try simp only [putz])
        refine WHt 14 ⟨some 24, .move (.tmp 0), 31, _, #[⟨13, .guard⟩], some (13, true)⟩ (v := ?vc14) rfl (by kernel_rfl) (fun _ _ _ h => h) (Or.inl ⟨by rfl, ?hyc14⟩) (by assumption) ?_
        case hyc14 => (intro wz hSw; (try dsimp only at hSw); obtain ⟨z0, z1, z2, z3⟩ := cells4 hSw.1; have z4 := hSw.2.1; have z5 := hSw.2.2; go_simp; try with_reducible rfl)
        (try simp only [putz])
        refine WHt 15 ⟨some 25, .nilCheck (.tmp 24), 0, _, #[⟨14, .data⟩, ⟨13, .guard⟩], some (13, true)⟩ (v := ?vc15) rfl (by kernel_rfl) (fun _ _ _ h => h) (Or.inl ⟨by rfl, ?hyc15⟩) (by assumption) ?_
        case hyc15 => (intro wz hSw; (try dsimp only at hSw); obtain ⟨z0, z1, z2, z3⟩ := cells4 hSw.1; have z4 := hSw.2.1; have z5 := hSw.2.2; go_simp; try with_reducible rfl)
        (try simp only [putz])
        refine WHt 16 ⟨some 26, .fieldAddr 65 (.tmp 25) 1, 0, _, #[⟨15, .data⟩, ⟨13, .guard⟩], some (13, true)⟩ (v := ?vc16) rfl (by kernel_rfl) (fun _ _ _ h => h) (Or.inl ⟨by rfl, ?hyc16⟩) (by assumption) ?_
        case hyc16 => (intro wz hSw; (try dsimp only at hSw); obtain ⟨z0, z1, z2, z3⟩ := cells4 hSw.1; have z4 := hSw.2.1; have z5 := hSw.2.2; go_simp; try with_reducible rfl)
        (try simp only [putz])
        refine WHt 17 ⟨some 27, .load 22 (.tmp 26), 22, _, #[⟨16, .data⟩, ⟨13, .guard⟩], some (13, true)⟩ (v := ?vc17) rfl (by kernel_rfl) (fun _ _ _ h => h) (Or.inl ⟨by rfl, ?hyc17⟩) (by assumption) ?_
        case hyc17 => (intro wz hSw; (try dsimp only at hSw); obtain ⟨z0, z1, z2, z3⟩ := cells4 hSw.1; have z4 := hSw.2.1; have z5 := hSw.2.2; go_simp; try with_reducible rfl)
        (try simp only [putz])
        refine WHt 18 ⟨some 28, .fieldAddr 24 (.tmp 4) 2, 0, _, #[⟨13, .guard⟩], some (13, true)⟩ (v := ?vc18) rfl (by kernel_rfl) (fun _ _ _ h => h) (Or.inl ⟨by rfl, ?hyc18⟩) (by assumption) ?_
        case hyc18 => (intro wz hSw; (try dsimp only at hSw); obtain ⟨z0, z1, z2, z3⟩ := cells4 hSw.1; have z4 := hSw.2.1; have z5 := hSw.2.2; go_simp; try with_reducible rfl)
        (try simp only [putz])
        refine WHt 19 ⟨some 29, .load 3 (.tmp 28), 3, _, #[⟨18, .data⟩, ⟨13, .guard⟩], some (13, true)⟩ (v := ?vc19) rfl (by kernel_rfl) (fun _ _ _ h => h) (Or.inl ⟨by rfl, ?hyc19⟩) (by assumption) ?_
        case hyc19 => (intro wz hSw; (try dsimp only at hSw); obtain ⟨z0, z1, z2, z3⟩ := cells4 hSw.1; have z4 := hSw.2.1; have z5 := hSw.2.2; go_simp; try with_reducible rfl)
        (try simp only [putz])
        refine WHt 20 ⟨some 30, .indexAddr 22 (.tmp 27) (.tmp 29), 0, _, #[⟨17, .data⟩, ⟨19, .data⟩, ⟨13, .guard⟩], some (13, true)⟩ (v := ?vc20) rfl (by kernel_rfl) (fun _ _ _ h => h) (Or.inl ⟨by rfl, ?hyc20⟩) (by assumption) ?_
        case hyc20 => (intro wz hSw; (try dsimp only at hSw); obtain ⟨z0, z1, z2, z3⟩ := cells4 hSw.1; have z4 := hSw.2.1; have z5 := hSw.2.2; go_simp; try with_reducible rfl)
        (try simp only [putz])
        refine WHt 21 ⟨some 31, .fieldAddr 24 (.tmp 30) 0, 0, _, #[⟨20, .data⟩, ⟨13, .guard⟩], some (13, true)⟩ (v := ?vc21) rfl (by kernel_rfl) (fun _ _ _ h => h) (Or.inl ⟨by rfl, ?hyc21⟩) (by assumption) ?_
        case hyc21 => (intro wz hSw; (try dsimp only at hSw); obtain ⟨z0, z1, z2, z3⟩ := cells4 hSw.1; have z4 := hSw.2.1; have z5 := hSw.2.2; go_simp; try with_reducible rfl)
        (try simp only [putz])
        refine WHt 22 ⟨some 32, .load 3 (.tmp 31), 3, _, #[⟨21, .data⟩, ⟨13, .guard⟩], some (13, true)⟩ (v := ?vc22) rfl (by kernel_rfl) (fun _ _ _ h => h) (Or.inl ⟨by rfl, ?hyc22⟩) (by assumption) ?_
        case hyc22 => (intro wz hSw; (try dsimp only at hSw); obtain ⟨z0, z1, z2, z3⟩ := cells4 hSw.1; have z4 := hSw.2.1; have z5 := hSw.2.2; go_simp; try with_reducible rfl)
        (try simp only [putz])
        refine WHt 23 ⟨some 33, .binOp .neq 3 (.tmp 32) (.const (.int .i64 0)) 3, 4, _, #[⟨22, .data⟩, ⟨13, .guard⟩], some (13, true)⟩ (v := ?vc23) rfl (by kernel_rfl) (fun _ _ _ h => h) (Or.inl ⟨by rfl, ?hyc23⟩) (by assumption) ?_
        case hyc23 => (intro wz hSw; (try dsimp only at hSw); obtain ⟨z0, z1, z2, z3⟩ := cells4 hSw.1; have z4 := hSw.2.1; have z5 := hSw.2.2; go_simp; try with_reducible rfl)
        (try simp only [putz])
        refine WHt 24 ⟨some 34, .pick (.tmp 23) (.tmp 33) (.const (.bool false)), 4, _, #[⟨13, .data⟩, ⟨23, .data⟩], none⟩ (v := ?vc24) rfl (by kernel_rfl) (fun _ _ _ h => h) (Or.inl ⟨by rfl, ?hyc24⟩) (by assumption) ?_
        case hyc24 => (intro wz hSw; (try dsimp only at hSw); obtain ⟨z0, z1, z2, z3⟩ := cells4 hSw.1; have z4 := hSw.2.1; have z5 := hSw.2.2; go_simp; try with_reducible rfl)
        (try simp only [putz])
        refine wpAnyH_done (by kernel_rfl) ?_ _
        go_wp2
        go_loopw [7, 64] (fun nn i wr => ∃ (k : Nat) (q : Int) (K' : List Int), k ≤ V.args.length ∧ i = .int .i64 k ∧ nn = .int .i64 q ∧ 1 ≤ q ∧ q ≤ 501 ∧ Hid (minL (msz St) V.args 1 = minL (msz St) (V.args.drop k) q) ∧ Hid (KnR wr g K') ∧ Hid (KOk St K') ∧ Hid (Frm wB wr (· = g))) (fun _ i _ => V.args.length - (intOf i).toNat)
        case atStart => exact ⟨0, 1, K, by omega, by first | rfl | trivial, rfl, by omega, by omega, Lib.hid rfl, Lib.hid (HKN.out.keep rfl), HKO, Lib.hid ⟨rfl, rfl, rfl, Nat.le_refl _, fun _ _ _ => rfl⟩⟩
        case round =>
          obtain ⟨k, q, K', hk, rfl, rfl, hq1, hq2, HQ, HKN2, HKO2, HF⟩ := hrel
          by_cases hlt : k < V.args.length
          · have hlti : (k : Int) < (V.args.length : Int) := by omega
            obtain ⟨b, o, rfl, hb, hr⟩ := (HA.out.mvg HF.out).at (by omega)
            obtain ⟨A', c', e0, e1, e2, e3, hin⟩ := hr wr (Below.refl _ _) k hlt
            have CALL := Lib.hid (fun W (hW : Below wr.heap.size wr W) => HIA.out NB.out V.args[k] (List.getElem_mem hlt) _ K' W (hin.later hW) ((HSB.out.mv HSG.out HF.out).later hW) (HKN2.out.keep (hW.block g HKN2.out.lt)) HKO2.out)
            have HM := msz_pos HST.out (HSA.out _ (List.getElem_mem hlt))
            have HDROP : Hid (V.args.drop k = V.args[k] :: V.args.drop (k + 1)) := Lib.hid (List.drop_eq_getElem_cons hlt)
            obtain ⟨E, hE⟩ : ∃ E, E = V.args[k] := ⟨_, rfl⟩
            rw [← hE] at e0 e1 e2 e3 CALL HDROP HM
            unfold tv at CALL
            obtain ⟨C, hC⟩ : ∃ z, z = msz St E := ⟨_, rfl⟩
            rw [← hC] at CALL HM
            have NX : Hid (minL (msz St) V.args 1 = minL (msz St) (V.args.drop (k + 1)) (min (q + C) 501)) := Lib.hid (by rw [HQ.out, HDROP.out, minL, ← hC])
            obtain ⟨hm1, hm2⟩ := HM
            clear hr hin hb hE hC HIA
            go_wp2_with fail
            refine (CALL.out _ (below_alloc wr _)).mono ?_; rintro e w2 ⟨rfl, K2, kn2, ko2, f2⟩
            have KN2 := Lib.hid kn2
            have KO2 := Lib.hid ko2
            have F2 := Lib.hid (HF.out.trans ((Frm.of_below (below_alloc wr (.cells #[.int .i64 E.k, .string E.nm, .int .i64 E.vr, .slice A' E.args.length c'] 24)) (Nat.le_refl _) _).trans f2))
            clear kn2 ko2 f2 CALL e0 e1 e2 e3
            go_wp2
            go_roundw
            case rel => exact ⟨k + 1, _, K2, by omega, by go_num, rfl, by omega, by omega, NX, KN2, KO2, F2⟩
            case measure => simp [intOf]; omega
          · have RES : Hid (msz St V = q) := Lib.hid (by rw [msz_stop HST.out HSH.out NB.out, HQ.out, List.drop_of_length_le (by omega), minL])
            have hge : ¬ (k : Int) < (V.args.length : Int) := by omega
            go_wp2
            go_ret
            exact ⟨by rw [RES.out]; rfl, K', HKN2.out, HKO2.out, FB.out.trans HF.out⟩
      · have hgx : ¬ (x : Int) < (St.length : Int) := by omega
        go_enter Tryz.func51, Tryz.ntmps51
        go_wp2_with fail
        try rw [← HWB.out]
        refine wp_region_held_drew (S := fun w' => w'.heap[w.heap.size]? = some (.cells #[.int .i64 V.k, .string V.nm, .int .i64 (x : Int), .slice A V.args.length c] 24 (0, 0)) ∧ w'.cell? ⟨sb, 1, none⟩ = some (.slice SA St.length sc)) (by kernel_rfl) ?_ (fun hHeld => ?_)
        · exact ⟨HX.out, HS.out⟩
        refine WHt 0 ⟨some 10, .fieldAddr 24 (.tmp 4) 0, 0, _, #[], none⟩ (v := ?vd0) rfl (by kernel_rfl) (fun _ _ _ h => h) (Or.inl ⟨by rfl, ?hyd0⟩) (by assumption) ?_
        case hyd0 => (intro wz hSw; (try dsimp only at hSw); obtain ⟨z0, z1, z2, z3⟩ := cells4 hSw.1; have z4 := hSw.2; go_simp; try with_reducible rfl)
        (try simp only [putz])
        refine WHt 1 ⟨some 11, .load 3 (.tmp 10), 3, _, #[⟨0, .data⟩], none⟩ (v := ?vd1) rfl (by kernel_rfl) (fun _ _ _ h => h) (Or.inl ⟨by rfl, ?hyd1⟩) (by assumption) ?_
        case hyd1 => (intro wz hSw; (try dsimp only at hSw); obtain ⟨z0, z1, z2, z3⟩ := cells4 hSw.1; have z4 := hSw.2; go_simp; try with_reducible rfl)
        (try simp only [putz])
        refine WHt 2 ⟨some 12, .binOp .eql 3 (.tmp 11) (.const (.int .i64 7)) 3, 4, _, #[⟨1, .data⟩], none⟩ (v := ?vd2) rfl (by kernel_rfl) (fun _ _ _ h => h) (Or.inl ⟨by rfl, ?hyd2⟩) (by assumption) ?_
        case hyd2 => (intro wz hSw; (try dsimp only at hSw); obtain ⟨z0, z1, z2, z3⟩ := cells4 hSw.1; have z4 := hSw.2; go_simp; try with_reducible rfl)
        (try simp only [putz])
        refine WHt 3 ⟨some 13, .move (.tmp 12), 4, _, #[⟨2, .data⟩], none⟩ (v := ?vd3) rfl (by kernel_rfl) (fun _ _ _ h => h) (Or.inl ⟨by rfl, ?hyd3⟩) (by assumption) ?_
        case hyd3 => (intro wz hSw; (try dsimp only at hSw); obtain ⟨z0, z1, z2, z3⟩ := cells4 hSw.1; have z4 := hSw.2; go_simp; try with_reducible rfl)
        (try simp only [putz])
        refine WHt 4 ⟨some 14, .fieldAddr 24 (.tmp 4) 2, 0, _, #[⟨3, .guard⟩], some (3, true)⟩ (v := ?vd4) rfl (by kernel_rfl) (fun _ _ _ h => h) (Or.inl ⟨by rfl, ?hyd4⟩) (by assumption) ?_
        case hyd4 => (intro wz hSw; (try dsimp only at hSw); obtain ⟨z0, z1, z2, z3⟩ := cells4 hSw.1; have z4 := hSw.2; go_simp; try with_reducible rfl)
        (try simp only [putz])
        refine WHt 5 ⟨some 15, .load 3 (.tmp 14), 3, _, #[⟨4, .data⟩, ⟨3, .guard⟩], some (3, true)⟩ (v := ?vd5) rfl (by kernel_rfl) (fun _ _ _ h => h) (Or.inl ⟨by rfl, ?hyd5⟩) (by assumption) ?_
        case hyd5 => (intro wz hSw; (try dsimp only at hSw); obtain ⟨z0, z1, z2, z3⟩ := cells4 hSw.1; have z4 := hSw.2; go_simp; try with_reducible rfl)
        (try simp only [putz])
        refine WHt 6 ⟨some 16, .move (.tmp 0), 31, _, #[⟨3, .guard⟩], some (3, true)⟩ (v := ?vd6) rfl (by kernel_rfl) (fun _ _ _ h => h) (Or.inl ⟨by rfl, ?hyd6⟩) (by assumption) ?_
        case hyd6 => (intro wz hSw; (try dsimp only at hSw); obtain ⟨z0, z1, z2, z3⟩ := cells4 hSw.1; have z4 := hSw.2; go_simp; try with_reducible rfl)
        (try simp only [putz])
        refine WHt 7 ⟨some 17, .nilCheck (.tmp 16), 0, _, #[⟨6, .data⟩, ⟨3, .guard⟩], some (3, true)⟩ (v := ?vd7) rfl (by kernel_rfl) (fun _ _ _ h => h) (Or.inl ⟨by rfl, ?hyd7⟩) (by assumption) ?_
        case hyd7 => (intro wz hSw; (try dsimp only at hSw); obtain ⟨z0, z1, z2, z3⟩ := cells4 hSw.1; have z4 := hSw.2; go_simp; try with_reducible rfl)
        (try simp only [putz])
        refine WHt 8 ⟨some 18, .fieldAddr 65 (.tmp 17) 1, 0, _, #[⟨7, .data⟩, ⟨3, .guard⟩], some (3, true)⟩ (v := ?vd8) rfl (by kernel_rfl) (fun _ _ _ h => h) (Or.inl ⟨by rfl, ?hyd8⟩) (by assumption) ?_
        case hyd8 => (intro wz hSw; (try dsimp only at hSw); obtain ⟨z0, z1, z2, z3⟩ := cells4 hSw.1; have z4 := hSw.2; go_simp; try with_reducible rfl)
        (try simp only [putz])
        refine WHt 9 ⟨some 19, .load 22 (.tmp 18), 22, _, #[⟨8, .data⟩, ⟨3, .guard⟩], some (3, true)⟩ (v := ?vd9) rfl (by kernel_rfl) (fun _ _ _ h => h) (Or.inl ⟨by rfl, ?hyd9⟩) (by assumption) ?_
        case hyd9 => (intro wz hSw; (try dsimp only at hSw); obtain ⟨z0, z1, z2, z3⟩ := cells4 hSw.1; have z4 := hSw.2; go_simp; try with_reducible rfl)
        (try simp only [putz])
        refine WHt 10 ⟨some 20, .call { callee := .builtin .len, args := #[.tmp 19], argTypes := #[22] }, 3, _, #[⟨9, .data⟩, ⟨3, .guard⟩], some (3, true)⟩ (v := ?vd10) rfl (by kernel_rfl) (fun _ _ _ h => h) (Or.inl ⟨by rfl, ?hyd10⟩) (by assumption) ?_
        case hyd10 => (intro wz hSw; (try dsimp only at hSw); obtain ⟨z0, z1, z2, z3⟩ := cells4 hSw.1; have z4 := hSw.2; go_simp; try with_reducible rfl)
        (try simp only [putz])
        refine WHt 11 ⟨some 21, .binOp .lss 3 (.tmp 15) (.tmp 20) 3, 4, _, #[⟨5, .data⟩, ⟨10, .data⟩, ⟨3, .guard⟩], some (3, true)⟩ (v := ?vd11) rfl (by kernel_rfl) (fun _ _ _ h => h) (Or.inl ⟨by rfl, ?hyd11⟩) (by assumption) ?_
        case hyd11 => (intro wz hSw; (try dsimp only at hSw); obtain ⟨z0, z1, z2, z3⟩ := cells4 hSw.1; have z4 := hSw.2; go_simp; try with_reducible rfl)
        (try simp only [putz])
        refine WHt 12 ⟨some 22, .pick (.tmp 13) (.tmp 21) (.const (.bool false)), 4, _, #[⟨3, .data⟩, ⟨11, .data⟩], none⟩ (v := ?vd12) rfl (by kernel_rfl) (fun _ _ _ h => h) (Or.inl ⟨by rfl, ?hyd12⟩) (by assumption) ?_
        case hyd12 => (intro wz hSw; (try dsimp only at hSw); obtain ⟨z0, z1, z2, z3⟩ := cells4 hSw.1; have z4 := hSw.2; go_simp; try with_reducible rfl)
        (try simp only [putz])
        refine WHt 13 ⟨some 23, .move (.tmp 22), 4, _, #[⟨12, .data⟩, ⟨3, .chain⟩], none⟩ (v := ?vd13) rfl (by kernel_rfl) (fun _ _ _ h => h) (Or.inl ⟨by rfl, ?hyd13⟩) (by assumption) ?_
        case hyd13 => (intro wz hSw; (try dsimp only at hSw); obtain ⟨z0, z1, z2, z3⟩ := cells4 hSw.1; have z4 := hSw.2; go_simp; try with_reducible rfl)
        (try simp only [putz])
        refine WHt 14 ⟨some 24, .move (.tmp 0), 31, _, #[⟨13, .guard⟩], some (13, true)⟩ (v := undef) rfl (by kernel_rfl) (fun _ _ _ h => h) (Or.inr ⟨by rfl, rfl⟩) (by assumption) ?_
        (try simp only [putz])
        refine WHt 15 ⟨some 25, .nilCheck (.tmp 24), 0, _, #[⟨14, .data⟩, ⟨13, .guard⟩], some (13, true)⟩ (v := undef) rfl (by kernel_rfl) (fun _ _ _ h => h) (Or.inr ⟨by rfl, rfl⟩) (by assumption) ?_
        (try simp only [putz])
        refine WHt 16 ⟨some 26, .fieldAddr 65 (.tmp 25) 1, 0, _, #[⟨15, .data⟩, ⟨13, .guard⟩], some (13, true)⟩ (v := undef) rfl (by kernel_rfl) (fun _ _ _ h => h) (Or.inr ⟨by rfl, rfl⟩) (by assumption) ?_
        (try simp only [putz])
        refine WHt 17 ⟨some 27, .load 22 (.tmp 26), 22, _, #[⟨16, .data⟩, ⟨13, .guard⟩], some (13, true)⟩ (v := undef) rfl (by kernel_rfl) (fun _ _ _ h => h) (Or.inr ⟨by rfl, rfl⟩) (by assumption) ?_
        (try simp only [putz])
        refine WHt 18 ⟨some 28, .fieldAddr 24 (.tmp 4) 2, 0, _, #[⟨13, .guard⟩], some (13, true)⟩ (v := undef) rfl (by kernel_rfl) (fun _ _ _ h => h) (Or.inr ⟨by rfl, rfl⟩) (by assumption) ?_
        (try simp only [putz])
        refine WHt 19 ⟨some 29, .load 3 (.tmp 28), 3, _, #[⟨18, .data⟩, ⟨13, .guard⟩], some (13, true)⟩ (v := undef) rfl (by kernel_rfl) (fun _ _ _ h => h) (Or.inr ⟨by rfl, rfl⟩) (by assumption) ?_
        (try simp only [putz])
        refine WHt 20 ⟨some 30, .indexAddr 22 (.tmp 27) (.tmp 29), 0, _, #[⟨17, .data⟩, ⟨19, .data⟩, ⟨13, .guard⟩], some (13, true)⟩ (v := undef) rfl (by kernel_rfl) (fun _ _ _ h => h) (Or.inr ⟨by rfl, rfl⟩) (by assumption) ?_
        (try simp only [putz])
        refine WHt 21 ⟨some 31, .fieldAddr 24 (.tmp 30) 0, 0, _, #[⟨20, .data⟩, ⟨13, .guard⟩], some (13, true)⟩ (v := undef) rfl (by kernel_rfl) (fun _ _ _ h => h) (Or.inr ⟨by rfl, rfl⟩) (by assumption) ?_
        (try simp only [putz])
        refine WHt 22 ⟨some 32, .load 3 (.tmp 31), 3, _, #[⟨21, .data⟩, ⟨13, .guard⟩], some (13, true)⟩ (v := undef) rfl (by kernel_rfl) (fun _ _ _ h => h) (Or.inr ⟨by rfl, rfl⟩) (by assumption) ?_
        (try simp only [putz])
        refine WHt 23 ⟨some 33, .binOp .neq 3 (.tmp 32) (.const (.int .i64 0)) 3, 4, _, #[⟨22, .data⟩, ⟨13, .guard⟩], some (13, true)⟩ (v := undef) rfl (by kernel_rfl) (fun _ _ _ h => h) (Or.inr ⟨by rfl, rfl⟩) (by assumption) ?_
        (try simp only [putz])
        refine WHt 24 ⟨some 34, .pick (.tmp 23) (.tmp 33) (.const (.bool false)), 4, _, #[⟨13, .data⟩, ⟨23, .data⟩], none⟩ (v := ?vd24) rfl (by kernel_rfl) (fun _ _ _ h => h) (Or.inl ⟨by rfl, ?hyd24⟩) (by assumption) ?_
        case hyd24 => (intro wz hSw; (try dsimp only at hSw); obtain ⟨z0, z1, z2, z3⟩ := cells4 hSw.1; have z4 := hSw.2; go_simp; try with_reducible rfl)
        (try simp only [putz])
        refine wpAnyH_done (by kernel_rfl) ?_ _
        go_wp2
        go_loopw [7, 64] (fun nn i wr => ∃ (k : Nat) (q : Int) (K' : List Int), k ≤ V.args.length ∧ i = .int .i64 k ∧ nn = .int .i64 q ∧ 1 ≤ q ∧ q ≤ 501 ∧ Hid (minL (msz St) V.args 1 = minL (msz St) (V.args.drop k) q) ∧ Hid (KnR wr g K') ∧ Hid (KOk St K') ∧ Hid (Frm wB wr (· = g))) (fun _ i _ => V.args.length - (intOf i).toNat)
        case atStart => exact ⟨0, 1, K, by omega, by first | rfl | trivial, rfl, by omega, by omega, Lib.hid rfl, Lib.hid (HKN.out.keep rfl), HKO, Lib.hid ⟨rfl, rfl, rfl, Nat.le_refl _, fun _ _ _ => rfl⟩⟩
        case round =>
          obtain ⟨k, q, K', hk, rfl, rfl, hq1, hq2, HQ, HKN2, HKO2, HF⟩ := hrel
          by_cases hlt : k < V.args.length
          · have hlti : (k : Int) < (V.args.length : Int) := by omega
            obtain ⟨b, o, rfl, hb, hr⟩ := (HA.out.mvg HF.out).at (by omega)
            obtain ⟨A', c', e0, e1, e2, e3, hin⟩ := hr wr (Below.refl _ _) k hlt
            have CALL := Lib.hid (fun W (hW : Below wr.heap.size wr W) => HIA.out NB.out V.args[k] (List.getElem_mem hlt) _ K' W (hin.later hW) ((HSB.out.mv HSG.out HF.out).later hW) (HKN2.out.keep (hW.block g HKN2.out.lt)) HKO2.out)
            have HM := msz_pos HST.out (HSA.out _ (List.getElem_mem hlt))
            have HDROP : Hid (V.args.drop k = V.args[k] :: V.args.drop (k + 1)) := Lib.hid (List.drop_eq_getElem_cons hlt)
            obtain ⟨E, hE⟩ : ∃ E, E = V.args[k] := ⟨_, rfl⟩
            rw [← hE] at e0 e1 e2 e3 CALL HDROP HM
            unfold tv at CALL
            obtain ⟨C, hC⟩ : ∃ z, z = msz St E := ⟨_, rfl⟩
            rw [← hC] at CALL HM
            have NX : Hid (minL (msz St) V.args 1 = minL (msz St) (V.args.drop (k + 1)) (min (q + C) 501)) := Lib.hid (by rw [HQ.out, HDROP.out, minL, ← hC])
            obtain ⟨hm1, hm2⟩ := HM
            clear hr hin hb hE hC HIA
            go_wp2_with fail
            refine (CALL.out _ (below_alloc wr _)).mono ?_; rintro e w2 ⟨rfl, K2, kn2, ko2, f2⟩
            have KN2 := Lib.hid kn2
            have KO2 := Lib.hid ko2
            have F2 := Lib.hid (HF.out.trans ((Frm.of_below (below_alloc wr (.cells #[.int .i64 E.k, .string E.nm, .int .i64 E.vr, .slice A' E.args.length c'] 24)) (Nat.le_refl _) _).trans f2))
            clear kn2 ko2 f2 CALL e0 e1 e2 e3
            go_wp2
            go_roundw
            case rel => exact ⟨k + 1, _, K2, by omega, by go_num, rfl, by omega, by omega, NX, KN2, KO2, F2⟩
            case measure => simp [intOf]; omega
          · have RES : Hid (msz St V = q) := Lib.hid (by rw [msz_stop HST.out HSH.out NB.out, HQ.out, List.drop_of_length_le (by omega), minL])
            have hge : ¬ (k : Int) < (V.args.length : Int) := by omega
            go_wp2
            go_ret
            exact ⟨by rw [RES.out]; rfl, K', HKN2.out, HKO2.out, FB.out.trans HF.out⟩
    · have q7 : (V.k == 7) = false := beq_eq_false_iff_ne.2 h7
      clear h7 hb
      go_enter Tryz.func51, Tryz.ntmps51
      go_wp2_with fail
      try rw [← HWB.out]
      refine wp_region_held_drew (S := fun w' => w'.heap[w.heap.size]? = some (.cells #[.int .i64 V.k, .string V.nm, .int .i64 V.vr, .slice A V.args.length c] 24 (0, 0)) ∧ w'.cell? ⟨sb, 1, none⟩ = some (.slice SA St.length sc)) (by kernel_rfl) ?_ (fun hHeld => ?_)
      · exact ⟨HX.out, HS.out⟩
      refine WHt 0 ⟨some 10, .fieldAddr 24 (.tmp 4) 0, 0, _, #[], none⟩ (v := ?ve0) rfl (by kernel_rfl) (fun _ _ _ h => h) (Or.inl ⟨by rfl, ?hye0⟩) (by assumption) ?_
      case hye0 => (intro wz hSw; (try dsimp only at hSw); obtain ⟨z0, z1, z2, z3⟩ := cells4 hSw.1; have z4 := hSw.2; go_simp; try with_reducible rfl)
      (try simp only [putz])
      refine WHt 1 ⟨some 11, .load 3 (.tmp 10), 3, _, #[⟨0, .data⟩], none⟩ (v := ?ve1) rfl (by kernel_rfl) (fun _ _ _ h => h) (Or.inl ⟨by rfl, ?hye1⟩) (by assumption) ?_
      case hye1 => (intro wz hSw; (try dsimp only at hSw); obtain ⟨z0, z1, z2, z3⟩ := cells4 hSw.1; have z4 := hSw.2; go_simp; try with_reducible rfl)
      (try simp only [putz])
      refine WHt 2 ⟨some 12, .binOp .eql 3 (.tmp 11) (.const (.int .i64 7)) 3, 4, _, #[⟨1, .data⟩], none⟩ (v := ?ve2) rfl (by kernel_rfl) (fun _ _ _ h => h) (Or.inl ⟨by rfl, ?hye2⟩) (by assumption) ?_
      case hye2 => (intro wz hSw; (try dsimp only at hSw); obtain ⟨z0, z1, z2, z3⟩ := cells4 hSw.1; have z4 := hSw.2; go_simp; try with_reducible rfl)
      (try simp only [putz])
      refine WHt 3 ⟨some 13, .move (.tmp 12), 4, _, #[⟨2, .data⟩], none⟩ (v := ?ve3) rfl (by kernel_rfl) (fun _ _ _ h => h) (Or.inl ⟨by rfl, ?hye3⟩) (by assumption) ?_
      case hye3 => (intro wz hSw; (try dsimp only at hSw); obtain ⟨z0, z1, z2, z3⟩ := cells4 hSw.1; have z4 := hSw.2; go_simp; try with_reducible rfl)
      (try simp only [putz])
      refine WHt 4 ⟨some 14, .fieldAddr 24 (.tmp 4) 2, 0, _, #[⟨3, .guard⟩], some (3, true)⟩ (v := undef) rfl (by kernel_rfl) (fun _ _ _ h => h) (Or.inr ⟨by rfl, rfl⟩) (by assumption) ?_
      (try simp only [putz])
      refine WHt 5 ⟨some 15, .load 3 (.tmp 14), 3, _, #[⟨4, .data⟩, ⟨3, .guard⟩], some (3, true)⟩ (v := undef) rfl (by kernel_rfl) (fun _ _ _ h => h) (Or.inr ⟨by rfl, rfl⟩) (by assumption) ?_
      (try simp only [putz])
      refine WHt 6 ⟨some 16, .move (.tmp 0), 31, _, #[⟨3, .guard⟩], some (3, true)⟩ (v := undef) rfl (by kernel_rfl) (fun _ _ _ h => h) (Or.inr ⟨by rfl, rfl⟩) (by assumption) ?_
      (try simp only [putz])
      refine WHt 7 ⟨some 17, .nilCheck (.tmp 16), 0, _, #[⟨6, .data⟩, ⟨3, .guard⟩], some (3, true)⟩ (v := undef) rfl (by kernel_rfl) (fun _ _ _ h => h) (Or.inr ⟨by rfl, rfl⟩) (by assumption) ?_
      (try simp only [putz])
      refine WHt 8 ⟨some 18, .fieldAddr 65 (.tmp 17) 1, 0, _, #[⟨7, .data⟩, ⟨3, .guard⟩], some (3, true)⟩ (v := undef) rfl (by kernel_rfl) (fun _ _ _ h => h) (Or.inr ⟨by rfl, rfl⟩) (by assumption) ?_
      (try simp only [putz])
      refine WHt 9 ⟨some 19, .load 22 (.tmp 18), 22, _, #[⟨8, .data⟩, ⟨3, .guard⟩], some (3, true)⟩ (v := undef) rfl (by kernel_rfl) (fun _ _ _ h => h) (Or.inr ⟨by rfl, rfl⟩) (by assumption) ?_
      (try simp only [putz])
      refine WHt 10 ⟨some 20, .call { callee := .builtin .len, args := #[.tmp 19], argTypes := #[22] }, 3, _, #[⟨9, .data⟩, ⟨3, .guard⟩], some (3, true)⟩ (v := undef) rfl (by kernel_rfl) (fun _ _ _ h => h) (Or.inr ⟨by rfl, rfl⟩) (by assumption) ?_
      (try simp only [putz])
      refine WHt 11 ⟨some 21, .binOp .lss 3 (.tmp 15) (.tmp 20) 3, 4, _, #[⟨5, .data⟩, ⟨10, .data⟩, ⟨3, .guard⟩], some (3, true)⟩ (v := undef) rfl (by kernel_rfl) (fun _ _ _ h => h) (Or.inr ⟨by rfl, rfl⟩) (by assumption) ?_
      (try simp only [putz])
      refine WHt 12 ⟨some 22, .pick (.tmp 13) (.tmp 21) (.const (.bool false)), 4, _, #[⟨3, .data⟩, ⟨11, .data⟩], none⟩ (v := ?ve12) rfl (by kernel_rfl) (fun _ _ _ h => h) (Or.inl ⟨by rfl, ?hye12⟩) (by assumption) ?_
      case hye12 => (intro wz hSw; (try dsimp only at hSw); obtain ⟨z0, z1, z2, z3⟩ := cells4 hSw.1; have z4 := hSw.2; go_simp; try with_reducible rfl)
      (try simp only [putz])
      refine WHt 13 ⟨some 23, .move (.tmp 22), 4, _, #[⟨12, .data⟩, ⟨3, .chain⟩], none⟩ (v := ?ve13) rfl (by kernel_rfl) (fun _ _ _ h => h) (Or.inl ⟨by rfl, ?hye13⟩) (by assumption) ?_
      case hye13 => (intro wz hSw; (try dsimp only at hSw); obtain ⟨z0, z1, z2, z3⟩ := cells4 hSw.1; have z4 := hSw.2; go_simp; try with_reducible rfl)
      (try simp only [putz])
      refine WHt 14 ⟨some 24, .move (.tmp 0), 31, _, #[⟨13, .guard⟩], some (13, true)⟩ (v := undef) rfl (by kernel_rfl) (fun _ _ _ h => h) (Or.inr ⟨by rfl, rfl⟩) (by assumption) ?_
      (try simp only [putz])
      refine WHt 15 ⟨some 25, .nilCheck (.tmp 24), 0, _, #[⟨14, .data⟩, ⟨13, .guard⟩], some (13, true)⟩ (v := undef) rfl (by kernel_rfl) (fun _ _ _ h => h) (Or.inr ⟨by rfl, rfl⟩) (by assumption) ?_
      (try simp only [putz])
      refine WHt 16 ⟨some 26, .fieldAddr 65 (.tmp 25) 1, 0, _, #[⟨15, .data⟩, ⟨13, .guard⟩], some (13, true)⟩ (v := undef) rfl (by kernel_rfl) (fun _ _ _ h => h) (Or.inr ⟨by rfl, rfl⟩) (by assumption) ?_
      (try simp only [putz])
      refine WHt 17 ⟨some 27, .load 22 (.tmp 26), 22, _, #[⟨16, .data⟩, ⟨13, .guard⟩], some (13, true)⟩ (v := undef) rfl (by kernel_rfl) (fun _ _ _ h => h) (Or.inr ⟨by rfl, rfl⟩) (by assumption) ?_
      (try simp only [putz])
      refine WHt 18 ⟨some 28, .fieldAddr 24 (.tmp 4) 2, 0, _, #[⟨13, .guard⟩], some (13, true)⟩ (v := undef) rfl (by kernel_rfl) (fun _ _ _ h => h) (Or.inr ⟨by rfl, rfl⟩) (by assumption) ?_
      (try simp only [putz])
      refine WHt 19 ⟨some 29, .load 3 (.tmp 28), 3, _, #[⟨18, .data⟩, ⟨13, .guard⟩], some (13, true)⟩ (v := undef) rfl (by kernel_rfl) (fun _ _ _ h => h) (Or.inr ⟨by rfl, rfl⟩) (by assumption) ?_
      (try simp only [putz])
      refine WHt 20 ⟨some 30, .indexAddr 22 (.tmp 27) (.tmp 29), 0, _, #[⟨17, .data⟩, ⟨19, .data⟩, ⟨13, .guard⟩], some (13, true)⟩ (v := undef) rfl (by kernel_rfl) (fun _ _ _ h => h) (Or.inr ⟨by rfl, rfl⟩) (by assumption) ?_
      (try simp only [putz])
      refine WHt 21 ⟨some 31, .fieldAddr 24 (.tmp 30) 0, 0, _, #[⟨20, .data⟩, ⟨13, .guard⟩], some (13, true)⟩ (v := undef) rfl (by kernel_rfl) (fun _ _ _ h => h) (Or.inr ⟨by rfl, rfl⟩) (by assumption) ?_
      (try simp only [putz])
      refine WHt 22 ⟨some 32, .load 3 (.tmp 31), 3, _, #[⟨21, .data⟩, ⟨13, .guard⟩], some (13, true)⟩ (v := undef) rfl (by kernel_rfl) (fun _ _ _ h => h) (Or.inr ⟨by rfl, rfl⟩) (by assumption) ?_
      (try simp only [putz])
      refine WHt 23 ⟨some 33, .binOp .neq 3 (.tmp 32) (.const (.int .i64 0)) 3, 4, _, #[⟨22, .data⟩, ⟨13, .guard⟩], some (13, true)⟩ (v := undef) rfl (by kernel_rfl) (fun _ _ _ h => h) (Or.inr ⟨by rfl, rfl⟩) (by assumption) ?_
      (try simp only [putz])
      refine WHt 24 ⟨some 34, .pick (.tmp 23) (.tmp 33) (.const (.bool false)), 4, _, #[⟨13, .data⟩, ⟨23, .data⟩], none⟩ (v := ?ve24) rfl (by kernel_rfl) (fun _ _ _ h => h) (Or.inl ⟨by rfl, ?hye24⟩) (by assumption) ?_
      case hye24 => (intro wz hSw; (try dsimp only at hSw); obtain ⟨z0, z1, z2, z3⟩ := cells4 hSw.1; have z4 := hSw.2; go_simp; try with_reducible rfl)
      (try simp only [putz])
      refine wpAnyH_done (by kernel_rfl) ?_ _
      go_wp2
      go_loopw [7, 64] (fun nn i wr => ∃ (k : Nat) (q : Int) (K' : List Int), k ≤ V.args.length ∧ i = .int .i64 k ∧ nn = .int .i64 q ∧ 1 ≤ q ∧ q ≤ 501 ∧ Hid (minL (msz St) V.args 1 = minL (msz St) (V.args.drop k) q) ∧ Hid (KnR wr g K') ∧ Hid (KOk St K') ∧ Hid (Frm wB wr (· = g))) (fun _ i _ => V.args.length - (intOf i).toNat)
      case atStart => exact ⟨0, 1, K, by omega, by first | rfl | trivial, rfl, by omega, by omega, Lib.hid rfl, Lib.hid (HKN.out.keep rfl), HKO, Lib.hid ⟨rfl, rfl, rfl, Nat.le_refl _, fun _ _ _ => rfl⟩⟩
      case round =>
        obtain ⟨k, q, K', hk, rfl, rfl, hq1, hq2, HQ, HKN2, HKO2, HF⟩ := hrel
        by_cases hlt : k < V.args.length
        · have hlti : (k : Int) < (V.args.length : Int) := by omega
          obtain ⟨b, o, rfl, hb, hr⟩ := (HA.out.mvg HF.out).at (by omega)
          obtain ⟨A', c', e0, e1, e2, e3, hin⟩ := hr wr (Below.refl _ _) k hlt
          have CALL := Lib.hid (fun W (hW : Below wr.heap.size wr W) => HIA.out NB.out V.args[k] (List.getElem_mem hlt) _ K' W (hin.later hW) ((HSB.out.mv HSG.out HF.out).later hW) (HKN2.out.keep (hW.block g HKN2.out.lt)) HKO2.out)
          have HM := msz_pos HST.out (HSA.out _ (List.getElem_mem hlt))
          have HDROP : Hid (V.args.drop k = V.args[k] :: V.args.drop (k + 1)) := Lib.hid (List.drop_eq_getElem_cons hlt)
          obtain ⟨E, hE⟩ : ∃ E, E = V.args[k] := ⟨_, rfl⟩
          rw [← hE] at e0 e1 e2 e3 CALL HDROP HM
          unfold tv at CALL
          obtain ⟨C, hC⟩ : ∃ z, z = msz St E := ⟨_, rfl⟩
          rw [← hC] at CALL HM
          have NX : Hid (minL (msz St) V.args 1 = minL (msz St) (V.args.drop (k + 1)) (min (q + C) 501)) := Lib.hid (by rw [HQ.out, HDROP.out, minL, ← hC])
          obtain ⟨hm1, hm2⟩ := HM
          clear hr hin hb hE hC HIA
          go_wp2_with fail
          refine (CALL.out _ (below_alloc wr _)).mono ?_; rintro e w2 ⟨rfl, K2, kn2, ko2, f2⟩
          have KN2 := Lib.hid kn2
          have KO2 := Lib.hid ko2
          have F2 := Lib.hid (HF.out.trans ((Frm.of_below (below_alloc wr (.cells #[.int .i64 E.k, .string E.nm, .int .i64 E.vr, .slice A' E.args.length c'] 24)) (Nat.le_refl _) _).trans f2))
          clear kn2 ko2 f2 CALL e0 e1 e2 e3
          go_wp2
          go_roundw
          case rel => exact ⟨k + 1, _, K2, by omega, by go_num, rfl, by omega, by omega, NX, KN2, KO2, F2⟩
          case measure => simp [intOf]; omega
        · have RES : Hid (msz St V = q) := Lib.hid (by rw [msz_stop HST.out HSH.out NB.out, HQ.out, List.drop_of_length_le (by omega), minL])
          have hge : ¬ (k : Int) < (V.args.length : Int) := by omega
          go_wp2
          go_ret
          exact ⟨by rw [RES.out]; rfl, K', HKN2.out, HKO2.out, FB.out.trans HF.out⟩
end Go.Proofs.YtifopogkbjhkjaaGreatDoor
