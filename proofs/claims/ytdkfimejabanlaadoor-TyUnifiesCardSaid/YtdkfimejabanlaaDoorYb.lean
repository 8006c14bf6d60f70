import Derived.Test.YtdkfimejabanlaaDoorYa
import Derived.Test.YtdkfimejabanlaaDoorMc
import Derived.Deep.LoopGhost
namespace Go.Proofs.YtdkfimejabanlaaDoor
open DR
open Go.ChangeShapes Go.WideShapes Go.ChangeAt Go.RowKit Go.WideMaps
set_option linter.unusedVariables false
set_option linter.unusedSimpArgs false
abbrev SubY : TypeId := 63
/-- a substitution in memory, to be read. -/
def SubP (w : World) (P : Nat → Prop) (S : Nat) (n : Int) (St : List TT) : Prop := ∃ A c, w.heap[S]? = some (.cells #[.int .i64 n, .slice A St.length c] SubY (0, 0)) ∧ TRow w P A St
abbrev SubR (w : World) (S : Nat) (n : Int) (St : List TT) : Prop := SubP w any0 S n St
theorem SubP.later {w w' : World} {P : Nat → Prop} {S : Nat} {n : Int} {St : List TT} (h : SubP w P S n St) (hb : Below w.heap.size w w') : SubP w' P S n St := by
  obtain ⟨A, c, h1, h2⟩ := h
  exact ⟨A, c, (hb.block S (Array.getElem?_eq_some_iff.1 h1).1).trans h1, h2.later hb⟩
theorem SubP.low {w : World} {P : Nat → Prop} {S : Nat} {n : Int} {St : List TT} (h : SubP w P S n St) : SubP w (· < w.heap.size) S n St := by
  obtain ⟨A, c, h1, h2⟩ := h
  exact ⟨A, c, h1, h2.weak fun b hb _ => hb⟩
/-- what is left of a type when its variable is followed. -/
inductive Res (St : List TT) : TT → TT → Prop
  | stop {t : TT} : ¬ bnd St t → Res St t t
  | step {t T : TT} : bnd St t → Res St (stA St t.vr) T → Res St t T
theorem tv_inj {V : TT} {A A' : Option Addr} {c c' : Nat} (h : tv V A c = tv V A' c') : A = A' ∧ c = c' := by
  unfold tv at h
  simp at h
  exact h
theorem sub_cell {w : World} {S : Nat} {a b : Value} {t : TypeId} {fr : Nat × Nat} (h : w.heap[S]? = some (.cells #[a, b] t fr)) : w.cell? ⟨S, 0, none⟩ = some a ∧ w.cell? ⟨S, 1, none⟩ = some b := by
  refine ⟨?_, ?_⟩ <;> simp [World.cell?, h]
theorem stA_at {St : List TT} {x : Nat} (h : x < St.length) : stA St x = St[x] := by
  unfold stA
  rw [if_pos (by omega), Int.toNat_natCast, List.getD_eq_getElem?_getD, List.getElem?_eq_getElem h]; rfl
theorem stA_out {St : List TT} {x : Nat} (h : ¬ x < St.length) : (stA St x).k = 0 := by
  unfold stA
  rw [if_pos (by omega), Int.toNat_natCast, List.getD_eq_getElem?_getD, List.getElem?_eq_none (by omega)]; rfl
/-- the types behind a slice: what they hold lies in blocks of P. -/
def TRowQ (w : World) (P : Nat → Prop) (A : Option Addr) (l : List TT) : Prop := l.length = 0 ∨ ∃ b o, A = some ⟨b, o, none⟩ ∧ b < w.heap.size ∧ okTL w P l b o
theorem TRowQ.at {w : World} {P : Nat → Prop} {A : Option Addr} {l : List TT} (h : TRowQ w P A l) (hl : 0 < l.length) : ∃ b o, A = some ⟨b, o, none⟩ ∧ b < w.heap.size ∧ ∀ W, Below w.heap.size w W → ∀ i (hi : i < l.length), ∃ A' c', W.cell? ⟨b, o + i * 4, none⟩ = some (.int .i64 l[i].k) ∧ W.cell? ⟨b, o + i * 4 + 1, none⟩ = some (.string l[i].nm) ∧ W.cell? ⟨b, o + i * 4 + 2, none⟩ = some (.int .i64 l[i].vr) ∧ W.cell? ⟨b, o + i * 4 + 3, none⟩ = some (.slice A' l[i].args.length c') ∧ TIn W P l[i] (tv l[i] A' c') := by
  rcases h with h | ⟨b, o, h1, h2, h4⟩
  · omega
  refine ⟨b, o, h1, h2, fun W hW i hi => ?_⟩
  obtain ⟨c0, c1, c2, A', c', c3, hr⟩ := (okT_eq _ _ _ _ _).1 (okTL_at h4 i hi)
  exact ⟨A', c', (hW.cell (p := ⟨b, _, none⟩) h2).trans c0, (hW.cell (p := ⟨b, _, none⟩) h2).trans c1, (hW.cell (p := ⟨b, _, none⟩) h2).trans c2, (hW.cell (p := ⟨b, _, none⟩) h2).trans c3, A', c', rfl, hr.later hW⟩
def SubQ (w : World) (P : Nat → Prop) (S : Nat) (n : Int) (St : List TT) : Prop := ∃ A c, w.heap[S]? = some (.cells #[.int .i64 n, .slice A St.length c] SubY (0, 0)) ∧ TRowQ w P A St
set_option maxRecDepth 100000 in
set_option maxHeartbeats 4000000 in
theorem resolve_anyQ {P : Nat → Prop} {St : List TT} {m : TT → Nat} (hm : ∀ t, bnd St t → m (stA St t.vr) < m t) (hv : ∀ t, bnd St t → (stA St t.vr).k = 7 → 0 ≤ (stA St t.vr).vr) {V : TT} {A : Option Addr} {c sb : Nat} {n : Int} {w : World} (h0 : V.k = 7 → 0 ≤ V.vr) (hV : TRow w P A V.args) (hs : SubQ w P sb n St) :
    Calls Tryd.prog 49 #[.pointer (some ⟨sb, 0, none⟩), tv V A c] w fun e w' => ∃ T A' c', e = .returned (tv T A' c') ∧ TRow w P A' T.args ∧ Res St V T ∧ (T.k = 7 → 0 ≤ T.vr) ∧ Below w.heap.size w w' := by
  unfold tv
  obtain ⟨SA, sc, hs1, hrow⟩ := hs
  have hsl := (Array.getElem?_eq_some_iff.1 hs1).1
  obtain ⟨wB, hwB⟩ : ∃ z, z = (w.alloc (.cells #[.int .i64 V.k, .string V.nm, .int .i64 V.vr, .slice A V.args.length c] 27)).alloc (.cells #[.int .i64 0, .string ⟨#[]⟩, .int .i64 0, .slice none 0 0] 27) := ⟨_, rfl⟩
  have BX := two_box (w := w) (.cells #[.int .i64 V.k, .string V.nm, .int .i64 V.vr, .slice A V.args.length c] 27) (.cells #[.int .i64 0, .string ⟨#[]⟩, .int .i64 0, .slice none 0 0] 27)
  have HB : Hid (Below w.heap.size w wB) := Lib.hid (by rw [hwB]; exact bt (below_alloc w _) (below_alloc _ _))
  have HZ := Lib.hid (show wB.heap.size = w.heap.size + 2 by rw [hwB]; simp)
  rw [← hwB] at BX
  have HX0 := Lib.hid BX.1
  have HY0 := Lib.hid BX.2
  have HSB := Lib.hid ((HB.out.block sb hsl).trans hs1)
  have HSL := Lib.hid hsl
  have HWB := Lib.hid hwB
  have HROW := Lib.hid hrow
  have HV := Lib.hid hV
  have H0 := Lib.hid h0
  have HM := Lib.hid hm
  have HVS := Lib.hid hv
  clear BX hwB hs1 hrow hsl hV h0 hm hv
  go_enter Tryd.func49, Tryd.ntmps49
  go_wp2
  try rw [← HWB.out]
  go_loopg [] (m V) (fun gk wr => ∃ (C : TT) (AC : Option Addr) (cc : Nat), Hid (m C ≤ gk) ∧ Hid (wr.heap[w.heap.size]? = some (.cells #[.int .i64 C.k, .string C.nm, .int .i64 C.vr, .slice AC C.args.length cc] 27 (0, 0))) ∧ Hid (Frm wB wr (· = w.heap.size)) ∧ Hid (TRow w P AC C.args) ∧ Hid (∀ T, Res St C T → Res St V T) ∧ Hid (C.k = 7 → 0 ≤ C.vr))
  case atStart => exact ⟨V, A, c, Lib.hid (Nat.le_refl _), HX0, Lib.hid (Frm.refl _ _), HV, Lib.hid (fun _ h => h), H0⟩
  case round =>
    obtain ⟨C, AC, cc, HG, HX, HF, HR, HRS, HC0⟩ := hrel
    have hz := HZ.out
    have hBr : Below w.heap.size w wr := HB.out.trans (HF.out.below (fun q hq => by have : q = w.heap.size := hq; omega) (by omega))
    have HY := Lib.hid ((HF.out.block (w.heap.size + 1) (by omega) (by show ¬ w.heap.size + 1 = w.heap.size; omega)).trans HY0.out)
    have HS := Lib.hid (sub_cell ((HF.out.block sb (by have := HSL.out; omega) (by have := HSL.out; show ¬ sb = w.heap.size; omega)).trans HSB.out)).2
    have HSZ := Lib.hid (show w.heap.size + 2 ≤ wr.heap.size by have := HF.out.size; omega)
    have HBR := Lib.hid hBr
    have FIN : Hid (¬ bnd St C → ∀ w', w' = ((((wr.setCell ⟨w.heap.size + 1, 0, none⟩ (.int .i64 C.k)).setCell ⟨w.heap.size + 1, 1, none⟩ (.string C.nm)).setCell ⟨w.heap.size + 1, 2, none⟩ (.int .i64 C.vr)).setCell ⟨w.heap.size + 1, 3, none⟩ (.slice AC C.args.length cc)).drew → Below w.heap.size w w') := Lib.hid (by
      rintro hnb w' rfl
      exact (hBr.trans ((frm4 wr (w.heap.size + 1) _ _ _ _).below (B := w.heap.size) (fun q hq => by have : q = w.heap.size + 1 := hq; omega) (by have := HSZ.out; omega))).drew)
    obtain ⟨y0, y1, y2, y3⟩ := cells4 HY.out
    obtain ⟨k0, k1, k2, k3⟩ := froz4 HY.out
    obtain ⟨x0, x1, x2, x3⟩ := cells4 HX.out
    obtain ⟨t0, t1, t2, t3⟩ := cells4 (cells_all (.int .i64 C.k) (.string C.nm) (.int .i64 C.vr) (.slice AC C.args.length cc) HY.out)
    clear hz hBr HB HX0 HY0 HWB HV H0 HSB
    by_cases h7 : C.k = 7
    · have q7 : (C.k == 7) = true := by rw [h7]; rfl
      obtain ⟨x, hx⟩ : ∃ x : Nat, C.vr = x := ⟨C.vr.toNat, by have := HC0.out h7; omega⟩
      have H7 := Lib.hid h7
      have HXV := Lib.hid hx
      rw [hx] at HX x2 t0 t1 t2 t3 FIN
      clear h7 hx
      by_cases hlt : x < St.length
      · have hlti : (x : Int) < (St.length : Int) := by omega
        obtain ⟨b, o, rfl, hb, hr⟩ := HROW.out.at (by omega)
        obtain ⟨A', c', e0, e1, e2, e3, A2, c2, htv, hin⟩ := hr w (Below.refl _ _) x hlt
        obtain ⟨rfl, rfl⟩ := tv_inj htv
        obtain ⟨E, hE⟩ : ∃ E, E = St[x] := ⟨_, rfl⟩
        have HST := Lib.hid (show stA St C.vr = E by rw [HXV.out, stA_at hlt, hE])
        rw [← hE] at e0 e1 e2 e3 hin
        have E0 := Lib.hid ((HBR.out.cell (p := ⟨b, _, none⟩) hb).trans e0)
        have E1 := Lib.hid ((HBR.out.cell (p := ⟨b, _, none⟩) hb).trans e1)
        have E2 := Lib.hid ((HBR.out.cell (p := ⟨b, _, none⟩) hb).trans e2)
        have E3 := Lib.hid ((HBR.out.cell (p := ⟨b, _, none⟩) hb).trans e3)
        have HIN := Lib.hid hin
        clear hr htv hin e0 e1 e2 e3 hE
        by_cases hk : E.k = 0
        · have HK := Lib.hid hk
          have qk : (E.k == 0) = true := by rw [hk]; rfl
          have qk2 : (E.k != 0) = false := by rw [hk]; rfl
          clear hk
          have NB : Hid (¬ bnd St C) := Lib.hid (fun h => h.2 (by rw [HST.out]; exact HK.out))
          go_wp2_with fail
          refine wp_region_held_drew (S := fun w' => w'.heap[w.heap.size]? = some (.cells #[.int .i64 C.k, .string C.nm, .int .i64 (x : Int), .slice AC C.args.length cc] 27 (0, 0)) ∧ w'.cell? ⟨sb, 1, none⟩ = some (.slice (some ⟨b, o, none⟩) St.length sc) ∧ w'.cell? ⟨b, o + x * 4, none⟩ = some (.int .i64 E.k)) (by kernel_rfl) ?_ (fun hHeld => ?_)
          · exact ⟨HX.out, HS.out, E0.out⟩
          refine WHt 0 { dst := some 5, op := .fieldAddr 27 (.tmp 3) 0, type := 0, pos := _, after := #[], guard := none } (v := ?va0) rfl (by kernel_rfl) (fun _ _ _ h => h) (Or.inl ⟨by rfl, ?hya0⟩) (by assumption) ?_
          case hya0 => (intro wz hSw; (try dsimp only at hSw); obtain ⟨z0, z1, z2, z3⟩ := cells4 hSw.1; have z4 := hSw.2.1; have z5 := hSw.2.2; go_simp; try with_reducible rfl)
          (try simp only [putz])
          refine WHt 1 { dst := some 6, op := .load 3 (.tmp 5), type := 3, pos := _, after := #[{ on := 0, ground := .data }], guard := none } (v := ?va1) rfl (by kernel_rfl) (fun _ _ _ h => h) (Or.inl ⟨by rfl, ?hya1⟩) (by assumption) ?_
          case hya1 => (intro wz hSw; (try dsimp only at hSw); obtain ⟨z0, z1, z2, z3⟩ := cells4 hSw.1; have z4 := hSw.2.1; have z5 := hSw.2.2; go_simp; try with_reducible rfl)
          (try simp only [putz])
          refine WHt 2 { dst := some 7, op := .binOp .eql 3 (.tmp 6) (.const (.int .i64 7)) 3, type := 4, pos := _, after := #[{ on := 1, ground := .data }], guard := none } (v := ?va2) rfl (by kernel_rfl) (fun _ _ _ h => h) (Or.inl ⟨by rfl, ?hya2⟩) (by assumption) ?_
          case hya2 => (intro wz hSw; (try dsimp only at hSw); obtain ⟨z0, z1, z2, z3⟩ := cells4 hSw.1; have z4 := hSw.2.1; have z5 := hSw.2.2; go_simp; try with_reducible rfl)
          (try simp only [putz])
          refine WHt 3 { dst := some 8, op := .move (.tmp 7), type := 4, pos := _, after := #[{ on := 2, ground := .data }], guard := none } (v := ?va3) rfl (by kernel_rfl) (fun _ _ _ h => h) (Or.inl ⟨by rfl, ?hya3⟩) (by assumption) ?_
          case hya3 => (intro wz hSw; (try dsimp only at hSw); obtain ⟨z0, z1, z2, z3⟩ := cells4 hSw.1; have z4 := hSw.2.1; have z5 := hSw.2.2; go_simp; try with_reducible rfl)
          (try simp only [putz])
          refine WHt 4 { dst := some 9, op := .fieldAddr 27 (.tmp 3) 2, type := 0, pos := _, after := #[{ on := 3, ground := .guard }], guard := some (3, true) } (v := ?va4) rfl (by kernel_rfl) (fun _ _ _ h => h) (Or.inl ⟨by rfl, ?hya4⟩) (by assumption) ?_
          case hya4 => (intro wz hSw; (try dsimp only at hSw); obtain ⟨z0, z1, z2, z3⟩ := cells4 hSw.1; have z4 := hSw.2.1; have z5 := hSw.2.2; go_simp; try with_reducible rfl)
          (try simp only [putz])
          refine WHt 5 { dst := some 10, op := .load 3 (.tmp 9), type := 3, pos := _, after := #[{ on := 4, ground := .data }, { on := 3, ground := .guard }], guard := some (3, true) } (v := ?va5) rfl (by kernel_rfl) (fun _ _ _ h => h) (Or.inl ⟨by rfl, ?hya5⟩) (by assumption) ?_
          case hya5 => (intro wz hSw; (try dsimp only at hSw); obtain ⟨z0, z1, z2, z3⟩ := cells4 hSw.1; have z4 := hSw.2.1; have z5 := hSw.2.2; go_simp; try with_reducible rfl)
          (try simp only [putz])
          refine WHt 6 { dst := some 11, op := .move (.tmp 0), type := 23, pos := _, after := #[{ on := 3, ground := .guard }], guard := some (3, true) } (v := ?va6) rfl (by kernel_rfl) (fun _ _ _ h => h) (Or.inl ⟨by rfl, ?hya6⟩) (by assumption) ?_
          case hya6 => (intro wz hSw; (try dsimp only at hSw); obtain ⟨z0, z1, z2, z3⟩ := cells4 hSw.1; have z4 := hSw.2.1; have z5 := hSw.2.2; go_simp; try with_reducible rfl)
          (try simp only [putz])
          refine WHt 7 { dst := some 12, op := .nilCheck (.tmp 11), type := 0, pos := _, after := #[{ on := 6, ground := .data }, { on := 3, ground := .guard }], guard := some (3, true) } (v := ?va7) rfl (by kernel_rfl) (fun _ _ _ h => h) (Or.inl ⟨by rfl, ?hya7⟩) (by assumption) ?_
          case hya7 => (intro wz hSw; (try dsimp only at hSw); obtain ⟨z0, z1, z2, z3⟩ := cells4 hSw.1; have z4 := hSw.2.1; have z5 := hSw.2.2; go_simp; try with_reducible rfl)
          (try simp only [putz])
          refine WHt 8 { dst := some 13, op := .fieldAddr 63 (.tmp 12) 1, type := 0, pos := _, after := #[{ on := 7, ground := .data }, { on := 3, ground := .guard }], guard := some (3, true) } (v := ?va8) rfl (by kernel_rfl) (fun _ _ _ h => h) (Or.inl ⟨by rfl, ?hya8⟩) (by assumption) ?_
          case hya8 => (intro wz hSw; (try dsimp only at hSw); obtain ⟨z0, z1, z2, z3⟩ := cells4 hSw.1; have z4 := hSw.2.1; have z5 := hSw.2.2; go_simp; try with_reducible rfl)
          (try simp only [putz])
          refine WHt 9 { dst := some 14, op := .load 25 (.tmp 13), type := 25, pos := _, after := #[{ on := 8, ground := .data }, { on := 3, ground := .guard }], guard := some (3, true) } (v := ?va9) rfl (by kernel_rfl) (fun _ _ _ h => h) (Or.inl ⟨by rfl, ?hya9⟩) (by assumption) ?_
          case hya9 => (intro wz hSw; (try dsimp only at hSw); obtain ⟨z0, z1, z2, z3⟩ := cells4 hSw.1; have z4 := hSw.2.1; have z5 := hSw.2.2; go_simp; try with_reducible rfl)
          (try simp only [putz])
          refine WHt 10 { dst := some 15, op := .call { callee := .builtin .len, args := #[.tmp 14], argTypes := #[25] }, type := 3, pos := _, after := #[{ on := 9, ground := .data }, { on := 3, ground := .guard }], guard := some (3, true) } (v := ?va10) rfl (by kernel_rfl) (fun _ _ _ h => h) (Or.inl ⟨by rfl, ?hya10⟩) (by assumption) ?_
          case hya10 => (intro wz hSw; (try dsimp only at hSw); obtain ⟨z0, z1, z2, z3⟩ := cells4 hSw.1; have z4 := hSw.2.1; have z5 := hSw.2.2; go_simp; try with_reducible rfl)
          (try simp only [putz])
          refine WHt 11 { dst := some 16, op := .binOp .lss 3 (.tmp 10) (.tmp 15) 3, type := 4, pos := _, after := #[{ on := 5, ground := .data }, { on := 10, ground := .data }, { on := 3, ground := .guard }], guard := some (3, true) } (v := ?va11) rfl (by kernel_rfl) (fun _ _ _ h => h) (Or.inl ⟨by rfl, ?hya11⟩) (by assumption) ?_
          case hya11 => (intro wz hSw; (try dsimp only at hSw); obtain ⟨z0, z1, z2, z3⟩ := cells4 hSw.1; have z4 := hSw.2.1; have z5 := hSw.2.2; go_simp; try with_reducible rfl)
          (try simp only [putz])
          refine WHt 12 { dst := some 17, op := .pick (.tmp 8) (.tmp 16) (.const (.bool false)), type := 4, pos := _, after := #[{ on := 3, ground := .data }, { on := 11, ground := .data }], guard := none } (v := ?va12) rfl (by kernel_rfl) (fun _ _ _ h => h) (Or.inl ⟨by rfl, ?hya12⟩) (by assumption) ?_
          case hya12 => (intro wz hSw; (try dsimp only at hSw); obtain ⟨z0, z1, z2, z3⟩ := cells4 hSw.1; have z4 := hSw.2.1; have z5 := hSw.2.2; go_simp; try with_reducible rfl)
          (try simp only [putz])
          refine WHt 13 { dst := some 18, op := .move (.tmp 17), type := 4, pos := _, after := #[{ on := 12, ground := .data }, { on := 3, ground := .chain }], guard := none } (v := ?va13) rfl (by kernel_rfl) (fun _ _ _ h => h) (Or.inl ⟨by rfl, ?hya13⟩) (by assumption) ?_
          case hya13 => (intro wz hSw; (try dsimp only at hSw); obtain ⟨z0, z1, z2, z3⟩ := cells4 hSw.1; have z4 := hSw.2.1; have z5 := hSw.2.2; go_simp; try with_reducible rfl)
          (try simp only [putz])
          refine WHt 14 { dst := some 19, op := .move (.tmp 0), type := 23, pos := _, after := #[{ on := 13, ground := .guard }], guard := some (13, true) } (v := ?va14) rfl (by kernel_rfl) (fun _ _ _ h => h) (Or.inl ⟨by rfl, ?hya14⟩) (by assumption) ?_
          case hya14 => (intro wz hSw; (try dsimp only at hSw); obtain ⟨z0, z1, z2, z3⟩ := cells4 hSw.1; have z4 := hSw.2.1; have z5 := hSw.2.2; go_simp; try with_reducible rfl)
          (try simp only [putz])
          refine WHt 15 { dst := some 20, op := .nilCheck (.tmp 19), type := 0, pos := _, after := #[{ on := 14, ground := .data }, { on := 13, ground := .guard }], guard := some (13, true) } (v := ?va15) rfl (by kernel_rfl) (fun _ _ _ h => h) (Or.inl ⟨by rfl, ?hya15⟩) (by assumption) ?_
          case hya15 => (intro wz hSw; (try dsimp only at hSw); obtain ⟨z0, z1, z2, z3⟩ := cells4 hSw.1; have z4 := hSw.2.1; have z5 := hSw.2.2; go_simp; try with_reducible rfl)
          (try simp only [putz])
          refine WHt 16 { dst := some 21, op := .fieldAddr 63 (.tmp 20) 1, type := 0, pos := _, after := #[{ on := 15, ground := .data }, { on := 13, ground := .guard }], guard := some (13, true) } (v := ?va16) rfl (by kernel_rfl) (fun _ _ _ h => h) (Or.inl ⟨by rfl, ?hya16⟩) (by assumption) ?_
          case hya16 => (intro wz hSw; (try dsimp only at hSw); obtain ⟨z0, z1, z2, z3⟩ := cells4 hSw.1; have z4 := hSw.2.1; have z5 := hSw.2.2; go_simp; try with_reducible rfl)
          (try simp only [putz])
          refine WHt 17 { dst := some 22, op := .load 25 (.tmp 21), type := 25, pos := _, after := #[{ on := 16, ground := .data }, { on := 13, ground := .guard }], guard := some (13, true) } (v := ?va17) rfl (by kernel_rfl) (fun _ _ _ h => h) (Or.inl ⟨by rfl, ?hya17⟩) (by assumption) ?_
          case hya17 => (intro wz hSw; (try dsimp only at hSw); obtain ⟨z0, z1, z2, z3⟩ := cells4 hSw.1; have z4 := hSw.2.1; have z5 := hSw.2.2; go_simp; try with_reducible rfl)
          (try simp only [putz])
          refine WHt 18 { dst := some 23, op := .fieldAddr 27 (.tmp 3) 2, type := 0, pos := _, after := #[{ on := 13, ground := .guard }], guard := some (13, true) } (v := ?va18) rfl (by kernel_rfl) (fun _ _ _ h => h) (Or.inl ⟨by rfl, ?hya18⟩) (by assumption) ?_
          case hya18 => (intro wz hSw; (try dsimp only at hSw); obtain ⟨z0, z1, z2, z3⟩ := cells4 hSw.1; have z4 := hSw.2.1; have z5 := hSw.2.2; go_simp; try with_reducible rfl)
          (try simp only [putz])
          refine WHt 19 { dst := some 24, op := .load 3 (.tmp 23), type := 3, pos := _, after := #[{ on := 18, ground := .data }, { on := 13, ground := .guard }], guard := some (13, true) } (v := ?va19) rfl (by kernel_rfl) (fun _ _ _ h => h) (Or.inl ⟨by rfl, ?hya19⟩) (by assumption) ?_
          case hya19 => (intro wz hSw; (try dsimp only at hSw); obtain ⟨z0, z1, z2, z3⟩ := cells4 hSw.1; have z4 := hSw.2.1; have z5 := hSw.2.2; go_simp; try with_reducible rfl)
          (try simp only [putz])
          refine WHt 20 { dst := some 25, op := .indexAddr 25 (.tmp 22) (.tmp 24), type := 0, pos := _, after := #[{ on := 17, ground := .data }, { on := 19, ground := .data }, { on := 13, ground := .guard }], guard := some (13, true) } (v := ?va20) rfl (by kernel_rfl) (fun _ _ _ h => h) (Or.inl ⟨by rfl, ?hya20⟩) (by assumption) ?_
          case hya20 => (intro wz hSw; (try dsimp only at hSw); obtain ⟨z0, z1, z2, z3⟩ := cells4 hSw.1; have z4 := hSw.2.1; have z5 := hSw.2.2; go_simp; try with_reducible rfl)
          (try simp only [putz])
          refine WHt 21 { dst := some 26, op := .fieldAddr 27 (.tmp 25) 0, type := 0, pos := _, after := #[{ on := 20, ground := .data }, { on := 13, ground := .guard }], guard := some (13, true) } (v := ?va21) rfl (by kernel_rfl) (fun _ _ _ h => h) (Or.inl ⟨by rfl, ?hya21⟩) (by assumption) ?_
          case hya21 => (intro wz hSw; (try dsimp only at hSw); obtain ⟨z0, z1, z2, z3⟩ := cells4 hSw.1; have z4 := hSw.2.1; have z5 := hSw.2.2; go_simp; try with_reducible rfl)
          (try simp only [putz])
          refine WHt 22 { dst := some 27, op := .load 3 (.tmp 26), type := 3, pos := _, after := #[{ on := 21, ground := .data }, { on := 13, ground := .guard }], guard := some (13, true) } (v := ?va22) rfl (by kernel_rfl) (fun _ _ _ h => h) (Or.inl ⟨by rfl, ?hya22⟩) (by assumption) ?_
          case hya22 => (intro wz hSw; (try dsimp only at hSw); obtain ⟨z0, z1, z2, z3⟩ := cells4 hSw.1; have z4 := hSw.2.1; have z5 := hSw.2.2; go_simp; try with_reducible rfl)
          (try simp only [putz])
          refine WHt 23 { dst := some 28, op := .binOp .neq 3 (.tmp 27) (.const (.int .i64 0)) 3, type := 4, pos := _, after := #[{ on := 22, ground := .data }, { on := 13, ground := .guard }], guard := some (13, true) } (v := ?va23) rfl (by kernel_rfl) (fun _ _ _ h => h) (Or.inl ⟨by rfl, ?hya23⟩) (by assumption) ?_
          case hya23 => (intro wz hSw; (try dsimp only at hSw); obtain ⟨z0, z1, z2, z3⟩ := cells4 hSw.1; have z4 := hSw.2.1; have z5 := hSw.2.2; go_simp; try with_reducible rfl)
          (try simp only [putz])
          refine WHt 24 { dst := some 29, op := .pick (.tmp 18) (.tmp 28) (.const (.bool false)), type := 4, pos := _, after := #[{ on := 13, ground := .data }, { on := 23, ground := .data }], guard := none } (v := ?va24) rfl (by kernel_rfl) (fun _ _ _ h => h) (Or.inl ⟨by rfl, ?hya24⟩) (by assumption) ?_
          case hya24 => (intro wz hSw; (try dsimp only at hSw); obtain ⟨z0, z1, z2, z3⟩ := cells4 hSw.1; have z4 := hSw.2.1; have z5 := hSw.2.2; go_simp; try with_reducible rfl)
          (try simp only [putz])
          refine wpAnyH_done (by kernel_rfl) ?_ _
          go_wp2
          (try simp only [Exit.inBlock, Exit.then])
          refine bodyPost_ret (by simp [results, Tryd.results49, go_sem, t0, t1, t2, t3]; try rfl) rfl ?_
          exact ⟨C, AC, cc, by rw [HXV.out], HR.out, HRS.out _ (.stop NB.out), HC0.out, FIN.out NB.out _ rfl⟩
        · have HK := Lib.hid hk
          have qk : (E.k == 0) = false := beq_eq_false_iff_ne.2 hk
          have qk2 : (E.k != 0) = true := by simp [bne, qk]
          clear hk
          have BN : Hid (bnd St C) := Lib.hid ⟨H7.out, by rw [HST.out]; exact HK.out⟩
          obtain ⟨f0, f1, f2, f3⟩ := froz4 HX.out
          go_wp2_with fail
          refine wp_region_held_drew (S := fun w' => w'.heap[w.heap.size]? = some (.cells #[.int .i64 C.k, .string C.nm, .int .i64 (x : Int), .slice AC C.args.length cc] 27 (0, 0)) ∧ w'.cell? ⟨sb, 1, none⟩ = some (.slice (some ⟨b, o, none⟩) St.length sc) ∧ w'.cell? ⟨b, o + x * 4, none⟩ = some (.int .i64 E.k)) (by kernel_rfl) ?_ (fun hHeld => ?_)
          · exact ⟨HX.out, HS.out, E0.out⟩
          refine WHt 0 { dst := some 5, op := .fieldAddr 27 (.tmp 3) 0, type := 0, pos := _, after := #[], guard := none } (v := ?vb0) rfl (by kernel_rfl) (fun _ _ _ h => h) (Or.inl ⟨by rfl, ?hyb0⟩) (by assumption) ?_
          case hyb0 => (intro wz hSw; (try dsimp only at hSw); obtain ⟨z0, z1, z2, z3⟩ := cells4 hSw.1; have z4 := hSw.2.1; have z5 := hSw.2.2; go_simp; try with_reducible rfl)
          (try simp only [putz])
          refine WHt 1 { dst := some 6, op := .load 3 (.tmp 5), type := 3, pos := _, after := #[{ on := 0, ground := .data }], guard := none } (v := ?vb1) rfl (by kernel_rfl) (fun _ _ _ h => h) (Or.inl ⟨by rfl, ?hyb1⟩) (by assumption) ?_
          case hyb1 => (intro wz hSw; (try dsimp only at hSw); obtain ⟨z0, z1, z2, z3⟩ := cells4 hSw.1; have z4 := hSw.2.1; have z5 := hSw.2.2; go_simp; try with_reducible rfl)
          (try simp only [putz])
          refine WHt 2 { dst := some 7, op := .binOp .eql 3 (.tmp 6) (.const (.int .i64 7)) 3, type := 4, pos := _, after := #[{ on := 1, ground := .data }], guard := none } (v := ?vb2) rfl (by kernel_rfl) (fun _ _ _ h => h) (Or.inl ⟨by rfl, ?hyb2⟩) (by assumption) ?_
          case hyb2 => (intro wz hSw; (try dsimp only at hSw); obtain ⟨z0, z1, z2, z3⟩ := cells4 hSw.1; have z4 := hSw.2.1; have z5 := hSw.2.2; go_simp; try with_reducible rfl)
          (try simp only [putz])
          refine WHt 3 { dst := some 8, op := .move (.tmp 7), type := 4, pos := _, after := #[{ on := 2, ground := .data }], guard := none } (v := ?vb3) rfl (by kernel_rfl) (fun _ _ _ h => h) (Or.inl ⟨by rfl, ?hyb3⟩) (by assumption) ?_
          case hyb3 => (intro wz hSw; (try dsimp only at hSw); obtain ⟨z0, z1, z2, z3⟩ := cells4 hSw.1; have z4 := hSw.2.1; have z5 := hSw.2.2; go_simp; try with_reducible rfl)
          (try simp only [putz])
          refine WHt 4 { dst := some 9, op := .fieldAddr 27 (.tmp 3) 2, type := 0, pos := _, after := #[{ on := 3, ground := .guard }], guard := some (3, true) } (v := ?vb4) rfl (by kernel_rfl) (fun _ _ _ h => h) (Or.inl ⟨by rfl, ?hyb4⟩) (by assumption) ?_
          case hyb4 => (intro wz hSw; (try dsimp only at hSw); obtain ⟨z0, z1, z2, z3⟩ := cells4 hSw.1; have z4 := hSw.2.1; have z5 := hSw.2.2; go_simp; try with_reducible rfl)
          (try simp only [putz])
          refine WHt 5 { dst := some 10, op := .load 3 (.tmp 9), type := 3, pos := _, after := #[{ on := 4, ground := .data }, { on := 3, ground := .guard }], guard := some (3, true) } (v := ?vb5) rfl (by kernel_rfl) (fun _ _ _ h => h) (Or.inl ⟨by rfl, ?hyb5⟩) (by assumption) ?_
          case hyb5 => (intro wz hSw; (try dsimp only at hSw); obtain ⟨z0, z1, z2, z3⟩ := cells4 hSw.1; have z4 := hSw.2.1; have z5 := hSw.2.2; go_simp; try with_reducible rfl)
          (try simp only [putz])
          refine WHt 6 { dst := some 11, op := .move (.tmp 0), type := 23, pos := _, after := #[{ on := 3, ground := .guard }], guard := some (3, true) } (v := ?vb6) rfl (by kernel_rfl) (fun _ _ _ h => h) (Or.inl ⟨by rfl, ?hyb6⟩) (by assumption) ?_
          case hyb6 => (intro wz hSw; (try dsimp only at hSw); obtain ⟨z0, z1, z2, z3⟩ := cells4 hSw.1; have z4 := hSw.2.1; have z5 := hSw.2.2; go_simp; try with_reducible rfl)
          (try simp only [putz])
          refine WHt 7 { dst := some 12, op := .nilCheck (.tmp 11), type := 0, pos := _, after := #[{ on := 6, ground := .data }, { on := 3, ground := .guard }], guard := some (3, true) } (v := ?vb7) rfl (by kernel_rfl) (fun _ _ _ h => h) (Or.inl ⟨by rfl, ?hyb7⟩) (by assumption) ?_
          case hyb7 => (intro wz hSw; (try dsimp only at hSw); obtain ⟨z0, z1, z2, z3⟩ := cells4 hSw.1; have z4 := hSw.2.1; have z5 := hSw.2.2; go_simp; try with_reducible rfl)
          (try simp only [putz])
          refine WHt 8 { dst := some 13, op := .fieldAddr 63 (.tmp 12) 1, type := 0, pos := _, after := #[{ on := 7, ground := .data }, { on := 3, ground := .guard }], guard := some (3, true) } (v := ?vb8) rfl (by kernel_rfl) (fun _ _ _ h => h) (Or.inl ⟨by rfl, ?hyb8⟩) (by assumption) ?_
          case hyb8 => (intro wz hSw; (try dsimp only at hSw); obtain ⟨z0, z1, z2, z3⟩ := cells4 hSw.1; have z4 := hSw.2.1; have z5 := hSw.2.2; go_simp; try with_reducible rfl)
          (try simp only [putz])
          refine WHt 9 { dst := some 14, op := .load 25 (.tmp 13), type := 25, pos := _, after := #[{ on := 8, ground := .data }, { on := 3, ground := .guard }], guard := some (3, true) } (v := ?vb9) rfl (by kernel_rfl) (fun _ _ _ h => h) (Or.inl ⟨by rfl, ?hyb9⟩) (by assumption) ?_
          case hyb9 => (intro wz hSw; (try dsimp only at hSw); obtain ⟨z0, z1, z2, z3⟩ := cells4 hSw.1; have z4 := hSw.2.1; have z5 := hSw.2.2; go_simp; try with_reducible rfl)
          (try simp only [putz])
          refine WHt 10 { dst := some 15, op := .call { callee := .builtin .len, args := #[.tmp 14], argTypes := #[25] }, type := 3, pos := _, after := #[{ on := 9, ground := .data }, { on := 3, ground := .guard }], guard := some (3, true) } (v := ?vb10) rfl (by kernel_rfl) (fun _ _ _ h => h) (Or.inl ⟨by rfl, ?hyb10⟩) (by assumption) ?_
          case hyb10 => (intro wz hSw; (try dsimp only at hSw); obtain ⟨z0, z1, z2, z3⟩ := cells4 hSw.1; have z4 := hSw.2.1; have z5 := hSw.2.2; go_simp; try with_reducible rfl)
          (try simp only [putz])
          refine WHt 11 { dst := some 16, op := .binOp .lss 3 (.tmp 10) (.tmp 15) 3, type := 4, pos := _, after := #[{ on := 5, ground := .data }, { on := 10, ground := .data }, { on := 3, ground := .guard }], guard := some (3, true) } (v := ?vb11) rfl (by kernel_rfl) (fun _ _ _ h => h) (Or.inl ⟨by rfl, ?hyb11⟩) (by assumption) ?_
          case hyb11 => (intro wz hSw; (try dsimp only at hSw); obtain ⟨z0, z1, z2, z3⟩ := cells4 hSw.1; have z4 := hSw.2.1; have z5 := hSw.2.2; go_simp; try with_reducible rfl)
          (try simp only [putz])
          refine WHt 12 { dst := some 17, op := .pick (.tmp 8) (.tmp 16) (.const (.bool false)), type := 4, pos := _, after := #[{ on := 3, ground := .data }, { on := 11, ground := .data }], guard := none } (v := ?vb12) rfl (by kernel_rfl) (fun _ _ _ h => h) (Or.inl ⟨by rfl, ?hyb12⟩) (by assumption) ?_
          case hyb12 => (intro wz hSw; (try dsimp only at hSw); obtain ⟨z0, z1, z2, z3⟩ := cells4 hSw.1; have z4 := hSw.2.1; have z5 := hSw.2.2; go_simp; try with_reducible rfl)
          (try simp only [putz])
          refine WHt 13 { dst := some 18, op := .move (.tmp 17), type := 4, pos := _, after := #[{ on := 12, ground := .data }, { on := 3, ground := .chain }], guard := none } (v := ?vb13) rfl (by kernel_rfl) (fun _ _ _ h => h) (Or.inl ⟨by rfl, ?hyb13⟩) (by assumption) ?_
          case hyb13 => (intro wz hSw; (try dsimp only at hSw); obtain ⟨z0, z1, z2, z3⟩ := cells4 hSw.1; have z4 := hSw.2.1; have z5 := hSw.2.2; go_simp; try with_reducible rfl)
          (try simp only [putz])
          refine WHt 14 { dst := some 19, op := .move (.tmp 0), type := 23, pos := _, after := #[{ on := 13, ground := .guard }], guard := some (13, true) } (v := ?vb14) rfl (by kernel_rfl) (fun _ _ _ h => h) (Or.inl ⟨by rfl, ?hyb14⟩) (by assumption) ?_
          case hyb14 => (intro wz hSw; (try dsimp only at hSw); obtain ⟨z0, z1, z2, z3⟩ := cells4 hSw.1; have z4 := hSw.2.1; have z5 := hSw.2.2; go_simp; try with_reducible rfl)
          (try simp only [putz])
          refine WHt 15 { dst := some 20, op := .nilCheck (.tmp 19), type := 0, pos := _, after := #[{ on := 14, ground := .data }, { on := 13, ground := .guard }], guard := some (13, true) } (v := ?vb15) rfl (by kernel_rfl) (fun _ _ _ h => h) (Or.inl ⟨by rfl, ?hyb15⟩) (by assumption) ?_
          case hyb15 => (intro wz hSw; (try dsimp only at hSw); obtain ⟨z0, z1, z2, z3⟩ := cells4 hSw.1; have z4 := hSw.2.1; have z5 := hSw.2.2; go_simp; try with_reducible rfl)
          (try simp only [putz])
          refine WHt 16 { dst := some 21, op := .fieldAddr 63 (.tmp 20) 1, type := 0, pos := _, after := #[{ on := 15, ground := .data }, { on := 13, ground := .guard }], guard := some (13, true) } (v := ?vb16) rfl (by kernel_rfl) (fun _ _ _ h => h) (Or.inl ⟨by rfl, ?hyb16⟩) (by assumption) ?_
          case hyb16 => (intro wz hSw; (try dsimp only at hSw); obtain ⟨z0, z1, z2, z3⟩ := cells4 hSw.1; have z4 := hSw.2.1; have z5 := hSw.2.2; go_simp; try with_reducible rfl)
          (try simp only [putz])
          refine WHt 17 { dst := some 22, op := .load 25 (.tmp 21), type := 25, pos := _, after := #[{ on := 16, ground := .data }, { on := 13, ground := .guard }], guard := some (13, true) } (v := ?vb17) rfl (by kernel_rfl) (fun _ _ _ h => h) (Or.inl ⟨by rfl, ?hyb17⟩) (by assumption) ?_
          case hyb17 => (intro wz hSw; (try dsimp only at hSw); obtain ⟨z0, z1, z2, z3⟩ := cells4 hSw.1; have z4 := hSw.2.1; have z5 := hSw.2.2; go_simp; try with_reducible rfl)
          (try simp only [putz])
          refine WHt 18 { dst := some 23, op := .fieldAddr 27 (.tmp 3) 2, type := 0, pos := _, after := #[{ on := 13, ground := .guard }], guard := some (13, true) } (v := ?vb18) rfl (by kernel_rfl) (fun _ _ _ h => h) (Or.inl ⟨by rfl, ?hyb18⟩) (by assumption) ?_
          case hyb18 => (intro wz hSw; (try dsimp only at hSw); obtain ⟨z0, z1, z2, z3⟩ := cells4 hSw.1; have z4 := hSw.2.1; have z5 := hSw.2.2; go_simp; try with_reducible rfl)
          (try simp only [putz])
          refine WHt 19 { dst := some 24, op := .load 3 (.tmp 23), type := 3, pos := _, after := #[{ on := 18, ground := .data }, { on := 13, ground := .guard }], guard := some (13, true) } (v := ?vb19) rfl (by kernel_rfl) (fun _ _ _ h => h) (Or.inl ⟨by rfl, ?hyb19⟩) (by assumption) ?_
          case hyb19 => (intro wz hSw; (try dsimp only at hSw); obtain ⟨z0, z1, z2, z3⟩ := cells4 hSw.1; have z4 := hSw.2.1; have z5 := hSw.2.2; go_simp; try with_reducible rfl)
          (try simp only [putz])
          refine WHt 20 { dst := some 25, op := .indexAddr 25 (.tmp 22) (.tmp 24), type := 0, pos := _, after := #[{ on := 17, ground := .data }, { on := 19, ground := .data }, { on := 13, ground := .guard }], guard := some (13, true) } (v := ?vb20) rfl (by kernel_rfl) (fun _ _ _ h => h) (Or.inl ⟨by rfl, ?hyb20⟩) (by assumption) ?_
          case hyb20 => (intro wz hSw; (try dsimp only at hSw); obtain ⟨z0, z1, z2, z3⟩ := cells4 hSw.1; have z4 := hSw.2.1; have z5 := hSw.2.2; go_simp; try with_reducible rfl)
          (try simp only [putz])
          refine WHt 21 { dst := some 26, op := .fieldAddr 27 (.tmp 25) 0, type := 0, pos := _, after := #[{ on := 20, ground := .data }, { on := 13, ground := .guard }], guard := some (13, true) } (v := ?vb21) rfl (by kernel_rfl) (fun _ _ _ h => h) (Or.inl ⟨by rfl, ?hyb21⟩) (by assumption) ?_
          case hyb21 => (intro wz hSw; (try dsimp only at hSw); obtain ⟨z0, z1, z2, z3⟩ := cells4 hSw.1; have z4 := hSw.2.1; have z5 := hSw.2.2; go_simp; try with_reducible rfl)
          (try simp only [putz])
          refine WHt 22 { dst := some 27, op := .load 3 (.tmp 26), type := 3, pos := _, after := #[{ on := 21, ground := .data }, { on := 13, ground := .guard }], guard := some (13, true) } (v := ?vb22) rfl (by kernel_rfl) (fun _ _ _ h => h) (Or.inl ⟨by rfl, ?hyb22⟩) (by assumption) ?_
          case hyb22 => (intro wz hSw; (try dsimp only at hSw); obtain ⟨z0, z1, z2, z3⟩ := cells4 hSw.1; have z4 := hSw.2.1; have z5 := hSw.2.2; go_simp; try with_reducible rfl)
          (try simp only [putz])
          refine WHt 23 { dst := some 28, op := .binOp .neq 3 (.tmp 27) (.const (.int .i64 0)) 3, type := 4, pos := _, after := #[{ on := 22, ground := .data }, { on := 13, ground := .guard }], guard := some (13, true) } (v := ?vb23) rfl (by kernel_rfl) (fun _ _ _ h => h) (Or.inl ⟨by rfl, ?hyb23⟩) (by assumption) ?_
          case hyb23 => (intro wz hSw; (try dsimp only at hSw); obtain ⟨z0, z1, z2, z3⟩ := cells4 hSw.1; have z4 := hSw.2.1; have z5 := hSw.2.2; go_simp; try with_reducible rfl)
          (try simp only [putz])
          refine WHt 24 { dst := some 29, op := .pick (.tmp 18) (.tmp 28) (.const (.bool false)), type := 4, pos := _, after := #[{ on := 13, ground := .data }, { on := 23, ground := .data }], guard := none } (v := ?vb24) rfl (by kernel_rfl) (fun _ _ _ h => h) (Or.inl ⟨by rfl, ?hyb24⟩) (by assumption) ?_
          case hyb24 => (intro wz hSw; (try dsimp only at hSw); obtain ⟨z0, z1, z2, z3⟩ := cells4 hSw.1; have z4 := hSw.2.1; have z5 := hSw.2.2; go_simp; try with_reducible rfl)
          (try simp only [putz])
          refine wpAnyH_done (by kernel_rfl) ?_ _
          go_wp2_with fail
          refine wp_region_D [8] (fun w' => (w'.heap[w.heap.size]? = some (.cells #[.int .i64 C.k, .string C.nm, .int .i64 (x : Int), .slice AC C.args.length cc] 27 (0, 0)) ∧ w'.cell? ⟨sb, 1, none⟩ = some (.slice (some ⟨b, o, none⟩) St.length sc)) ∧ w'.cell? ⟨b, o + x * 4, none⟩ = some (.int .i64 E.k) ∧ w'.cell? ⟨b, o + x * 4 + 1, none⟩ = some (.string E.nm) ∧ w'.cell? ⟨b, o + x * 4 + 2, none⟩ = some (.int .i64 E.vr) ∧ w'.cell? ⟨b, o + x * 4 + 3, none⟩ = some (.slice A' E.args.length c')) (by kernel_rfl) (⟨⟨HX.out, HS.out⟩, E0.out, E1.out, E2.out, E3.out⟩) (fun hHeld => ?_)
          refine WDt 0 { dst := some 30, op := .move (.tmp 0), type := 23, pos := _, after := #[], guard := none } (v := ?vc0) rfl (by kernel_rfl) (fun _ _ _ h => h) (Or.inl ⟨by rfl, ?hyc0⟩) hHeld ?_
          case hyc0 => (intro wz hSw; (try dsimp only at hSw); obtain ⟨z0, z1, z2, z3⟩ := cells4 hSw.1.1; have z4 := hSw.1.2; have z5 := hSw.2.1; have z6 := hSw.2.2.1; have z7 := hSw.2.2.2.1; have z8 := hSw.2.2.2.2; go_simp; try with_reducible rfl)
          (try simp only [putz])
          refine WDt 1 { dst := some 31, op := .nilCheck (.tmp 30), type := 0, pos := _, after := #[{ on := 0, ground := .data }], guard := none } (v := ?vc1) rfl (by kernel_rfl) (fun _ _ _ h => h) (Or.inl ⟨by rfl, ?hyc1⟩) hHeld ?_
          case hyc1 => (intro wz hSw; (try dsimp only at hSw); obtain ⟨z0, z1, z2, z3⟩ := cells4 hSw.1.1; have z4 := hSw.1.2; have z5 := hSw.2.1; have z6 := hSw.2.2.1; have z7 := hSw.2.2.2.1; have z8 := hSw.2.2.2.2; go_simp; try with_reducible rfl)
          (try simp only [putz])
          refine WDt 2 { dst := some 32, op := .fieldAddr 63 (.tmp 31) 1, type := 0, pos := _, after := #[{ on := 1, ground := .data }], guard := none } (v := ?vc2) rfl (by kernel_rfl) (fun _ _ _ h => h) (Or.inl ⟨by rfl, ?hyc2⟩) hHeld ?_
          case hyc2 => (intro wz hSw; (try dsimp only at hSw); obtain ⟨z0, z1, z2, z3⟩ := cells4 hSw.1.1; have z4 := hSw.1.2; have z5 := hSw.2.1; have z6 := hSw.2.2.1; have z7 := hSw.2.2.2.1; have z8 := hSw.2.2.2.2; go_simp; try with_reducible rfl)
          (try simp only [putz])
          refine WDt 3 { dst := some 33, op := .load 25 (.tmp 32), type := 25, pos := _, after := #[{ on := 2, ground := .data }], guard := none } (v := ?vc3) rfl (by kernel_rfl) (fun _ _ _ h => h) (Or.inl ⟨by rfl, ?hyc3⟩) hHeld ?_
          case hyc3 => (intro wz hSw; (try dsimp only at hSw); obtain ⟨z0, z1, z2, z3⟩ := cells4 hSw.1.1; have z4 := hSw.1.2; have z5 := hSw.2.1; have z6 := hSw.2.2.1; have z7 := hSw.2.2.2.1; have z8 := hSw.2.2.2.2; go_simp; try with_reducible rfl)
          (try simp only [putz])
          refine WDt 4 { dst := some 34, op := .fieldAddr 27 (.tmp 3) 2, type := 0, pos := _, after := #[], guard := none } (v := ?vc4) rfl (by kernel_rfl) (fun _ _ _ h => h) (Or.inl ⟨by rfl, ?hyc4⟩) hHeld ?_
          case hyc4 => (intro wz hSw; (try dsimp only at hSw); obtain ⟨z0, z1, z2, z3⟩ := cells4 hSw.1.1; have z4 := hSw.1.2; have z5 := hSw.2.1; have z6 := hSw.2.2.1; have z7 := hSw.2.2.2.1; have z8 := hSw.2.2.2.2; go_simp; try with_reducible rfl)
          (try simp only [putz])
          refine WDt 5 { dst := some 35, op := .load 3 (.tmp 34), type := 3, pos := _, after := #[{ on := 4, ground := .data }], guard := none } (v := ?vc5) rfl (by kernel_rfl) (fun _ _ _ h => h) (Or.inl ⟨by rfl, ?hyc5⟩) hHeld ?_
          case hyc5 => (intro wz hSw; (try dsimp only at hSw); obtain ⟨z0, z1, z2, z3⟩ := cells4 hSw.1.1; have z4 := hSw.1.2; have z5 := hSw.2.1; have z6 := hSw.2.2.1; have z7 := hSw.2.2.2.1; have z8 := hSw.2.2.2.2; go_simp; try with_reducible rfl)
          (try simp only [putz])
          refine WDt 6 { dst := some 36, op := .indexAddr 25 (.tmp 33) (.tmp 35), type := 0, pos := _, after := #[{ on := 3, ground := .data }, { on := 5, ground := .data }], guard := none } (v := ?vc6) rfl (by kernel_rfl) (fun _ _ _ h => h) (Or.inl ⟨by rfl, ?hyc6⟩) hHeld ?_
          case hyc6 => (intro wz hSw; (try dsimp only at hSw); obtain ⟨z0, z1, z2, z3⟩ := cells4 hSw.1.1; have z4 := hSw.1.2; have z5 := hSw.2.1; have z6 := hSw.2.2.1; have z7 := hSw.2.2.2.1; have z8 := hSw.2.2.2.2; go_simp; try with_reducible rfl)
          (try simp only [putz])
          refine WDt 7 { dst := some 37, op := .load 27 (.tmp 36), type := 27, pos := _, after := #[{ on := 6, ground := .data }], guard := none } (v := ?vc7) rfl (by kernel_rfl) (fun _ _ _ h => h) (Or.inl ⟨by rfl, ?hyc7⟩) hHeld ?_
          case hyc7 => (intro wz hSw; (try dsimp only at hSw); obtain ⟨z0, z1, z2, z3⟩ := cells4 hSw.1.1; have z4 := hSw.1.2; have z5 := hSw.2.1; have z6 := hSw.2.2.1; have z7 := hSw.2.2.2.1; have z8 := hSw.2.2.2.2; go_simp; try with_reducible rfl)
          (try simp only [putz])
          refine WD_ready (rs := [8]) (by kernel_rfl) (by simp) ?_
          refine AllD.last (o := _) rfl (by kernel_rfl) (fun K hK => ?_) AllD.nil
          rw [if_pos (by rfl)]
          go_simp
          refine hK.out _ _ ?_
          clear hK K
          (try simp only [putz])
          refine WD_done (by kernel_rfl) ?_ _
          go_wp2
          go_roundg (m E)
          case measure => exact Nat.lt_of_lt_of_le (by have := HM.out C BN.out; rw [HST.out] at this; exact this) HG.out
          case rel => exact ⟨E, A', c', Lib.hid (Nat.le_refl _), Lib.hid (cells_all (.int .i64 E.k) (.string E.nm) (.int .i64 E.vr) (.slice A' E.args.length c') HX.out), Lib.hid (HF.out.trans (have f := frm4 wr w.heap.size (.int .i64 E.k) (.string E.nm) (.int .i64 E.vr) (.slice A' E.args.length c'); ⟨f.os, f.tape, f.output, f.size, f.block⟩)), HIN, Lib.hid (fun T hT => HRS.out T (.step BN.out (by rw [HST.out]; exact hT))), Lib.hid (fun h => by have := HVS.out C BN.out; rw [HST.out] at this; exact this h)⟩
      · have hge : ¬ (x : Int) < (St.length : Int) := by omega
        have NB : Hid (¬ bnd St C) := Lib.hid (fun h => h.2 (by rw [HXV.out]; exact stA_out hlt))
        go_wp2_with fail
        refine wp_region_held_drew (S := fun w' => w'.heap[w.heap.size]? = some (.cells #[.int .i64 C.k, .string C.nm, .int .i64 (x : Int), .slice AC C.args.length cc] 27 (0, 0)) ∧ w'.cell? ⟨sb, 1, none⟩ = some (.slice SA St.length sc)) (by kernel_rfl) ?_ (fun hHeld => ?_)
        · exact ⟨HX.out, HS.out⟩
        refine WHt 0 { dst := some 5, op := .fieldAddr 27 (.tmp 3) 0, type := 0, pos := _, after := #[], guard := none } (v := ?vd0) rfl (by kernel_rfl) (fun _ _ _ h => h) (Or.inl ⟨by rfl, ?hyd0⟩) (by assumption) ?_
        case hyd0 => (intro wz hSw; (try dsimp only at hSw); obtain ⟨z0, z1, z2, z3⟩ := cells4 hSw.1; have z4 := hSw.2; go_simp; try with_reducible rfl)
        (try simp only [putz])
        refine WHt 1 { dst := some 6, op := .load 3 (.tmp 5), type := 3, pos := _, after := #[{ on := 0, ground := .data }], guard := none } (v := ?vd1) rfl (by kernel_rfl) (fun _ _ _ h => h) (Or.inl ⟨by rfl, ?hyd1⟩) (by assumption) ?_
        case hyd1 => (intro wz hSw; (try dsimp only at hSw); obtain ⟨z0, z1, z2, z3⟩ := cells4 hSw.1; have z4 := hSw.2; go_simp; try with_reducible rfl)
        (try simp only [putz])
        refine WHt 2 { dst := some 7, op := .binOp .eql 3 (.tmp 6) (.const (.int .i64 7)) 3, type := 4, pos := _, after := #[{ on := 1, ground := .data }], guard := none } (v := ?vd2) rfl (by kernel_rfl) (fun _ _ _ h => h) (Or.inl ⟨by rfl, ?hyd2⟩) (by assumption) ?_
        case hyd2 => (intro wz hSw; (try dsimp only at hSw); obtain ⟨z0, z1, z2, z3⟩ := cells4 hSw.1; have z4 := hSw.2; go_simp; try with_reducible rfl)
        (try simp only [putz])
        refine WHt 3 { dst := some 8, op := .move (.tmp 7), type := 4, pos := _, after := #[{ on := 2, ground := .data }], guard := none } (v := ?vd3) rfl (by kernel_rfl) (fun _ _ _ h => h) (Or.inl ⟨by rfl, ?hyd3⟩) (by assumption) ?_
        case hyd3 => (intro wz hSw; (try dsimp only at hSw); obtain ⟨z0, z1, z2, z3⟩ := cells4 hSw.1; have z4 := hSw.2; go_simp; try with_reducible rfl)
        (try simp only [putz])
        refine WHt 4 { dst := some 9, op := .fieldAddr 27 (.tmp 3) 2, type := 0, pos := _, after := #[{ on := 3, ground := .guard }], guard := some (3, true) } (v := ?vd4) rfl (by kernel_rfl) (fun _ _ _ h => h) (Or.inl ⟨by rfl, ?hyd4⟩) (by assumption) ?_
        case hyd4 => (intro wz hSw; (try dsimp only at hSw); obtain ⟨z0, z1, z2, z3⟩ := cells4 hSw.1; have z4 := hSw.2; go_simp; try with_reducible rfl)
        (try simp only [putz])
        refine WHt 5 { dst := some 10, op := .load 3 (.tmp 9), type := 3, pos := _, after := #[{ on := 4, ground := .data }, { on := 3, ground := .guard }], guard := some (3, true) } (v := ?vd5) rfl (by kernel_rfl) (fun _ _ _ h => h) (Or.inl ⟨by rfl, ?hyd5⟩) (by assumption) ?_
        case hyd5 => (intro wz hSw; (try dsimp only at hSw); obtain ⟨z0, z1, z2, z3⟩ := cells4 hSw.1; have z4 := hSw.2; go_simp; try with_reducible rfl)
        (try simp only [putz])
        refine WHt 6 { dst := some 11, op := .move (.tmp 0), type := 23, pos := _, after := #[{ on := 3, ground := .guard }], guard := some (3, true) } (v := ?vd6) rfl (by kernel_rfl) (fun _ _ _ h => h) (Or.inl ⟨by rfl, ?hyd6⟩) (by assumption) ?_
        case hyd6 => (intro wz hSw; (try dsimp only at hSw); obtain ⟨z0, z1, z2, z3⟩ := cells4 hSw.1; have z4 := hSw.2; go_simp; try with_reducible rfl)
        (try simp only [putz])
        refine WHt 7 { dst := some 12, op := .nilCheck (.tmp 11), type := 0, pos := _, after := #[{ on := 6, ground := .data }, { on := 3, ground := .guard }], guard := some (3, true) } (v := ?vd7) rfl (by kernel_rfl) (fun _ _ _ h => h) (Or.inl ⟨by rfl, ?hyd7⟩) (by assumption) ?_
        case hyd7 => (intro wz hSw; (try dsimp only at hSw); obtain ⟨z0, z1, z2, z3⟩ := cells4 hSw.1; have z4 := hSw.2; go_simp; try with_reducible rfl)
        (try simp only [putz])
        refine WHt 8 { dst := some 13, op := .fieldAddr 63 (.tmp 12) 1, type := 0, pos := _, after := #[{ on := 7, ground := .data }, { on := 3, ground := .guard }], guard := some (3, true) } (v := ?vd8) rfl (by kernel_rfl) (fun _ _ _ h => h) (Or.inl ⟨by rfl, ?hyd8⟩) (by assumption) ?_
        case hyd8 => (intro wz hSw; (try dsimp only at hSw); obtain ⟨z0, z1, z2, z3⟩ := cells4 hSw.1; have z4 := hSw.2; go_simp; try with_reducible rfl)
        (try simp only [putz])
        refine WHt 9 { dst := some 14, op := .load 25 (.tmp 13), type := 25, pos := _, after := #[{ on := 8, ground := .data }, { on := 3, ground := .guard }], guard := some (3, true) } (v := ?vd9) rfl (by kernel_rfl) (fun _ _ _ h => h) (Or.inl ⟨by rfl, ?hyd9⟩) (by assumption) ?_
        case hyd9 => (intro wz hSw; (try dsimp only at hSw); obtain ⟨z0, z1, z2, z3⟩ := cells4 hSw.1; have z4 := hSw.2; go_simp; try with_reducible rfl)
        (try simp only [putz])
        refine WHt 10 { dst := some 15, op := .call { callee := .builtin .len, args := #[.tmp 14], argTypes := #[25] }, type := 3, pos := _, after := #[{ on := 9, ground := .data }, { on := 3, ground := .guard }], guard := some (3, true) } (v := ?vd10) rfl (by kernel_rfl) (fun _ _ _ h => h) (Or.inl ⟨by rfl, ?hyd10⟩) (by assumption) ?_
        case hyd10 => (intro wz hSw; (try dsimp only at hSw); obtain ⟨z0, z1, z2, z3⟩ := cells4 hSw.1; have z4 := hSw.2; go_simp; try with_reducible rfl)
        (try simp only [putz])
        refine WHt 11 { dst := some 16, op := .binOp .lss 3 (.tmp 10) (.tmp 15) 3, type := 4, pos := _, after := #[{ on := 5, ground := .data }, { on := 10, ground := .data }, { on := 3, ground := .guard }], guard := some (3, true) } (v := ?vd11) rfl (by kernel_rfl) (fun _ _ _ h => h) (Or.inl ⟨by rfl, ?hyd11⟩) (by assumption) ?_
        case hyd11 => (intro wz hSw; (try dsimp only at hSw); obtain ⟨z0, z1, z2, z3⟩ := cells4 hSw.1; have z4 := hSw.2; go_simp; try with_reducible rfl)
        (try simp only [putz])
        refine WHt 12 { dst := some 17, op := .pick (.tmp 8) (.tmp 16) (.const (.bool false)), type := 4, pos := _, after := #[{ on := 3, ground := .data }, { on := 11, ground := .data }], guard := none } (v := ?vd12) rfl (by kernel_rfl) (fun _ _ _ h => h) (Or.inl ⟨by rfl, ?hyd12⟩) (by assumption) ?_
        case hyd12 => (intro wz hSw; (try dsimp only at hSw); obtain ⟨z0, z1, z2, z3⟩ := cells4 hSw.1; have z4 := hSw.2; go_simp; try with_reducible rfl)
        (try simp only [putz])
        refine WHt 13 { dst := some 18, op := .move (.tmp 17), type := 4, pos := _, after := #[{ on := 12, ground := .data }, { on := 3, ground := .chain }], guard := none } (v := ?vd13) rfl (by kernel_rfl) (fun _ _ _ h => h) (Or.inl ⟨by rfl, ?hyd13⟩) (by assumption) ?_
        case hyd13 => (intro wz hSw; (try dsimp only at hSw); obtain ⟨z0, z1, z2, z3⟩ := cells4 hSw.1; have z4 := hSw.2; go_simp; try with_reducible rfl)
        (try simp only [putz])
        refine WHt 14 { dst := some 19, op := .move (.tmp 0), type := 23, pos := _, after := #[{ on := 13, ground := .guard }], guard := some (13, true) } (v := undef) rfl (by kernel_rfl) (fun _ _ _ h => h) (Or.inr ⟨by rfl, rfl⟩) (by assumption) ?_
        (try simp only [putz])
        refine WHt 15 { dst := some 20, op := .nilCheck (.tmp 19), type := 0, pos := _, after := #[{ on := 14, ground := .data }, { on := 13, ground := .guard }], guard := some (13, true) } (v := undef) rfl (by kernel_rfl) (fun _ _ _ h => h) (Or.inr ⟨by rfl, rfl⟩) (by assumption) ?_
        (try simp only [putz])
        refine WHt 16 { dst := some 21, op := .fieldAddr 63 (.tmp 20) 1, type := 0, pos := _, after := #[{ on := 15, ground := .data }, { on := 13, ground := .guard }], guard := some (13, true) } (v := undef) rfl (by kernel_rfl) (fun _ _ _ h => h) (Or.inr ⟨by rfl, rfl⟩) (by assumption) ?_
        (try simp only [putz])
        refine WHt 17 { dst := some 22, op := .load 25 (.tmp 21), type := 25, pos := _, after := #[{ on := 16, ground := .data }, { on := 13, ground := .guard }], guard := some (13, true) } (v := undef) rfl (by kernel_rfl) (fun _ _ _ h => h) (Or.inr ⟨by rfl, rfl⟩) (by assumption) ?_
        (try simp only [putz])
        refine WHt 18 { dst := some 23, op := .fieldAddr 27 (.tmp 3) 2, type := 0, pos := _, after := #[{ on := 13, ground := .guard }], guard := some (13, true) } (v := undef) rfl (by kernel_rfl) (fun _ _ _ h => h) (Or.inr ⟨by rfl, rfl⟩) (by assumption) ?_
        (try simp only [putz])
        refine WHt 19 { dst := some 24, op := .load 3 (.tmp 23), type := 3, pos := _, after := #[{ on := 18, ground := .data }, { on := 13, ground := .guard }], guard := some (13, true) } (v := undef) rfl (by kernel_rfl) (fun _ _ _ h => h) (Or.inr ⟨by rfl, rfl⟩) (by assumption) ?_
        (try simp only [putz])
        refine WHt 20 { dst := some 25, op := .indexAddr 25 (.tmp 22) (.tmp 24), type := 0, pos := _, after := #[{ on := 17, ground := .data }, { on := 19, ground := .data }, { on := 13, ground := .guard }], guard := some (13, true) } (v := undef) rfl (by kernel_rfl) (fun _ _ _ h => h) (Or.inr ⟨by rfl, rfl⟩) (by assumption) ?_
        (try simp only [putz])
        refine WHt 21 { dst := some 26, op := .fieldAddr 27 (.tmp 25) 0, type := 0, pos := _, after := #[{ on := 20, ground := .data }, { on := 13, ground := .guard }], guard := some (13, true) } (v := undef) rfl (by kernel_rfl) (fun _ _ _ h => h) (Or.inr ⟨by rfl, rfl⟩) (by assumption) ?_
        (try simp only [putz])
        refine WHt 22 { dst := some 27, op := .load 3 (.tmp 26), type := 3, pos := _, after := #[{ on := 21, ground := .data }, { on := 13, ground := .guard }], guard := some (13, true) } (v := undef) rfl (by kernel_rfl) (fun _ _ _ h => h) (Or.inr ⟨by rfl, rfl⟩) (by assumption) ?_
        (try simp only [putz])
        refine WHt 23 { dst := some 28, op := .binOp .neq 3 (.tmp 27) (.const (.int .i64 0)) 3, type := 4, pos := _, after := #[{ on := 22, ground := .data }, { on := 13, ground := .guard }], guard := some (13, true) } (v := undef) rfl (by kernel_rfl) (fun _ _ _ h => h) (Or.inr ⟨by rfl, rfl⟩) (by assumption) ?_
        (try simp only [putz])
        refine WHt 24 { dst := some 29, op := .pick (.tmp 18) (.tmp 28) (.const (.bool false)), type := 4, pos := _, after := #[{ on := 13, ground := .data }, { on := 23, ground := .data }], guard := none } (v := ?vd24) rfl (by kernel_rfl) (fun _ _ _ h => h) (Or.inl ⟨by rfl, ?hyd24⟩) (by assumption) ?_
        case hyd24 => (intro wz hSw; (try dsimp only at hSw); obtain ⟨z0, z1, z2, z3⟩ := cells4 hSw.1; have z4 := hSw.2; go_simp; try with_reducible rfl)
        (try simp only [putz])
        refine wpAnyH_done (by kernel_rfl) ?_ _
        go_wp2
        (try simp only [Exit.inBlock, Exit.then])
        refine bodyPost_ret (by simp [results, Tryd.results49, go_sem, t0, t1, t2, t3]; try rfl) rfl ?_
        exact ⟨C, AC, cc, by rw [HXV.out], HR.out, HRS.out _ (.stop NB.out), HC0.out, FIN.out NB.out _ rfl⟩
    · have q7 : (C.k == 7) = false := beq_eq_false_iff_ne.2 h7
      have NB : Hid (¬ bnd St C) := Lib.hid (fun h => h7 h.1)
      clear h7
      go_wp2_with fail
      refine wp_region_held_drew (S := fun w' => w'.heap[w.heap.size]? = some (.cells #[.int .i64 C.k, .string C.nm, .int .i64 C.vr, .slice AC C.args.length cc] 27 (0, 0)) ∧ w'.cell? ⟨sb, 1, none⟩ = some (.slice SA St.length sc)) (by kernel_rfl) ?_ (fun hHeld => ?_)
      · exact ⟨HX.out, HS.out⟩
      refine WHt 0 { dst := some 5, op := .fieldAddr 27 (.tmp 3) 0, type := 0, pos := _, after := #[], guard := none } (v := ?ve0) rfl (by kernel_rfl) (fun _ _ _ h => h) (Or.inl ⟨by rfl, ?hye0⟩) (by assumption) ?_
      case hye0 => (intro wz hSw; (try dsimp only at hSw); obtain ⟨z0, z1, z2, z3⟩ := cells4 hSw.1; have z4 := hSw.2; go_simp; try with_reducible rfl)
      (try simp only [putz])
      refine WHt 1 { dst := some 6, op := .load 3 (.tmp 5), type := 3, pos := _, after := #[{ on := 0, ground := .data }], guard := none } (v := ?ve1) rfl (by kernel_rfl) (fun _ _ _ h => h) (Or.inl ⟨by rfl, ?hye1⟩) (by assumption) ?_
      case hye1 => (intro wz hSw; (try dsimp only at hSw); obtain ⟨z0, z1, z2, z3⟩ := cells4 hSw.1; have z4 := hSw.2; go_simp; try with_reducible rfl)
      (try simp only [putz])
      refine WHt 2 { dst := some 7, op := .binOp .eql 3 (.tmp 6) (.const (.int .i64 7)) 3, type := 4, pos := _, after := #[{ on := 1, ground := .data }], guard := none } (v := ?ve2) rfl (by kernel_rfl) (fun _ _ _ h => h) (Or.inl ⟨by rfl, ?hye2⟩) (by assumption) ?_
      case hye2 => (intro wz hSw; (try dsimp only at hSw); obtain ⟨z0, z1, z2, z3⟩ := cells4 hSw.1; have z4 := hSw.2; go_simp; try with_reducible rfl)
      (try simp only [putz])
      refine WHt 3 { dst := some 8, op := .move (.tmp 7), type := 4, pos := _, after := #[{ on := 2, ground := .data }], guard := none } (v := ?ve3) rfl (by kernel_rfl) (fun _ _ _ h => h) (Or.inl ⟨by rfl, ?hye3⟩) (by assumption) ?_
      case hye3 => (intro wz hSw; (try dsimp only at hSw); obtain ⟨z0, z1, z2, z3⟩ := cells4 hSw.1; have z4 := hSw.2; go_simp; try with_reducible rfl)
      (try simp only [putz])
      refine WHt 4 { dst := some 9, op := .fieldAddr 27 (.tmp 3) 2, type := 0, pos := _, after := #[{ on := 3, ground := .guard }], guard := some (3, true) } (v := undef) rfl (by kernel_rfl) (fun _ _ _ h => h) (Or.inr ⟨by rfl, rfl⟩) (by assumption) ?_
      (try simp only [putz])
      refine WHt 5 { dst := some 10, op := .load 3 (.tmp 9), type := 3, pos := _, after := #[{ on := 4, ground := .data }, { on := 3, ground := .guard }], guard := some (3, true) } (v := undef) rfl (by kernel_rfl) (fun _ _ _ h => h) (Or.inr ⟨by rfl, rfl⟩) (by assumption) ?_
      (try simp only [putz])
      refine WHt 6 { dst := some 11, op := .move (.tmp 0), type := 23, pos := _, after := #[{ on := 3, ground := .guard }], guard := some (3, true) } (v := undef) rfl (by kernel_rfl) (fun _ _ _ h => h) (Or.inr ⟨by rfl, rfl⟩) (by assumption) ?_
      (try simp only [putz])
      refine WHt 7 { dst := some 12, op := .nilCheck (.tmp 11), type := 0, pos := _, after := #[{ on := 6, ground := .data }, { on := 3, ground := .guard }], guard := some (3, true) } (v := undef) rfl (by kernel_rfl) (fun _ _ _ h => h) (Or.inr ⟨by rfl, rfl⟩) (by assumption) ?_
      (try simp only [putz])
      refine WHt 8 { dst := some 13, op := .fieldAddr 63 (.tmp 12) 1, type := 0, pos := _, after := #[{ on := 7, ground := .data }, { on := 3, ground := .guard }], guard := some (3, true) } (v := undef) rfl (by kernel_rfl) (fun _ _ _ h => h) (Or.inr ⟨by rfl, rfl⟩) (by assumption) ?_
      (try simp only [putz])
      refine WHt 9 { dst := some 14, op := .load 25 (.tmp 13), type := 25, pos := _, after := #[{ on := 8, ground := .data }, { on := 3, ground := .guard }], guard := some (3, true) } (v := undef) rfl (by kernel_rfl) (fun _ _ _ h => h) (Or.inr ⟨by rfl, rfl⟩) (by assumption) ?_
      (try simp only [putz])
      refine WHt 10 { dst := some 15, op := .call { callee := .builtin .len, args := #[.tmp 14], argTypes := #[25] }, type := 3, pos := _, after := #[{ on := 9, ground := .data }, { on := 3, ground := .guard }], guard := some (3, true) } (v := undef) rfl (by kernel_rfl) (fun _ _ _ h => h) (Or.inr ⟨by rfl, rfl⟩) (by assumption) ?_
      (try simp only [putz])
      refine WHt 11 { dst := some 16, op := .binOp .lss 3 (.tmp 10) (.tmp 15) 3, type := 4, pos := _, after := #[{ on := 5, ground := .data }, { on := 10, ground := .data }, { on := 3, ground := .guard }], guard := some (3, true) } (v := undef) rfl (by kernel_rfl) (fun _ _ _ h => h) (Or.inr ⟨by rfl, rfl⟩) (by assumption) ?_
      (try simp only [putz])
      refine WHt 12 { dst := some 17, op := .pick (.tmp 8) (.tmp 16) (.const (.bool false)), type := 4, pos := _, after := #[{ on := 3, ground := .data }, { on := 11, ground := .data }], guard := none } (v := ?ve12) rfl (by kernel_rfl) (fun _ _ _ h => h) (Or.inl ⟨by rfl, ?hye12⟩) (by assumption) ?_
      case hye12 => (intro wz hSw; (try dsimp only at hSw); obtain ⟨z0, z1, z2, z3⟩ := cells4 hSw.1; have z4 := hSw.2; go_simp; try with_reducible rfl)
      (try simp only [putz])
      refine WHt 13 { dst := some 18, op := .move (.tmp 17), type := 4, pos := _, after := #[{ on := 12, ground := .data }, { on := 3, ground := .chain }], guard := none } (v := ?ve13) rfl (by kernel_rfl) (fun _ _ _ h => h) (Or.inl ⟨by rfl, ?hye13⟩) (by assumption) ?_
      case hye13 => (intro wz hSw; (try dsimp only at hSw); obtain ⟨z0, z1, z2, z3⟩ := cells4 hSw.1; have z4 := hSw.2; go_simp; try with_reducible rfl)
      (try simp only [putz])
      refine WHt 14 { dst := some 19, op := .move (.tmp 0), type := 23, pos := _, after := #[{ on := 13, ground := .guard }], guard := some (13, true) } (v := undef) rfl (by kernel_rfl) (fun _ _ _ h => h) (Or.inr ⟨by rfl, rfl⟩) (by assumption) ?_
      (try simp only [putz])
      refine WHt 15 { dst := some 20, op := .nilCheck (.tmp 19), type := 0, pos := _, after := #[{ on := 14, ground := .data }, { on := 13, ground := .guard }], guard := some (13, true) } (v := undef) rfl (by kernel_rfl) (fun _ _ _ h => h) (Or.inr ⟨by rfl, rfl⟩) (by assumption) ?_
      (try simp only [putz])
      refine WHt 16 { dst := some 21, op := .fieldAddr 63 (.tmp 20) 1, type := 0, pos := _, after := #[{ on := 15, ground := .data }, { on := 13, ground := .guard }], guard := some (13, true) } (v := undef) rfl (by kernel_rfl) (fun _ _ _ h => h) (Or.inr ⟨by rfl, rfl⟩) (by assumption) ?_
      (try simp only [putz])
      refine WHt 17 { dst := some 22, op := .load 25 (.tmp 21), type := 25, pos := _, after := #[{ on := 16, ground := .data }, { on := 13, ground := .guard }], guard := some (13, true) } (v := undef) rfl (by kernel_rfl) (fun _ _ _ h => h) (Or.inr ⟨by rfl, rfl⟩) (by assumption) ?_
      (try simp only [putz])
      refine WHt 18 { dst := some 23, op := .fieldAddr 27 (.tmp 3) 2, type := 0, pos := _, after := #[{ on := 13, ground := .guard }], guard := some (13, true) } (v := undef) rfl (by kernel_rfl) (fun _ _ _ h => h) (Or.inr ⟨by rfl, rfl⟩) (by assumption) ?_
      (try simp only [putz])
      refine WHt 19 { dst := some 24, op := .load 3 (.tmp 23), type := 3, pos := _, after := #[{ on := 18, ground := .data }, { on := 13, ground := .guard }], guard := some (13, true) } (v := undef) rfl (by kernel_rfl) (fun _ _ _ h => h) (Or.inr ⟨by rfl, rfl⟩) (by assumption) ?_
      (try simp only [putz])
      refine WHt 20 { dst := some 25, op := .indexAddr 25 (.tmp 22) (.tmp 24), type := 0, pos := _, after := #[{ on := 17, ground := .data }, { on := 19, ground := .data }, { on := 13, ground := .guard }], guard := some (13, true) } (v := undef) rfl (by kernel_rfl) (fun _ _ _ h => h) (Or.inr ⟨by rfl, rfl⟩) (by assumption) ?_
      (try simp only [putz])
      refine WHt 21 { dst := some 26, op := .fieldAddr 27 (.tmp 25) 0, type := 0, pos := _, after := #[{ on := 20, ground := .data }, { on := 13, ground := .guard }], guard := some (13, true) } (v := undef) rfl (by kernel_rfl) (fun _ _ _ h => h) (Or.inr ⟨by rfl, rfl⟩) (by assumption) ?_
      (try simp only [putz])
      refine WHt 22 { dst := some 27, op := .load 3 (.tmp 26), type := 3, pos := _, after := #[{ on := 21, ground := .data }, { on := 13, ground := .guard }], guard := some (13, true) } (v := undef) rfl (by kernel_rfl) (fun _ _ _ h => h) (Or.inr ⟨by rfl, rfl⟩) (by assumption) ?_
      (try simp only [putz])
      refine WHt 23 { dst := some 28, op := .binOp .neq 3 (.tmp 27) (.const (.int .i64 0)) 3, type := 4, pos := _, after := #[{ on := 22, ground := .data }, { on := 13, ground := .guard }], guard := some (13, true) } (v := undef) rfl (by kernel_rfl) (fun _ _ _ h => h) (Or.inr ⟨by rfl, rfl⟩) (by assumption) ?_
      (try simp only [putz])
      refine WHt 24 { dst := some 29, op := .pick (.tmp 18) (.tmp 28) (.const (.bool false)), type := 4, pos := _, after := #[{ on := 13, ground := .data }, { on := 23, ground := .data }], guard := none } (v := ?ve24) rfl (by kernel_rfl) (fun _ _ _ h => h) (Or.inl ⟨by rfl, ?hye24⟩) (by assumption) ?_
      case hye24 => (intro wz hSw; (try dsimp only at hSw); obtain ⟨z0, z1, z2, z3⟩ := cells4 hSw.1; have z4 := hSw.2; go_simp; try with_reducible rfl)
      (try simp only [putz])
      refine wpAnyH_done (by kernel_rfl) ?_ _
      go_wp2
      (try simp only [Exit.inBlock, Exit.then])
      refine bodyPost_ret (by simp [results, Tryd.results49, go_sem, t0, t1, t2, t3]; try rfl) rfl ?_
      exact ⟨C, AC, cc, rfl, HR.out, HRS.out _ (.stop NB.out), HC0.out, FIN.out NB.out _ rfl⟩

theorem SubP.q {w : World} {P : Nat → Prop} {S : Nat} {n : Int} {St : List TT} (h : SubP w P S n St) : SubQ w P S n St := by
  obtain ⟨A, c, h1, h2⟩ := h
  refine ⟨A, c, h1, ?_⟩
  rcases h2 with h2 | ⟨b, o, e, hb, _, hk⟩
  · exact .inl h2
  · exact .inr ⟨b, o, e, hb, hk⟩
theorem resolve_any {P : Nat → Prop} {St : List TT} {m : TT → Nat} (hm : ∀ t, bnd St t → m (stA St t.vr) < m t) (hv : ∀ t, bnd St t → (stA St t.vr).k = 7 → 0 ≤ (stA St t.vr).vr) {V : TT} {A : Option Addr} {c sb : Nat} {n : Int} {w : World} (h0 : V.k = 7 → 0 ≤ V.vr) (hV : TRow w P A V.args) (hs : SubP w P sb n St) :
    Calls Tryd.prog 49 #[.pointer (some ⟨sb, 0, none⟩), tv V A c] w fun e w' => ∃ T A' c', e = .returned (tv T A' c') ∧ TRow w P A' T.args ∧ Res St V T ∧ (T.k = 7 → 0 ≤ T.vr) ∧ Below w.heap.size w w' :=
  resolve_anyQ hm hv h0 hV hs.q
end Go.Proofs.YtdkfimejabanlaaDoor
