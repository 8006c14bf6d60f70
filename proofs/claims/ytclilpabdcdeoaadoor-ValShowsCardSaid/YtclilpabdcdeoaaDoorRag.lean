import Derived.Test.YtclilpabdcdeoaaDoorRsm
namespace Go.Proofs.YtclilpabdcdeoaaDoor
open Go.ChangeShapes Go.WideShapes Go.ChangeAt Go.RowKit
set_option linter.unusedVariables false
set_option linter.unusedSimpArgs false
set_option maxRecDepth 100000 in
set_option maxHeartbeats 2000000 in
theorem rnamed_any (s : ByteArray) (w : World) : Calls Tryd.prog 46 #[.string s] w fun e w' => e = .returned (tyOf s) ∧ Below w.heap.size w w' := by
  unfold tyOf
  by_cases h1 : isT s [105, 110, 116] = true
  · rw [if_pos h1]
    have d1 : (s.toList == [105, 110, 116]) = true := h1
    unfold tyK
    go_enter Tryd.func46, Tryd.ntmps46
    go_wp2
    go_returns
    exact ⟨rfl, (Below.refl _ _).alloc (Nat.le_refl _) _⟩
  rw [if_neg h1]
  have d1 : (s.toList == [105, 110, 116]) = false := by unfold isT at h1; simpa using h1
  by_cases h2 : isT s [98, 111, 111, 108] = true
  · rw [if_pos h2]
    have d2 : (s.toList == [98, 111, 111, 108]) = true := h2
    unfold tyK
    go_enter Tryd.func46, Tryd.ntmps46
    go_wp2
    go_returns
    exact ⟨rfl, (Below.refl _ _).alloc (Nat.le_refl _) _⟩
  rw [if_neg h2]
  have d2 : (s.toList == [98, 111, 111, 108]) = false := by unfold isT at h2; simpa using h2
  by_cases h3 : isT s [117, 110, 105, 116] = true
  · rw [if_pos h3]
    have d3 : (s.toList == [117, 110, 105, 116]) = true := h3
    unfold tyK
    go_enter Tryd.func46, Tryd.ntmps46
    go_wp2
    go_returns
    exact ⟨rfl, (Below.refl _ _).alloc (Nat.le_refl _) _⟩
  rw [if_neg h3]
  have d3 : (s.toList == [117, 110, 105, 116]) = false := by unfold isT at h3; simpa using h3
  unfold tyK
  go_enter Tryd.func46, Tryd.ntmps46
  go_wp2
  go_returns
  exact ⟨rfl, (Below.refl _ _).alloc (Nat.le_refl _) _⟩

theorem RT_tyOf (w : World) (s : ByteArray) : RT w (namedT s) (tyOf s) := by
  obtain ⟨h1, h2, h3⟩ := tyOf_eq s
  refine ⟨none, 0, ?_, .inl (by rw [h2]; rfl)⟩
  rw [h1, h2, h3]; rfl
def argsT (g : VT → TT → ByteArray) (cons : List CN) (V : VT) : ByteArray := if V.args.length = 0 then .empty else piecesT g (typesOf cons V.nm) 0 V.args ++ closeT
def atS (g : VT → TT → ByteArray) (ts : List ByteArray) (l : List VT) (k : Nat) : ByteArray := if k = 0 then openT else piecesT g ts 0 (l.take k)
theorem atS_head (g : VT → TT → ByteArray) (ts : List ByteArray) (l : List VT) (k : Nat) : (if k = 0 then atS g ts l k else atS g ts l k ++ commaT) = piecesT g ts 0 (l.take k) ++ headT k := by
  unfold atS headT
  by_cases h : k = 0
  · subst h
    rw [if_pos rfl, if_pos rfl, if_pos rfl]
    show openT = piecesT g ts 0 (l.take 0) ++ openT
    rw [List.take_zero]; show openT = ByteArray.empty ++ openT; rw [ByteArray.empty_append]
  · rw [if_neg h, if_neg h, if_neg h]
theorem CRow.later {w w' : World} {A : Option Addr} {l : List CN} (h : CRow w A l) (hb : Below w.heap.size w w') : CRow w' A l := by
  rcases h with h | ⟨b, o, h1, h2, h3⟩
  · exact .inl h
  · refine .inr ⟨b, o, h1, Nat.lt_of_lt_of_le h2 hb.size, fun i hi => ?_⟩
    obtain ⟨q1, A', c', q2, q3⟩ := h3 i hi
    refine ⟨(hb.cell (p := ⟨b, o + i * 2, none⟩) h2).trans q1, A', c', (hb.cell (p := ⟨b, o + i * 2 + 1, none⟩) h2).trans q2, ?_⟩
    rcases q3 with q | ⟨b', o', r1, r2, r3⟩
    · exact .inl q
    · exact .inr ⟨b', o', r1, Nat.lt_of_lt_of_le r2 hb.size, fun j hj => (hb.cell (p := ⟨b', o' + j, none⟩) r2).trans (r3 j hj)⟩
theorem TxRow.later {w w' : World} {A : Option Addr} {l : List ByteArray} (h : TxRow w A l) (hb : Below w.heap.size w w') : TxRow w' A l := by
  rcases h with q | ⟨b', o', r1, r2, r3⟩
  · exact .inl q
  · exact .inr ⟨b', o', r1, Nat.lt_of_lt_of_le r2 hb.size, fun j hj => (hb.cell (p := ⟨b', o' + j, none⟩) r2).trans (r3 j hj)⟩
set_option maxRecDepth 100000 in
set_option maxHeartbeats 8000000 in
theorem rargs_any {w : World} {V : VT} {v : Value} {cells : List VT} {cons : List CN} {Ac Ak : Option Addr} {nl cc ck f : Nat} {dp : Int} (hv : RV w V v) (hk : CRow w Ak cons) (hkl : cons.length ≤ 1000000) (hal : V.args.length ≤ 1000000) (hdp : 0 ≤ dp) (hdp2 : dp ≤ 1000)
    (G : ∀ (W : World) (a : VT) (t : TT) (va vt : Value), Below w.heap.size w W → a ∈ V.args → RV W a va → RT W t vt → (rtext cells cons f a t).size ≤ 900000 → Calls Tryd.prog 34 #[va, vt, .slice Ac nl cc, .slice Ak cons.length ck, .int .i64 (dp + 1)] W fun e w' => e = .returned (.string (rtext cells cons f a t)) ∧ Below W.heap.size W w')
    (hs : (argsT (rtext cells cons f) cons V).size ≤ 900000) :
    Calls Tryd.prog 41 #[v, .slice Ac nl cc, .slice Ak cons.length ck, .int .i64 dp] w fun e w' => e = .returned (.string (argsT (rtext cells cons f) cons V)) ∧ Below w.heap.size w w' := by
  obtain ⟨A, c, rfl, hn, hA⟩ := hv
  obtain ⟨l, hl⟩ : ∃ l, l = V.args := ⟨_, rfl⟩
  obtain ⟨g, hg⟩ : ∃ g, g = rtext cells cons f := ⟨_, rfl⟩
  have hAT : argsT (rtext cells cons f) cons V = if l.length = 0 then .empty else piecesT g (typesOf cons V.nm) 0 l ++ closeT := by unfold argsT; rw [← hl, ← hg]
  rw [hAT] at hs ⊢
  have HA : Hid (RRow w (fun _ => True) A l) := Lib.hid (by rw [hl]; exact hA)
  have HG : Hid (∀ (W : World) (a : VT) (t : TT) (va vt : Value), Below w.heap.size w W → a ∈ l → RV W a va → RT W t vt → (g a t).size ≤ 900000 → Calls Tryd.prog 34 #[va, vt, .slice Ac nl cc, .slice Ak cons.length ck, .int .i64 (dp + 1)] W fun e w' => e = .returned (.string (g a t)) ∧ Below W.heap.size W w') := Lib.hid (by rw [hl, hg]; exact G)
  have HK := Lib.hid hk
  rw [← hl] at hal ⊢
  obtain ⟨wB, hwB⟩ : ∃ wB, wB = w.alloc (.cells #[.int .i64 V.k, .int .i64 V.n, .string V.nm, .slice A l.length c, .int .i64 V.node, .pointer none, .int .i64 V.at_, .int .i64 0] 46) := ⟨_, rfl⟩
  have hh := (MapKept.heap_alloc w (Obj.cells #[.int .i64 V.k, .int .i64 V.n, .string V.nm, .slice A l.length c, .int .i64 V.node, .pointer none, .int .i64 V.at_, .int .i64 0] 46)).1
  rw [← hwB] at hh
  have P3 : Hid (wB.cell? ⟨w.heap.size, 3, none⟩ = some (.slice A l.length c)) := Lib.hid (by simp [World.cell?, hh])
  have P2 : Hid (wB.cell? ⟨w.heap.size, 2, none⟩ = some (.string V.nm)) := Lib.hid (by simp [World.cell?, hh])
  have BL : Hid (Below w.heap.size w wB) := Lib.hid (by rw [hwB]; exact below_alloc _ _)
  have HLT : Hid (w.heap.size < wB.heap.size) := Lib.hid (Array.getElem?_eq_some_iff.1 hh).1
  have HWB := Lib.hid hwB
  clear hh hwB hA hAT hl hg G hk hn
  by_cases h0 : l.length = 0
  · rw [if_pos h0] at hs ⊢
    have d0 : ((l.length : Int) == 0) = true := by rw [h0]; rfl
    clear h0
    go_enter Tryd.func41, Tryd.ntmps41
    go_wp2
    go_ret
    exact ⟨rfl, (by have := BL.out; rwa [HWB.out] at this)⟩
  rw [if_neg h0] at hs ⊢
  have d0 : ((l.length : Int) == 0) = false := beq_eq_false_iff_ne.2 (by omega)
  have HS := Lib.hid hs
  clear hs
  have hw1 : IntKind.i64.wrap ((cons.length : Int) - 1) = (cons.length : Int) - 1 := IntWalk.i64_in _ (by omega)
  go_enter Tryd.func41, Tryd.ntmps41
  go_wp2
  clear hw1
  go_loopw [9, 10] (fun ty i wr => ∃ (k : Nat) (z : Int) (At : Option Addr) (ct : Nat), k ≤ cons.length ∧ i = .int .i64 z ∧ z = (k : Int) - 1 ∧ ty = .slice At (typesOf (cons.drop k) V.nm).length ct ∧ Hid (TxRow w At (typesOf (cons.drop k) V.nm)) ∧ Below wB.heap.size wB wr) (fun _ i _ => (intOf i + 1).toNat)
  case atStart => exact ⟨cons.length, _, none, 0, by omega, rfl, rfl, by rw [List.drop_length]; rfl, Lib.hid (.inl (by rw [List.drop_length]; rfl)), by rw [HWB.out]; exact Below.refl _ _⟩
  case round =>
    obtain ⟨k, z, At, ct, hkk, rfl, hz, rfl, HTY, hbl⟩ := hrel
    have HBL := Lib.hid hbl
    have hBW : Hid (Below w.heap.size w wr) := Lib.hid (BL.out.trans (HBL.out.mono BL.out.size))
    have p2 := (HBL.out.cell (p := ⟨w.heap.size, 2, none⟩) HLT.out).trans P2.out
    clear hbl
    cases k with
    | succ j =>
      obtain rfl : z = (j : Int) := by omega
      clear hz
      have hjl : j < cons.length := by omega
      have hjli : (j : Int) < (cons.length : Int) := by omega
      have hj0 : decide ((0 : Int) ≤ (j : Int)) = true := decide_eq_true (by omega)
      have hj0' : (0 : Int) ≤ (j : Int) := by omega
      obtain ⟨cb, co, rfl, hcb, hcr⟩ : ∃ b o, Ak = some ⟨b, o, none⟩ ∧ b < wr.heap.size ∧ ∀ i (h : i < cons.length), wr.cell? ⟨b, o + i * 2, none⟩ = some (.string cons[i].name) ∧ ∃ A' c', wr.cell? ⟨b, o + i * 2 + 1, none⟩ = some (.slice A' cons[i].types.length c') ∧ TxRow wr A' cons[i].types := by
        rcases HK.out.later hBW.out with h1 | h1
        · omega
        · exact h1
      obtain ⟨q1, A', c', q2, q3⟩ := hcr j hjl
      have HTX : Hid (TxRow w A' cons[j].types) := Lib.hid (by
        rcases HK.out with h1 | ⟨b, o, e, hb0, hcr0⟩
        · omega
        · injection e with e; injection e with e1 e2; subst e1 e2
          obtain ⟨_, A2, c2, r2, r3⟩ := hcr0 j hjl
          have := (hBW.out.cell (p := ⟨cb, co + j * 2 + 1, none⟩) hb0).trans r2
          rw [q2] at this
          injection this with this; injection this with t1 t2 t3
          subst t1; exact r3)
      have hdr : typesOf (cons.drop j) V.nm = if eqB cons[j].name V.nm = true then cons[j].types else typesOf (cons.drop (j + 1)) V.nm := by
        rw [List.drop_eq_getElem_cons hjl]; rfl
      clear hcr hcb q3 HK
      have hwj : IntKind.i64.wrap ((j : Int) - 1) = (j : Int) - 1 := IntWalk.i64_in _ (by omega)
      cases he : eqB cons[j].name V.nm
      · have he' : (cons[j].name.toList == V.nm.toList) = false := he
        have HD : Hid (typesOf (cons.drop j) V.nm = typesOf (cons.drop (j + 1)) V.nm) := Lib.hid (by rw [hdr, he]; rfl)
        clear hdr he
        go_wp2
        go_quiet (fail)
        go_wp2
        clear hwj
        go_roundw
        case rel => exact ⟨j, _, At, ct, by omega, rfl, rfl, by rw [HD.out], Lib.hid (by rw [HD.out]; exact HTY.out), HBL.out.trans (bN _ _ _)⟩
        case measure => simp [intOf]
      · have he' : (cons[j].name.toList == V.nm.toList) = true := he
        have HD : Hid (typesOf (cons.drop j) V.nm = cons[j].types) := Lib.hid (by rw [hdr, he]; rfl)
        clear hdr he
        go_wp2
        go_quiet (fail)
        go_wp2
        clear hwj
        go_roundw
        case rel => exact ⟨j, _, A', c', by omega, rfl, rfl, by rw [HD.out], Lib.hid (by rw [HD.out]; exact HTX.out), HBL.out.trans (bN _ _ _)⟩
        case measure => simp [intOf]
    | zero =>
      obtain rfl : z = -1 := by omega
      clear hz
      rw [List.drop_zero] at HTY ⊢
      obtain ⟨w1, hw1⟩ : ∃ w1, w1 = wr := ⟨_, rfl⟩
      subst hw1
      obtain ⟨ts, hts⟩ : ∃ ts, ts = typesOf cons V.nm := ⟨_, rfl⟩
      rw [← hts] at HTY HS ⊢
      have HTS := Lib.hid hts
      clear hts hkk
      go_wp2
      go_loopw [11, 12] (fun s i wr => ∃ (k : Nat), k ≤ l.length ∧ i = .int .i64 k ∧ s = .string (atS g ts l k) ∧ Below w1.heap.size w1 wr) (fun _ i _ => l.length - (intOf i).toNat)
      case atStart => exact ⟨0, by omega, rfl, rfl, Below.refl _ _⟩
      case round =>
        obtain ⟨k, hk, rfl, rfl, hbq⟩ := hrel
        have HBQ := Lib.hid hbq
        have hBQ : Hid (Below w.heap.size w wr) := Lib.hid (hBW.out.trans (HBQ.out.mono hBW.out.size))
        have HBB : Hid (Below wB.heap.size wB wr) := Lib.hid (HBL.out.trans (HBQ.out.mono HBL.out.size))
        have r3 := (HBB.out.cell (p := ⟨w.heap.size, 3, none⟩) HLT.out).trans P3.out
        clear hbq p2
        have hpl := piecesT_le g ts l k
        have hpc : (piecesT g ts 0 l).size + closeT.size ≤ 900000 := by have := HS.out; rwa [ByteArray.size_append] at this
        by_cases hlt : k < l.length
        · have hli : (k : Int) < (l.length : Int) := by omega
          have htk := piecesT_take g ts l k hlt
          have hpl1 := piecesT_le g ts l (k + 1)
          have hhd := atS_head g ts l k
          have hnext : atS g ts l (k + 1) = piecesT g ts 0 (l.take (k + 1)) := by unfold atS; rw [if_neg (by omega)]
          have hsz0 : (piecesT g ts 0 (l.take k) ++ headT k).size + (pieceT g ts k l[k]).size ≤ 900000 := by
            rw [htk, ByteArray.size_append] at hpl1; omega
          obtain ⟨s1, hs1⟩ : ∃ s1, s1 = piecesT g ts 0 (l.take k) ++ headT k := ⟨_, rfl⟩
          rw [← hs1] at htk hhd hsz0
          have HN : Hid (atS g ts l (k + 1) = s1 ++ pieceT g ts k l[k]) := Lib.hid (hnext.trans htk)
          obtain ⟨ab, A1, c1, rfl, hab, x0, x1, x2, x3, x4, x5, x6, x7, hin⟩ := (HA.out.later hBQ.out).at k hlt
          have hwd : IntKind.i64.wrap (dp + 1) = dp + 1 := IntWalk.i64_in _ (by omega)
          have HIN := Lib.hid hin
          have HAB := Lib.hid hab
          clear hnext htk hpl1 hs1 hin hab hpl hpc
          have key : ∀ s0 : ByteArray, True := fun _ => trivial
          by_cases hkt : k < ts.length
          · have hti : (k : Int) < (ts.length : Int) := by omega
            have hpie : pieceT g ts k l[k] = g l[k] (namedT ts[k]) := by unfold pieceT; rw [dif_pos hkt]
            rw [hpie] at HN hsz0
            obtain ⟨tb, to_, rfl, htb, htr⟩ : ∃ b o, At = some ⟨b, o, none⟩ ∧ b < wr.heap.size ∧ ∀ i (h : i < ts.length), wr.cell? ⟨b, o + i, none⟩ = some (.string ts[i]) := by
              rcases HTY.out.later hBQ.out with h1 | h1
              · omega
              · exact h1
            have t0 := htr k hkt
            have NM : Hid (∀ W, Calls Tryd.prog 46 #[.string ts[k]] W fun e w' => e = .returned (.agg #[.int .i64 (namedT ts[k]).k, .string (namedT ts[k]).nm, .int .i64 0, .slice none 0 0]) ∧ Below W.heap.size W w') := Lib.hid (fun W => by
              have := rnamed_any ts[k] W
              rwa [(tyOf_eq ts[k]).1] at this)
            have CALL : Hid (∀ W, Below wr.heap.size wr W → Calls Tryd.prog 34 #[.agg #[.int .i64 l[k].k, .int .i64 l[k].n, .string l[k].nm, .slice A1 l[k].args.length c1, .int .i64 l[k].node, .pointer none, .int .i64 l[k].at_, .int .i64 0], .agg #[.int .i64 (namedT ts[k]).k, .string (namedT ts[k]).nm, .int .i64 0, .slice none 0 0], .slice Ac nl cc, .slice Ak cons.length ck, .int .i64 (dp + 1)] W fun e w' => e = .returned (.string (g l[k] (namedT ts[k]))) ∧ Below W.heap.size W w') := Lib.hid (fun W hW => by
              have hrt := RT_tyOf W ts[k]
              rw [(tyOf_eq ts[k]).1] at hrt
              exact HG.out W l[k] (namedT ts[k]) _ _ (hBQ.out.trans (hW.mono hBQ.out.size)) (List.getElem_mem hlt) (HIN.out.later hW) hrt (by omega))
            obtain ⟨s2, hs2⟩ : ∃ s2, s2 = g l[k] (namedT ts[k]) := ⟨_, rfl⟩
            rw [← hs2] at HN CALL hsz0
            obtain ⟨s3, hs3⟩ : ∃ s3, s3 = s1 ++ s2 := ⟨_, rfl⟩
            rw [← hs3] at HN
            have ad := add_str hs3.symm (by omega) (by omega)
            clear htr hpie hs2 hs3 htb
            by_cases hk0 : k = 0
            · have d1 := decide_eq_false (show ¬ (0 : Int) < (k : Int) by omega)
              have d2 := decide_eq_false (show ¬ 0 < k by omega)
              rw [if_pos hk0] at hhd
              rw [hhd]
              clear hhd hk0 hsz0
              go_wp2
              refine wp_region_held_drew (S := fun w' => w'.cell? ⟨w.heap.size, 3, none⟩ = some (.slice (some ⟨ab, 0, none⟩) l.length c) ∧ w'.cell? ⟨ab, k * 8, none⟩ = some (.int .i64 l[k].k) ∧ w'.cell? ⟨ab, k * 8 + 1, none⟩ = some (.int .i64 l[k].n) ∧ w'.cell? ⟨ab, k * 8 + 2, none⟩ = some (.string l[k].nm) ∧ w'.cell? ⟨ab, k * 8 + 3, none⟩ = some (.slice A1 l[k].args.length c1) ∧ w'.cell? ⟨ab, k * 8 + 4, none⟩ = some (.int .i64 l[k].node) ∧ w'.cell? ⟨ab, k * 8 + 5, none⟩ = some (.pointer none) ∧ w'.cell? ⟨ab, k * 8 + 6, none⟩ = some (.int .i64 l[k].at_) ∧ w'.cell? ⟨ab, k * 8 + 7, none⟩ = some (.int .i64 0) ∧ w'.cell? ⟨tb, to_ + k, none⟩ = some (.string ts[k])) (by kernel_rfl) ?_ (fun hHeld => ?_)
              · (try dsimp only); go_keep
              refine wpAnyH_take (i := 0) (oi := { dst := some 52, op := Go.Op.move (Go.Operand.tmp 11), type := 9, pos := _, after := #[], guard := none }) (v := ?va0) rfl (by kernel_rfl) (by kernel_rfl) (by kernel_rfl) (fun _ _ _ h => h) (Or.inl ⟨by rfl, ?hya0⟩) (by assumption) ?_
              case hya0 => (intro wz hSw; (try dsimp only at hSw); go_simp; try with_reducible rfl)
              (try simp only [Act.put, List.setIfInBounds_toArray, List.set_cons_zero, List.set_cons_succ])
              refine wpAnyH_take (i := 1) (oi := { dst := some 53, op := Go.Op.fieldAddr 46 (Go.Operand.tmp 4) 3, type := 0, pos := _, after := #[], guard := none }) (v := ?va1) rfl (by kernel_rfl) (by kernel_rfl) (by kernel_rfl) (fun _ _ _ h => h) (Or.inl ⟨by rfl, ?hya1⟩) (by assumption) ?_
              case hya1 => (intro wz hSw; (try dsimp only at hSw); go_simp; try with_reducible rfl)
              (try simp only [Act.put, List.setIfInBounds_toArray, List.set_cons_zero, List.set_cons_succ])
              refine wpAnyH_take (i := 2) (oi := { dst := some 54, op := Go.Op.load 43 (Go.Operand.tmp 53), type := 43, pos := _, after := #[{ on := 1, ground := Go.Ground.data }], guard := none }) (v := ?va2) rfl (by kernel_rfl) (by kernel_rfl) (by kernel_rfl) (fun _ _ _ h => h) (Or.inl ⟨by rfl, ?hya2⟩) (by assumption) ?_
              case hya2 => (intro wz hSw; (try dsimp only at hSw); go_simp; try with_reducible rfl)
              (try simp only [Act.put, List.setIfInBounds_toArray, List.set_cons_zero, List.set_cons_succ])
              refine wpAnyH_take (i := 3) (oi := { dst := some 55, op := Go.Op.move (Go.Operand.tmp 12), type := 3, pos := _, after := #[], guard := none }) (v := ?va3) rfl (by kernel_rfl) (by kernel_rfl) (by kernel_rfl) (fun _ _ _ h => h) (Or.inl ⟨by rfl, ?hya3⟩) (by assumption) ?_
              case hya3 => (intro wz hSw; (try dsimp only at hSw); go_simp; try with_reducible rfl)
              (try simp only [Act.put, List.setIfInBounds_toArray, List.set_cons_zero, List.set_cons_succ])
              refine wpAnyH_take (i := 4) (oi := { dst := some 56, op := Go.Op.indexAddr 43 (Go.Operand.tmp 54) (Go.Operand.tmp 55), type := 0, pos := _, after := #[{ on := 2, ground := Go.Ground.data }, { on := 3, ground := Go.Ground.data }], guard := none }) (v := ?va4) rfl (by kernel_rfl) (by kernel_rfl) (by kernel_rfl) (fun _ _ _ h => h) (Or.inl ⟨by rfl, ?hya4⟩) (by assumption) ?_
              case hya4 => (intro wz hSw; (try dsimp only at hSw); go_simp; try with_reducible rfl)
              (try simp only [Act.put, List.setIfInBounds_toArray, List.set_cons_zero, List.set_cons_succ])
              refine wpAnyH_take (i := 5) (oi := { dst := some 57, op := Go.Op.load 46 (Go.Operand.tmp 56), type := 46, pos := _, after := #[{ on := 4, ground := Go.Ground.data }], guard := none }) (v := ?va5) rfl (by kernel_rfl) (by kernel_rfl) (by kernel_rfl) (fun _ _ _ h => h) (Or.inl ⟨by rfl, ?hya5⟩) (by assumption) ?_
              case hya5 => (intro wz hSw; (try dsimp only at hSw); go_simp; try with_reducible rfl)
              (try simp only [Act.put, List.setIfInBounds_toArray, List.set_cons_zero, List.set_cons_succ])
              refine wpAnyH_take (i := 6) (oi := { dst := some 58, op := Go.Op.move (Go.Operand.tmp 9), type := 35, pos := _, after := #[], guard := none }) (v := ?va6) rfl (by kernel_rfl) (by kernel_rfl) (by kernel_rfl) (fun _ _ _ h => h) (Or.inl ⟨by rfl, ?hya6⟩) (by assumption) ?_
              case hya6 => (intro wz hSw; (try dsimp only at hSw); go_simp; try with_reducible rfl)
              (try simp only [Act.put, List.setIfInBounds_toArray, List.set_cons_zero, List.set_cons_succ])
              refine wpAnyH_take (i := 7) (oi := { dst := some 59, op := Go.Op.move (Go.Operand.tmp 12), type := 3, pos := _, after := #[], guard := none }) (v := ?va7) rfl (by kernel_rfl) (by kernel_rfl) (by kernel_rfl) (fun _ _ _ h => h) (Or.inl ⟨by rfl, ?hya7⟩) (by assumption) ?_
              case hya7 => (intro wz hSw; (try dsimp only at hSw); go_simp; try with_reducible rfl)
              (try simp only [Act.put, List.setIfInBounds_toArray, List.set_cons_zero, List.set_cons_succ])
              refine wpAnyH_take (i := 8) (oi := { dst := some 60, op := Go.Op.indexAddr 35 (Go.Operand.tmp 58) (Go.Operand.tmp 59), type := 0, pos := _, after := #[{ on := 6, ground := Go.Ground.data }, { on := 7, ground := Go.Ground.data }], guard := none }) (v := ?va8) rfl (by kernel_rfl) (by kernel_rfl) (by kernel_rfl) (fun _ _ _ h => h) (Or.inl ⟨by rfl, ?hya8⟩) (by assumption) ?_
              case hya8 => (intro wz hSw; (try dsimp only at hSw); go_simp; try with_reducible rfl)
              (try simp only [Act.put, List.setIfInBounds_toArray, List.set_cons_zero, List.set_cons_succ])
              refine wpAnyH_take (i := 9) (oi := { dst := some 61, op := Go.Op.load 9 (Go.Operand.tmp 60), type := 9, pos := _, after := #[{ on := 8, ground := Go.Ground.data }], guard := none }) (v := ?va9) rfl (by kernel_rfl) (by kernel_rfl) (by kernel_rfl) (fun _ _ _ h => h) (Or.inl ⟨by rfl, ?hya9⟩) (by assumption) ?_
              case hya9 => (intro wz hSw; (try dsimp only at hSw); go_simp; try with_reducible rfl)
              (try simp only [Act.put, List.setIfInBounds_toArray, List.set_cons_zero, List.set_cons_succ])
              refine wpAnyH_take (i := 11) (oi := { dst := some 63, op := Go.Op.move (Go.Operand.tmp 1), type := 43, pos := _, after := #[], guard := none }) (v := ?va11) rfl (by kernel_rfl) (by kernel_rfl) (by kernel_rfl) (fun _ _ _ h => h) (Or.inl ⟨by rfl, ?hya11⟩) (by assumption) ?_
              case hya11 => (intro wz hSw; (try dsimp only at hSw); go_simp; try with_reducible rfl)
              (try simp only [Act.put, List.setIfInBounds_toArray, List.set_cons_zero, List.set_cons_succ])
              refine wpAnyH_take (i := 12) (oi := { dst := some 64, op := Go.Op.move (Go.Operand.tmp 2), type := 55, pos := _, after := #[], guard := none }) (v := ?va12) rfl (by kernel_rfl) (by kernel_rfl) (by kernel_rfl) (fun _ _ _ h => h) (Or.inl ⟨by rfl, ?hya12⟩) (by assumption) ?_
              case hya12 => (intro wz hSw; (try dsimp only at hSw); go_simp; try with_reducible rfl)
              (try simp only [Act.put, List.setIfInBounds_toArray, List.set_cons_zero, List.set_cons_succ])
              refine wpAnyH_take (i := 13) (oi := { dst := some 65, op := Go.Op.move (Go.Operand.tmp 3), type := 3, pos := _, after := #[], guard := none }) (v := ?va13) rfl (by kernel_rfl) (by kernel_rfl) (by kernel_rfl) (fun _ _ _ h => h) (Or.inl ⟨by rfl, ?hya13⟩) (by assumption) ?_
              case hya13 => (intro wz hSw; (try dsimp only at hSw); go_simp; try with_reducible rfl)
              (try simp only [Act.put, List.setIfInBounds_toArray, List.set_cons_zero, List.set_cons_succ])
              refine wpAnyH_take (i := 14) (oi := { dst := some 66, op := Go.Op.binOp Go.BinOp.add 3 (Go.Operand.tmp 65) (Go.Operand.const (Go.Value.int Go.IntKind.i64 1)) 3, type := 3, pos := _, after := #[{ on := 13, ground := Go.Ground.data }], guard := none }) (v := ?va14) rfl (by kernel_rfl) (by kernel_rfl) (by kernel_rfl) (fun _ _ _ h => h) (Or.inl ⟨by rfl, ?hya14⟩) (by assumption) ?_
              case hya14 => (intro wz hSw; (try dsimp only at hSw); go_simp; try with_reducible rfl)
              (try simp only [Act.put, List.setIfInBounds_toArray, List.set_cons_zero, List.set_cons_succ])
              refine wpAnyH_ready (rs := [10]) (by kernel_rfl) (by simp) ?_
              refine AllReadyH.cons (o := { dst := some 62, op := Go.Op.call { callee := Go.Callee.value (Go.Operand.func 46), args := #[Go.Operand.tmp 61], argTypes := #[9] }, type := 60, pos := _, after := #[{ on := 9, ground := Go.Ground.data }], guard := none }) rfl (fun K hK => ?_) AllReadyH.nil
              go_simp
              refine (NM.out _).mono ?_; rintro e w4 ⟨rfl, hb4⟩
              have hB4 : Below wr.heap.size wr w4 := (bdr wr).trans hb4
              have z0 := keepC hB4 r3
              have z1 := keepC hB4 x0
              have z2 := keepC hB4 x1
              have z3 := keepC hB4 x2
              have z4 := keepC hB4 x3
              have z5 := keepC hB4 x4
              have z6 := keepC hB4 x5
              have z7 := keepC hB4 x6
              have z8 := keepC hB4 x7
              have z9 := keepC hB4 t0
              clear hb4
              go_wp2_with fail
              refine hK.out _ _ ?_ (fun hHeld => ?_)
              · (try dsimp only); go_keep
              clear hK K
              (try simp only [Act.put, List.setIfInBounds_toArray, List.set_cons_zero, List.set_cons_succ])
              refine wpAnyH_ready (rs := [15]) (by kernel_rfl) (by simp) ?_
              refine AllReadyH.cons (o := { dst := some 67, op := Go.Op.call { callee := Go.Callee.value (Go.Operand.func 34), args := #[Go.Operand.tmp 57, Go.Operand.tmp 62, Go.Operand.tmp 63, Go.Operand.tmp 64, Go.Operand.tmp 66], argTypes := #[46, 60, 43, 55, 3] }, type := 9, pos := _, after := #[{ on := 5, ground := Go.Ground.data }, { on := 10, ground := Go.Ground.data }, { on := 11, ground := Go.Ground.data }, { on := 12, ground := Go.Ground.data }, { on := 14, ground := Go.Ground.data }, { on := 10, ground := Go.Ground.chain }], guard := none }) rfl (fun K hK => ?_) AllReadyH.nil
              go_simp
              refine (CALL.out w4 hB4).mono ?_; rintro e w5 ⟨rfl, hb5⟩
              have HBF : Hid (Below w1.heap.size w1 w5) := Lib.hid (HBQ.out.trans ((hB4.trans (hb5.mono hB4.size)).mono HBQ.out.size))
              have y0 := keepC hb5 z0
              have y1 := keepC hb5 z1
              have y2 := keepC hb5 z2
              have y3 := keepC hb5 z3
              have y4 := keepC hb5 z4
              have y5 := keepC hb5 z5
              have y6 := keepC hb5 z6
              have y7 := keepC hb5 z7
              have y8 := keepC hb5 z8
              have y9 := keepC hb5 z9
              clear hb5 hB4
              go_wp2_with fail
              refine hK.out _ _ ?_ (fun hHeld => ?_)
              · (try dsimp only); go_keep
              clear hK K
              (try simp only [Act.put, List.setIfInBounds_toArray, List.set_cons_zero, List.set_cons_succ])
              refine wpAnyH_take (i := 16) (oi := { dst := some 68, op := Go.Op.binOp Go.BinOp.add 9 (Go.Operand.tmp 52) (Go.Operand.tmp 67) 9, type := 9, pos := _, after := #[{ on := 0, ground := Go.Ground.data }, { on := 15, ground := Go.Ground.data }], guard := none }) (v := ?va16) rfl (by kernel_rfl) (by kernel_rfl) (by kernel_rfl) (fun _ _ _ h => h) (Or.inl ⟨by rfl, ?hya16⟩) (by assumption) ?_
              case hya16 => (intro wz hSw; (try dsimp only at hSw); go_simp; try with_reducible rfl)
              (try simp only [Act.put, List.setIfInBounds_toArray, List.set_cons_zero, List.set_cons_succ])
              refine wpAnyH_take (i := 17) (oi := { dst := some 11, op := Go.Op.assign (Go.Operand.tmp 68), type := 9, pos := _, after := #[{ on := 16, ground := Go.Ground.data }, { on := 15, ground := Go.Ground.chain }, { on := 0, ground := Go.Ground.phase }, { on := 1, ground := Go.Ground.phase }, { on := 2, ground := Go.Ground.phase }, { on := 3, ground := Go.Ground.phase }, { on := 4, ground := Go.Ground.phase }, { on := 5, ground := Go.Ground.phase }, { on := 6, ground := Go.Ground.phase }, { on := 7, ground := Go.Ground.phase }, { on := 8, ground := Go.Ground.phase }, { on := 9, ground := Go.Ground.phase }, { on := 10, ground := Go.Ground.phase }, { on := 11, ground := Go.Ground.phase }, { on := 12, ground := Go.Ground.phase }, { on := 13, ground := Go.Ground.phase }, { on := 14, ground := Go.Ground.phase }, { on := 15, ground := Go.Ground.phase }, { on := 16, ground := Go.Ground.phase }], guard := none }) (v := ?va17) rfl (by kernel_rfl) (by kernel_rfl) (by kernel_rfl) (fun _ _ _ h => h) (Or.inl ⟨by rfl, ?hya17⟩) (by assumption) ?_
              case hya17 => (intro wz hSw; (try dsimp only at hSw); go_simp; try with_reducible rfl)
              (try simp only [Act.put, List.setIfInBounds_toArray, List.set_cons_zero, List.set_cons_succ])
              refine wpAnyH_done (by kernel_rfl) ?_ _
              go_wp2
              go_roundw
              case rel => exact ⟨k + 1, by omega, by go_num, by rw [HN.out], HBF.out⟩
              case measure => simp [intOf]; omega
            · have d1 := decide_eq_true (show (0 : Int) < (k : Int) by omega)
              have d2 := decide_eq_true (show 0 < k by omega)
              rw [if_neg hk0] at hhd
              have ad0 := add_str (b := { data := #[44, 32] }) (show atS g ts l k ++ ({ data := #[44, 32] } : ByteArray) = s1 from hhd) (by have := bs_le hhd; omega) (by decide)
              clear hhd hk0 hsz0
              go_wp2
              refine wp_region_held_drew (S := fun w' => w'.cell? ⟨w.heap.size, 3, none⟩ = some (.slice (some ⟨ab, 0, none⟩) l.length c) ∧ w'.cell? ⟨ab, k * 8, none⟩ = some (.int .i64 l[k].k) ∧ w'.cell? ⟨ab, k * 8 + 1, none⟩ = some (.int .i64 l[k].n) ∧ w'.cell? ⟨ab, k * 8 + 2, none⟩ = some (.string l[k].nm) ∧ w'.cell? ⟨ab, k * 8 + 3, none⟩ = some (.slice A1 l[k].args.length c1) ∧ w'.cell? ⟨ab, k * 8 + 4, none⟩ = some (.int .i64 l[k].node) ∧ w'.cell? ⟨ab, k * 8 + 5, none⟩ = some (.pointer none) ∧ w'.cell? ⟨ab, k * 8 + 6, none⟩ = some (.int .i64 l[k].at_) ∧ w'.cell? ⟨ab, k * 8 + 7, none⟩ = some (.int .i64 0) ∧ w'.cell? ⟨tb, to_ + k, none⟩ = some (.string ts[k])) (by kernel_rfl) ?_ (fun hHeld => ?_)
              · (try dsimp only); go_keep
              refine wpAnyH_take (i := 0) (oi := { dst := some 52, op := Go.Op.move (Go.Operand.tmp 11), type := 9, pos := _, after := #[], guard := none }) (v := ?vb0) rfl (by kernel_rfl) (by kernel_rfl) (by kernel_rfl) (fun _ _ _ h => h) (Or.inl ⟨by rfl, ?hyb0⟩) (by assumption) ?_
              case hyb0 => (intro wz hSw; (try dsimp only at hSw); go_simp; try with_reducible rfl)
              (try simp only [Act.put, List.setIfInBounds_toArray, List.set_cons_zero, List.set_cons_succ])
              refine wpAnyH_take (i := 1) (oi := { dst := some 53, op := Go.Op.fieldAddr 46 (Go.Operand.tmp 4) 3, type := 0, pos := _, after := #[], guard := none }) (v := ?vb1) rfl (by kernel_rfl) (by kernel_rfl) (by kernel_rfl) (fun _ _ _ h => h) (Or.inl ⟨by rfl, ?hyb1⟩) (by assumption) ?_
              case hyb1 => (intro wz hSw; (try dsimp only at hSw); go_simp; try with_reducible rfl)
              (try simp only [Act.put, List.setIfInBounds_toArray, List.set_cons_zero, List.set_cons_succ])
              refine wpAnyH_take (i := 2) (oi := { dst := some 54, op := Go.Op.load 43 (Go.Operand.tmp 53), type := 43, pos := _, after := #[{ on := 1, ground := Go.Ground.data }], guard := none }) (v := ?vb2) rfl (by kernel_rfl) (by kernel_rfl) (by kernel_rfl) (fun _ _ _ h => h) (Or.inl ⟨by rfl, ?hyb2⟩) (by assumption) ?_
              case hyb2 => (intro wz hSw; (try dsimp only at hSw); go_simp; try with_reducible rfl)
              (try simp only [Act.put, List.setIfInBounds_toArray, List.set_cons_zero, List.set_cons_succ])
              refine wpAnyH_take (i := 3) (oi := { dst := some 55, op := Go.Op.move (Go.Operand.tmp 12), type := 3, pos := _, after := #[], guard := none }) (v := ?vb3) rfl (by kernel_rfl) (by kernel_rfl) (by kernel_rfl) (fun _ _ _ h => h) (Or.inl ⟨by rfl, ?hyb3⟩) (by assumption) ?_
              case hyb3 => (intro wz hSw; (try dsimp only at hSw); go_simp; try with_reducible rfl)
              (try simp only [Act.put, List.setIfInBounds_toArray, List.set_cons_zero, List.set_cons_succ])
              refine wpAnyH_take (i := 4) (oi := { dst := some 56, op := Go.Op.indexAddr 43 (Go.Operand.tmp 54) (Go.Operand.tmp 55), type := 0, pos := _, after := #[{ on := 2, ground := Go.Ground.data }, { on := 3, ground := Go.Ground.data }], guard := none }) (v := ?vb4) rfl (by kernel_rfl) (by kernel_rfl) (by kernel_rfl) (fun _ _ _ h => h) (Or.inl ⟨by rfl, ?hyb4⟩) (by assumption) ?_
              case hyb4 => (intro wz hSw; (try dsimp only at hSw); go_simp; try with_reducible rfl)
              (try simp only [Act.put, List.setIfInBounds_toArray, List.set_cons_zero, List.set_cons_succ])
              refine wpAnyH_take (i := 5) (oi := { dst := some 57, op := Go.Op.load 46 (Go.Operand.tmp 56), type := 46, pos := _, after := #[{ on := 4, ground := Go.Ground.data }], guard := none }) (v := ?vb5) rfl (by kernel_rfl) (by kernel_rfl) (by kernel_rfl) (fun _ _ _ h => h) (Or.inl ⟨by rfl, ?hyb5⟩) (by assumption) ?_
              case hyb5 => (intro wz hSw; (try dsimp only at hSw); go_simp; try with_reducible rfl)
              (try simp only [Act.put, List.setIfInBounds_toArray, List.set_cons_zero, List.set_cons_succ])
              refine wpAnyH_take (i := 6) (oi := { dst := some 58, op := Go.Op.move (Go.Operand.tmp 9), type := 35, pos := _, after := #[], guard := none }) (v := ?vb6) rfl (by kernel_rfl) (by kernel_rfl) (by kernel_rfl) (fun _ _ _ h => h) (Or.inl ⟨by rfl, ?hyb6⟩) (by assumption) ?_
              case hyb6 => (intro wz hSw; (try dsimp only at hSw); go_simp; try with_reducible rfl)
              (try simp only [Act.put, List.setIfInBounds_toArray, List.set_cons_zero, List.set_cons_succ])
              refine wpAnyH_take (i := 7) (oi := { dst := some 59, op := Go.Op.move (Go.Operand.tmp 12), type := 3, pos := _, after := #[], guard := none }) (v := ?vb7) rfl (by kernel_rfl) (by kernel_rfl) (by kernel_rfl) (fun _ _ _ h => h) (Or.inl ⟨by rfl, ?hyb7⟩) (by assumption) ?_
              case hyb7 => (intro wz hSw; (try dsimp only at hSw); go_simp; try with_reducible rfl)
              (try simp only [Act.put, List.setIfInBounds_toArray, List.set_cons_zero, List.set_cons_succ])
              refine wpAnyH_take (i := 8) (oi := { dst := some 60, op := Go.Op.indexAddr 35 (Go.Operand.tmp 58) (Go.Operand.tmp 59), type := 0, pos := _, after := #[{ on := 6, ground := Go.Ground.data }, { on := 7, ground := Go.Ground.data }], guard := none }) (v := ?vb8) rfl (by kernel_rfl) (by kernel_rfl) (by kernel_rfl) (fun _ _ _ h => h) (Or.inl ⟨by rfl, ?hyb8⟩) (by assumption) ?_
              case hyb8 => (intro wz hSw; (try dsimp only at hSw); go_simp; try with_reducible rfl)
              (try simp only [Act.put, List.setIfInBounds_toArray, List.set_cons_zero, List.set_cons_succ])
              refine wpAnyH_take (i := 9) (oi := { dst := some 61, op := Go.Op.load 9 (Go.Operand.tmp 60), type := 9, pos := _, after := #[{ on := 8, ground := Go.Ground.data }], guard := none }) (v := ?vb9) rfl (by kernel_rfl) (by kernel_rfl) (by kernel_rfl) (fun _ _ _ h => h) (Or.inl ⟨by rfl, ?hyb9⟩) (by assumption) ?_
              case hyb9 => (intro wz hSw; (try dsimp only at hSw); go_simp; try with_reducible rfl)
              (try simp only [Act.put, List.setIfInBounds_toArray, List.set_cons_zero, List.set_cons_succ])
              refine wpAnyH_take (i := 11) (oi := { dst := some 63, op := Go.Op.move (Go.Operand.tmp 1), type := 43, pos := _, after := #[], guard := none }) (v := ?vb11) rfl (by kernel_rfl) (by kernel_rfl) (by kernel_rfl) (fun _ _ _ h => h) (Or.inl ⟨by rfl, ?hyb11⟩) (by assumption) ?_
              case hyb11 => (intro wz hSw; (try dsimp only at hSw); go_simp; try with_reducible rfl)
              (try simp only [Act.put, List.setIfInBounds_toArray, List.set_cons_zero, List.set_cons_succ])
              refine wpAnyH_take (i := 12) (oi := { dst := some 64, op := Go.Op.move (Go.Operand.tmp 2), type := 55, pos := _, after := #[], guard := none }) (v := ?vb12) rfl (by kernel_rfl) (by kernel_rfl) (by kernel_rfl) (fun _ _ _ h => h) (Or.inl ⟨by rfl, ?hyb12⟩) (by assumption) ?_
              case hyb12 => (intro wz hSw; (try dsimp only at hSw); go_simp; try with_reducible rfl)
              (try simp only [Act.put, List.setIfInBounds_toArray, List.set_cons_zero, List.set_cons_succ])
              refine wpAnyH_take (i := 13) (oi := { dst := some 65, op := Go.Op.move (Go.Operand.tmp 3), type := 3, pos := _, after := #[], guard := none }) (v := ?vb13) rfl (by kernel_rfl) (by kernel_rfl) (by kernel_rfl) (fun _ _ _ h => h) (Or.inl ⟨by rfl, ?hyb13⟩) (by assumption) ?_
              case hyb13 => (intro wz hSw; (try dsimp only at hSw); go_simp; try with_reducible rfl)
              (try simp only [Act.put, List.setIfInBounds_toArray, List.set_cons_zero, List.set_cons_succ])
              refine wpAnyH_take (i := 14) (oi := { dst := some 66, op := Go.Op.binOp Go.BinOp.add 3 (Go.Operand.tmp 65) (Go.Operand.const (Go.Value.int Go.IntKind.i64 1)) 3, type := 3, pos := _, after := #[{ on := 13, ground := Go.Ground.data }], guard := none }) (v := ?vb14) rfl (by kernel_rfl) (by kernel_rfl) (by kernel_rfl) (fun _ _ _ h => h) (Or.inl ⟨by rfl, ?hyb14⟩) (by assumption) ?_
              case hyb14 => (intro wz hSw; (try dsimp only at hSw); go_simp; try with_reducible rfl)
              (try simp only [Act.put, List.setIfInBounds_toArray, List.set_cons_zero, List.set_cons_succ])
              refine wpAnyH_ready (rs := [10]) (by kernel_rfl) (by simp) ?_
              refine AllReadyH.cons (o := { dst := some 62, op := Go.Op.call { callee := Go.Callee.value (Go.Operand.func 46), args := #[Go.Operand.tmp 61], argTypes := #[9] }, type := 60, pos := _, after := #[{ on := 9, ground := Go.Ground.data }], guard := none }) rfl (fun K hK => ?_) AllReadyH.nil
              go_simp
              refine (NM.out _).mono ?_; rintro e w4 ⟨rfl, hb4⟩
              have hB4 : Below wr.heap.size wr w4 := (bdr wr).trans hb4
              have z0 := keepC hB4 r3
              have z1 := keepC hB4 x0
              have z2 := keepC hB4 x1
              have z3 := keepC hB4 x2
              have z4 := keepC hB4 x3
              have z5 := keepC hB4 x4
              have z6 := keepC hB4 x5
              have z7 := keepC hB4 x6
              have z8 := keepC hB4 x7
              have z9 := keepC hB4 t0
              clear hb4
              go_wp2_with fail
              refine hK.out _ _ ?_ (fun hHeld => ?_)
              · (try dsimp only); go_keep
              clear hK K
              (try simp only [Act.put, List.setIfInBounds_toArray, List.set_cons_zero, List.set_cons_succ])
              refine wpAnyH_ready (rs := [15]) (by kernel_rfl) (by simp) ?_
              refine AllReadyH.cons (o := { dst := some 67, op := Go.Op.call { callee := Go.Callee.value (Go.Operand.func 34), args := #[Go.Operand.tmp 57, Go.Operand.tmp 62, Go.Operand.tmp 63, Go.Operand.tmp 64, Go.Operand.tmp 66], argTypes := #[46, 60, 43, 55, 3] }, type := 9, pos := _, after := #[{ on := 5, ground := Go.Ground.data }, { on := 10, ground := Go.Ground.data }, { on := 11, ground := Go.Ground.data }, { on := 12, ground := Go.Ground.data }, { on := 14, ground := Go.Ground.data }, { on := 10, ground := Go.Ground.chain }], guard := none }) rfl (fun K hK => ?_) AllReadyH.nil
              go_simp
              refine (CALL.out w4 hB4).mono ?_; rintro e w5 ⟨rfl, hb5⟩
              have HBF : Hid (Below w1.heap.size w1 w5) := Lib.hid (HBQ.out.trans ((hB4.trans (hb5.mono hB4.size)).mono HBQ.out.size))
              have y0 := keepC hb5 z0
              have y1 := keepC hb5 z1
              have y2 := keepC hb5 z2
              have y3 := keepC hb5 z3
              have y4 := keepC hb5 z4
              have y5 := keepC hb5 z5
              have y6 := keepC hb5 z6
              have y7 := keepC hb5 z7
              have y8 := keepC hb5 z8
              have y9 := keepC hb5 z9
              clear hb5 hB4
              go_wp2_with fail
              refine hK.out _ _ ?_ (fun hHeld => ?_)
              · (try dsimp only); go_keep
              clear hK K
              (try simp only [Act.put, List.setIfInBounds_toArray, List.set_cons_zero, List.set_cons_succ])
              refine wpAnyH_take (i := 16) (oi := { dst := some 68, op := Go.Op.binOp Go.BinOp.add 9 (Go.Operand.tmp 52) (Go.Operand.tmp 67) 9, type := 9, pos := _, after := #[{ on := 0, ground := Go.Ground.data }, { on := 15, ground := Go.Ground.data }], guard := none }) (v := ?vb16) rfl (by kernel_rfl) (by kernel_rfl) (by kernel_rfl) (fun _ _ _ h => h) (Or.inl ⟨by rfl, ?hyb16⟩) (by assumption) ?_
              case hyb16 => (intro wz hSw; (try dsimp only at hSw); go_simp; try with_reducible rfl)
              (try simp only [Act.put, List.setIfInBounds_toArray, List.set_cons_zero, List.set_cons_succ])
              refine wpAnyH_take (i := 17) (oi := { dst := some 11, op := Go.Op.assign (Go.Operand.tmp 68), type := 9, pos := _, after := #[{ on := 16, ground := Go.Ground.data }, { on := 15, ground := Go.Ground.chain }, { on := 0, ground := Go.Ground.phase }, { on := 1, ground := Go.Ground.phase }, { on := 2, ground := Go.Ground.phase }, { on := 3, ground := Go.Ground.phase }, { on := 4, ground := Go.Ground.phase }, { on := 5, ground := Go.Ground.phase }, { on := 6, ground := Go.Ground.phase }, { on := 7, ground := Go.Ground.phase }, { on := 8, ground := Go.Ground.phase }, { on := 9, ground := Go.Ground.phase }, { on := 10, ground := Go.Ground.phase }, { on := 11, ground := Go.Ground.phase }, { on := 12, ground := Go.Ground.phase }, { on := 13, ground := Go.Ground.phase }, { on := 14, ground := Go.Ground.phase }, { on := 15, ground := Go.Ground.phase }, { on := 16, ground := Go.Ground.phase }], guard := none }) (v := ?vb17) rfl (by kernel_rfl) (by kernel_rfl) (by kernel_rfl) (fun _ _ _ h => h) (Or.inl ⟨by rfl, ?hyb17⟩) (by assumption) ?_
              case hyb17 => (intro wz hSw; (try dsimp only at hSw); go_simp; try with_reducible rfl)
              (try simp only [Act.put, List.setIfInBounds_toArray, List.set_cons_zero, List.set_cons_succ])
              refine wpAnyH_done (by kernel_rfl) ?_ _
              go_wp2
              go_roundw
              case rel => exact ⟨k + 1, by omega, by go_num, by rw [HN.out], HBF.out⟩
              case measure => simp [intOf]; omega
          · have hti : ¬ (k : Int) < (ts.length : Int) := by omega
            have hpie : pieceT g ts k l[k] = markT := by unfold pieceT; rw [dif_neg hkt]
            rw [hpie] at HN hsz0
            obtain ⟨s3, hs3⟩ : ∃ s3, s3 = s1 ++ markT := ⟨_, rfl⟩
            rw [← hs3] at HN
            have ad := add_str (b := { data := #[63] }) (show s1 ++ ({ data := #[63] } : ByteArray) = s3 from hs3.symm) (by omega) (by decide)
            clear hpie hs3
            by_cases hk0 : k = 0
            · have d1 := decide_eq_false (show ¬ (0 : Int) < (k : Int) by omega)
              have d2 := decide_eq_false (show ¬ 0 < k by omega)
              rw [if_pos hk0] at hhd
              rw [hhd]
              clear hhd hk0 hsz0
              go_wp2
              go_roundw
              case rel => exact ⟨k + 1, by omega, by go_num, by rw [HN.out], HBQ.out⟩
              case measure => simp [intOf]; omega
            · have d1 := decide_eq_true (show (0 : Int) < (k : Int) by omega)
              have d2 := decide_eq_true (show 0 < k by omega)
              rw [if_neg hk0] at hhd
              have ad0 := add_str (b := { data := #[44, 32] }) (show atS g ts l k ++ ({ data := #[44, 32] } : ByteArray) = s1 from hhd) (by have := bs_le hhd; omega) (by decide)
              clear hhd hk0 hsz0
              go_wp2
              go_roundw
              case rel => exact ⟨k + 1, by omega, by go_num, by rw [HN.out], HBQ.out⟩
              case measure => simp [intOf]; omega
        · obtain rfl : k = l.length := by omega
          have hat : atS g ts l l.length = piecesT g ts 0 l := by unfold atS; rw [if_neg h0, List.take_length]
          rw [hat]
          have ad := add_str (b := { data := #[41] }) (show piecesT g ts 0 l ++ ({ data := #[41] } : ByteArray) = piecesT g ts 0 l ++ closeT from rfl) (by omega) (by decide)
          have hge : ¬ (l.length : Int) < (l.length : Int) := by omega
          clear hat hpl hpc
          obtain ⟨sz, hsz⟩ : ∃ sz, sz = piecesT g ts 0 l := ⟨_, rfl⟩
          rw [← hsz] at ad ⊢
          have HSZ := Lib.hid hsz
          clear hsz
          go_wp2
          go_ret
          exact ⟨by rw [← HTS.out, ← HSZ.out]; rfl, hBQ.out⟩
end Go.Proofs.YtclilpabdcdeoaaDoor
