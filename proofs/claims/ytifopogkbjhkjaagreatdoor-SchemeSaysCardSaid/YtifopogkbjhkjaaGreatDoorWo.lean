import Derived.Test.YtifopogkbjhkjaaGreatDoorWn
import Derived.Deep.CutBlock
import Derived.Deep.DeepCutAuto
namespace Go.Proofs.YtifopogkbjhkjaaGreatDoor
open DR
open Go.ChangeShapes Go.WideShapes Go.ChangeAt Go.RowKit Go.WideMaps
set_option linter.unusedVariables false
set_option linter.unusedSimpArgs false
variable {nx : Int}
theorem insS_at {x : Int} : ∀ {l : List Int} {k : Nat}, k ≤ l.length → (∀ j (h : j < l.length), j < k → l[j] < x) → (∀ h : k < l.length, ¬ l[k] < x) → insS l x = l.take k ++ x :: l.drop k
  | [], k, hk, _, _ => by
    obtain rfl : k = 0 := by simpa using hk
    simp [insS]
  | a :: l, 0, _, _, h2 => by
    have h := h2 (by simp)
    rw [insS, if_neg (by simpa using h)]; simp
  | a :: l, k + 1, hk, h1, h2 => by
    have h := h1 0 (by simp) (by omega)
    rw [insS, if_pos (by simpa using h), insS_at (l := l) (k := k) (by simpa using hk) (fun j hj hjk => by have := h1 (j + 1) (by simpa using hj) (by omega); simpa using this) (fun hk' => by have := h2 (by simpa using hk'); simpa using this)]
    simp

def okE (E : List (List Int × TT)) : Bool := E.all fun e => sgoodT e.2 e.1
theorem okE_take {E : List (List Int × TT)} {k : Nat} (h : k < E.length) : okE (E.take (k + 1)) = (okE (E.take k) && sgoodT E[k].2 E[k].1) := by
  unfold okE; rw [List.take_succ_eq_append_getElem h, List.all_append]; simp
theorem heldS_len {R : List TT} (h : SInv2 R) (all : List Int) : ∀ (vs l : List Int), (∀ x ∈ vs, 0 ≤ x ∧ x ≤ 1999) → (heldS R all vs l).length ≤ l.length + 500 * vs.length
  | [], l, _ => by simp [heldS]
  | x :: vs, l, hv => by
    have hx := hv x (by simp)
    have ih := heldS_len h all vs (heldV R all l x) (fun z hz => hv z (by simp [hz]))
    have h1 := heldV_len h all l hx.1 hx.2
    unfold heldS at ih ⊢
    rw [List.foldl_cons, List.length_cons]
    omega
theorem heldE_len {R : List TT} (h : SInv2 R) : ∀ (E : List (List Int × TT)) (l : List Int), (∀ e ∈ E, bigT 7 e.2 = false ∧ shp e.2 = true) → (E.foldl (fun l e => heldS R e.1 (varsOf e.2) l) l).length ≤ l.length + 50000 * E.length
  | [], l, _ => by simp
  | e :: E, l, hv => by
    have h3 := hv e (by simp)
    have ih := heldE_len h E (heldS R e.1 (varsOf e.2) l) (fun z hz => hv z (by simp [hz]))
    have h1 := heldS_len h e.1 (varsOf e.2) l (vars_in e.2 [] h3.2 (fun _ h => by cases h))
    have h2 := vars_few 6 e.2 [] h3.1 h3.2
    have h2' : (varsOf e.2).length ≤ 64 := by unfold varsOf; simp at h2; omega
    rw [List.foldl_cons, List.length_cons]
    omega
def allK (hd vs : List Int) (k : Nat) : List Int := (vs.take k).foldl (rAllF hd) []
theorem allK_no {hd vs : List Int} {k : Nat} (h : k < vs.length) (hm : vs[k] ∈ hd) : allK hd vs (k + 1) = allK hd vs k := by
  unfold allK; rw [List.take_succ_eq_append_getElem h, List.foldl_append]; simp [rAllF, hm]
theorem allK_yes {hd vs : List Int} {k : Nat} (h : k < vs.length) (hm : vs[k] ∉ hd) : allK hd vs (k + 1) = insS (allK hd vs k) vs[k] := by
  unfold allK; rw [List.take_succ_eq_append_getElem h, List.foldl_append]; simp [rAllF, hm]
theorem own_up {w : World} {B B' : Nat} {e : TypeId} {s n : Nat} {v : Value} {xs : List Value} (h : w.ownsRow B e s v n xs) (hb : B' ≤ B) : w.ownsRow B' e s v n xs := by
  refine ⟨h.1, ?_⟩
  rcases h.2 with h2 | ⟨g, cap, cur, e1, e2, e3⟩
  · exact .inl h2
  · exact .inr ⟨g, cap, cur, e1, Nat.le_trans hb e2, e3⟩
theorem own_cap {w : World} {B m ca : Nat} {e : TypeId} {s : Nat} {A : Option Addr} {xs : List Value} (h : w.ownsRow B e s (.slice A m ca) m xs) : m ≤ ca := by
  rcases h.2 with ⟨e1, h2⟩ | ⟨g, cap, cur, e1, -, -, h3, -⟩
  · omega
  · injection e1 with _ _ e3; omega
/-- the first of an own row. -/
theorem own_pre {w : World} {B m ca : Nat} {A : Option Addr} {l : List Int} {k : Nat} (h : w.ownsRow B TI 1 (.slice A m ca) m (ivs l)) : (A = none → k ≤ m → k = 0 ∧ ca = 0) ∧ ∀ ad, A = some ad → ∀ j u, (ivs (l.take k))[j]? = some u → w.cell? (ad.add j) = some u := by
  obtain ⟨h1, h2⟩ := own_parts h
  refine ⟨fun e hk => by have := h1 e; omega, fun ad e j u hj => h2 ad e j u ?_⟩
  unfold ivs at hj ⊢
  rw [List.map_take, List.getElem?_take] at hj
  split at hj
  · exact hj
  · cases hj
/-- what is left of an own row. -/
def dropA (A : Option Addr) (ca k : Nat) : Option Addr := if ca = k then A else A.map fun a => a.add k
theorem own_rest {w : World} {B m ca : Nat} {A : Option Addr} {l : List Int} {k : Nat} (h : w.ownsRow B TI 1 (.slice A m ca) m (ivs l)) (hk : k ≤ m) : (dropA A ca k = none → m - k = 0 ∧ ca - k = 0) ∧ ∀ ad, dropA A ca k = some ad → ∀ j u, (ivs (l.drop k))[j]? = some u → w.cell? (ad.add j) = some u := by
  obtain ⟨h1, h2⟩ := own_parts h
  have hc := own_cap h
  have hl : l.length = m := by have := h.1; rw [ivs_len] at this; omega
  refine ⟨fun e => ?_, fun ad e j u hj => ?_⟩
  · cases A with
    | none => have := h1 rfl; omega
    | some a => unfold dropA at e; split at e <;> cases e
  · have hj2 : (ivs l)[k + j]? = some u := by
      unfold ivs at hj ⊢
      rw [List.map_drop, List.getElem?_drop] at hj; exact hj
    have hlt : k + j < m := by
      have := (List.getElem?_eq_some_iff.1 hj2).1
      rw [ivs_len] at this; omega
    unfold dropA at e
    rw [if_neg (by omega)] at e
    rcases h.2 with ⟨e1, h0⟩ | ⟨g, cap, cur, e1, -⟩
    · omega
    · injection e1 with e1
      subst e1
      have e2 : (⟨g, 0, none⟩ : Addr).add k = ad := by simpa using e
      have := h2 _ rfl (k + j) u hj2
      rw [Go.WideShapes.add_plain] at this e2
      rw [← e2, Go.WideShapes.add_plain, show 0 + k + j = 0 + (k + j) by omega]
      exact this
theorem ok_no {g e s : Bool} (h : false = (g && e)) : false = (g && (e && s)) := by cases g <;> cases e <;> simp_all
theorem ok_yes {g e s : Bool} (h : true = (g && e)) : s = (g && (e && s)) := by cases g <;> cases e <;> simp_all
theorem ok_two {g e : Bool} (h : true = (g && e)) : g = true ∧ e = true := by cases g <;> cases e <;> simp_all
theorem irow_bc {w5 wr : World} {bc : Nat} {A A1 A2 : Option Addr} {m1 m2 c1 c2 : Nat} {l : List Int} {a1 a2 a3 a4 : Value} {t : TypeId} (h : IRow w5 A l) (f : Frm w5 wr (· = bc)) (h5 : w5.heap[bc]? = some (.cells #[.slice A1 m1 c1, a1, a2, a3, a4] t (0, 0))) (hr : wr.heap[bc]? = some (.cells #[.slice A2 m2 c2, a1, a2, a3, a4] t (0, 0))) : IRow wr A l := by
  rcases h with h | ⟨b, o, h1, h2, h3⟩
  · exact .inl h
  · refine .inr ⟨b, o, h1, Nat.lt_of_lt_of_le h2 f.size, fun j hj => ?_⟩
    have h4 := h3 j hj
    by_cases e : b = bc
    · subst e
      have e5 : w5.cell? ⟨b, o + j, none⟩ = (#[.slice A1 m1 c1, a1, a2, a3, a4] : Array Value)[o + j]? := by simp [World.cell?, h5]
      have er : wr.cell? ⟨b, o + j, none⟩ = (#[.slice A2 m2 c2, a1, a2, a3, a4] : Array Value)[o + j]? := by simp [World.cell?, hr]
      rw [e5] at h4
      rw [er]
      rcases Nat.eq_zero_or_pos (o + j) with e0 | e0
      · rw [e0] at h4; simp at h4
      · obtain ⟨q, hq⟩ : ∃ q, o + j = q + 1 := ⟨o + j - 1, by omega⟩
        rw [hq] at h4 ⊢
        simpa using h4
    · exact (World.cell?_of_block (f.block b h2 e)).trans h4
def RClEnv (w : World) (P0 : Nat → Prop) (T : TT) (all : List Int) (e : Ending) (w' : World) : Prop := ∃ Al ca A c, e = .returned (scv Al all.length ca T A c) ∧ IRow w' Al all ∧ (∀ b o f, Al = some ⟨b, o, f⟩ → w.heap.size ≤ b) ∧ TRow w' (fun q => P0 q ∨ w.heap.size ≤ q) A T.args ∧ Below w.heap.size w w'
open Classical in
/-- what the reference's Close makes of a type in an env. -/
noncomputable def rcloseF (R : List TT) (E : List (List Int × TT)) (V : TT) : TT × List Int :=
  if goodT V = true ∧ okE E = true then (apvF R V, (varsOf (apvF R V)).foldl (rAllF (heldE R E)) []) else (V, [])
theorem rclose_res {tm : Array Value} {W : World} {R : Nat} {v0 v1 v2 v3 v4 : Value} (h : tm[6]? = some (.pointer (some ⟨R, 0, none⟩))) (t0 : W.cell? ⟨R, 0, none⟩ = some v0) (t1 : W.cell? ⟨R, 1, none⟩ = some v1) (t2 : W.cell? ⟨R, 2, none⟩ = some v2) (t3 : W.cell? ⟨R, 3, none⟩ = some v3) (t4 : W.cell? ⟨R, 4, none⟩ = some v4) :
    (results Tryz.f14 tm).run Tryz.prog W = .ok (.agg #[v0, v1, v2, v3, v4]) W := by
  simp [results, Tryz.results14, go_sem, h, t0, t1, t2, t3, t4]
set_option maxRecDepth 100000 in
set_option maxHeartbeats 2000000 in
theorem rVars_big {d : Nat} {V : TT} {v : Value} {w : World} (hbg : bigT d V = false) (hsh : shp V = true) (hnd : nodes V ≤ 1000000) (h : TIn w any0 V v) : Calls Tryz.prog 38 #[v] w (RvPost w (varsOf V)) := by
  have CV := Lib.hid (fun W (hW : Below w.heap.size w W) => rvars_any d V v [] none 0 W hbg hsh (by simp; omega) (h.later hW) (.inl rfl) (fun _ => ⟨rfl, rfl⟩))
  obtain ⟨A, c, rfl, -⟩ := h
  unfold tv at CV ⊢
  have HB0 := Lib.hid (below_alloc w (.cells #[.int .i64 V.k, .string V.nm, .int .i64 V.vr, .slice A V.args.length c] 36))
  clear hbg hsh hnd
  go_enter Tryz.func38, Tryz.ntmps38
  go_wp2_with fail
  refine (CV.out _ HB0.out).mono ?_; rintro e w1 ⟨A1, c1, rfl, ir, nl, b⟩
  have IR := Lib.hid ir; have NL := Lib.hid nl; have B := Lib.hid (bt HB0.out b)
  clear ir nl b CV
  go_wp2
  go_ret
  exact ⟨A1, c1, rfl, IR.out, NL.out, B.out⟩
set_option maxRecDepth 100000 in
set_option maxHeartbeats 16000000 in
theorem rclose {V : TT} {v : Value} {rb ce : Nat} {P0 : Nat → Prop} {Ae : Option Addr} {E : List (List Int × TT)} {R : List TT} {P : Nat → Prop} {w : World} (he : SRow w Ae E) (hE : ∀ x ∈ E, bigT 7 x.2 = false ∧ x.1.length ≤ 10) (hl6 : E.length ≤ 6) (hbg : bigT 7 V = false) (hst : SInv2 R) (hS : RSub nx w P rb R) (h : TIn w P0 V v) :
    Calls Tryz.prog 14 #[.pointer (some ⟨rb, 0, none⟩), v, .slice Ae E.length ce] w (RClEnv w P0 (rcloseF R E V).1 (rcloseF R E V).2) := by
  obtain ⟨i0, hi0, hz0, hz1, hz2⟩ := info_parts infoI
  have hin : TIn w any0 V v := h.weak (fun _ _ _ => trivial)
  obtain ⟨A, c, rfl, hA0⟩ := h
  have CG := Lib.hid (fun W (hW : Below w.heap.size w W) => rgood_any hbg (hin.later hW))
  obtain ⟨Q, hQ⟩ : ∃ q, q = rcloseF R E V := ⟨_, rfl⟩
  rw [← hQ]
  have HQ := Lib.hid hQ
  have HA := Lib.hid hA0
  obtain ⟨wB, hwB⟩ : ∃ z, z = (w.alloc (.cells #[.int .i64 V.k, .string V.nm, .int .i64 V.vr, .slice A V.args.length c] 36)).alloc (.cells #[.slice none 0 0, .int .i64 0, .string ⟨#[]⟩, .int .i64 0, .slice none 0 0] RScT) := ⟨_, rfl⟩
  have BX := two_box (w := w) (.cells #[.int .i64 V.k, .string V.nm, .int .i64 V.vr, .slice A V.args.length c] 36) (.cells #[.slice none 0 0, .int .i64 0, .string ⟨#[]⟩, .int .i64 0, .slice none 0 0] RScT)
  rw [← hwB] at BX
  have HB := Lib.hid (show Below w.heap.size w wB by rw [hwB]; exact bt (below_alloc w _) (below_alloc _ _))
  have HZ := Lib.hid (show wB.heap.size = w.heap.size + 2 by rw [hwB]; simp)
  have HX := Lib.hid BX
  obtain ⟨x0, x1, x2, x3⟩ := cell4 BX.1
  have HWB := Lib.hid hwB
  have CG1 := Lib.hid (fun k (hk : k < E.length) (W : World) (Al : Option Addr) (ca : Nat) (A' : Option Addr) (c' : Nat) (ha : IRow W Al E[k].1) (hr : TRow W any0 A' E[k].2.args) => by
    have h3 := hE _ (List.getElem_mem hk)
    exact rgoodS (all := E[k].1) (Al := Al) (ca := ca) (c := c') h3.1 h3.2 ha hr)
  unfold scv at CG1
  have HE := Lib.hid he
  have HEE := Lib.hid hE
  have HS := Lib.hid hS
  have HST := Lib.hid hst
  have HIN := Lib.hid hin
  obtain ⟨gV, hgV⟩ : ∃ b, b = goodT V := ⟨_, rfl⟩
  have HGV := Lib.hid hgV
  rw [← hgV] at CG
  obtain ⟨NE, hNE⟩ : ∃ N, N = E.length := ⟨_, rfl⟩
  rw [← hNE] at hl6 ⊢
  have HNE := Lib.hid hNE
  unfold tv at CG ⊢
  clear BX hwB hQ hA0 he hE hS hst hin hgV hNE
  go_enter Tryz.func14, Tryz.ntmps14
  go_wp2_with fail
  rw [← HWB.out]
  try go_wp2_with fail
  refine (CG.out _ HB.out).mono ?_; rintro e w1 ⟨rfl, b1⟩
  have B1 := Lib.hid (bt HB.out b1)
  have T1 := Lib.hid ((b1.block w.heap.size (by have := HZ.out; omega)).trans HX.out.1)
  have R1 := Lib.hid ((b1.block (w.heap.size + 1) (by have := HZ.out; omega)).trans HX.out.2)
  have S1 := Lib.hid (show w.heap.size + 2 ≤ w1.heap.size by have := b1.size; have := HZ.out; omega)
  clear b1 x0 x1 x2 x3 CG
  go_wp2
  go_loopw [7, 8] (fun ov i wr => ∃ (k0 : Nat) (ok : Bool), ov = .bool ok ∧ k0 ≤ NE ∧ i = .int .i64 k0 ∧ Hid (ok = (gV && okE (E.take k0))) ∧ Hid (Below w1.heap.size w1 wr)) (fun _ i _ => NE - (intOf i).toNat)
  case atStart => exact ⟨0, gV, rfl, by omega, by first | rfl | trivial, Lib.hid (by simp [okE]), Lib.hid (Below.refl _ _)⟩
  case round =>
    obtain ⟨k0, ok, rfl, hk0, rfl, HOK, HW0⟩ := hrel
    have BW0 := Lib.hid (bt B1.out HW0.out)
    by_cases hlt0 : k0 < NE
    · have hlti0 : (k0 : Int) < (NE : Int) := by omega
      have hlt0' : k0 < E.length := by rw [← HNE.out]; exact hlt0
      have HTE := Lib.hid (okE_take hlt0')
      cases ok with
      | false =>
        have HOK2 := Lib.hid (show false = (gV && okE (E.take (k0 + 1))) by rw [HTE.out]; exact ok_no HOK.out)
        go_wp2
        go_roundw
        case rel => exact ⟨k0 + 1, false, rfl, by omega, by go_num, HOK2, HW0⟩
        case measure => simp [intOf]; omega
      | true =>
        obtain ⟨b0, o0, rfl, hb0, hr0⟩ := (HE.out.later BW0.out).resolve_left (by rw [← HNE.out]; omega)
        obtain ⟨Al0, ca0, A0, c0, z0, z1, z2, z3, z4, ir0, tr0⟩ := hr0 k0 hlt0'
        have CG2 := Lib.hid (CG1.out k0 hlt0' wr Al0 ca0 A0 c0 ir0 tr0)
        obtain ⟨sg, hsg⟩ : ∃ b, b = sgoodT E[k0].2 E[k0].1 := ⟨_, rfl⟩
        have HOK2 := Lib.hid (show sg = (gV && okE (E.take (k0 + 1))) by rw [HTE.out, ← hsg]; exact ok_yes HOK.out)
        rw [← hsg] at CG2
        clear hsg HTE
        obtain ⟨X, hX⟩ : ∃ X, X = (E[k0]'hlt0').2 := ⟨_, rfl⟩
        obtain ⟨Y, hY⟩ : ∃ Y, Y = (E[k0]'hlt0').1 := ⟨_, rfl⟩
        rw [← hX] at z1 z2 z3 z4 CG2
        rw [← hY] at z0 CG2
        clear hr0 hb0 hX hY tr0 ir0
        go_wp2_with fail
        refine CG2.out.mono ?_; rintro e w4 ⟨rfl, b4⟩
        have B4 := Lib.hid (bt HW0.out b4)
        clear b4 CG2 z0 z1 z2 z3 z4
        go_wp2
        go_roundw
        case rel => exact ⟨k0 + 1, sg, rfl, by omega, by go_num, HOK2, B4⟩
        case measure => simp [intOf]; omega
    · obtain rfl : k0 = NE := by omega
      have hge0 : ¬ (k0 : Int) < (k0 : Int) := by omega
      have HOKE := Lib.hid (show ok = (gV && okE E) by have := HOK.out; rw [HNE.out, List.take_length] at this; exact this)
      have TB := Lib.hid ((HW0.out.block w.heap.size (by have := S1.out; omega)).trans T1.out)
      have RB := Lib.hid ((HW0.out.block (w.heap.size + 1) (by have := S1.out; omega)).trans R1.out)
      have SB := Lib.hid (show w.heap.size + 2 ≤ wr.heap.size by have := S1.out; have := HW0.out.size; omega)
      obtain ⟨z0, z1, z2, z3⟩ := cell4 TB.out
      clear CG1 HOK T1 R1 S1 HX HZ HWB
      cases ok with
      | false =>
        have EQ := Lib.hid (show Q = (V, []) by rw [HQ.out]; unfold rcloseF; rw [if_neg (fun e => by have := HOKE.out; rw [HGV.out, e.1, e.2] at this; cases this)])
        obtain ⟨y0, y1, y2, y3, y4⟩ := five5 RB.out
        have k0 := froz5 RB.out 0
        have k1 := froz5 RB.out 1
        have k2 := froz5 RB.out 2
        have k3 := froz5 RB.out 3
        have k4 := froz5 RB.out 4
        obtain ⟨t0, t1, t2, t3, t4⟩ := five5 (cells_all5 (.slice none 0 0) (.int .i64 V.k) (.string V.nm) (.int .i64 V.vr) (.slice A V.args.length c) RB.out)
        have BM := Lib.hid (set5_below (.slice none 0 0) (.int .i64 V.k) (.string V.nm) (.int .i64 V.vr) (.slice A V.args.length c) BW0.out (Nat.le_succ w.heap.size))
        clear HOKE
        as_aux_lemma =>
        unfold RClEnv scv
        go_wp2
        (try simp only [Exit.inBlock, Exit.then])
        refine bodyPost_ret (rclose_res rfl t0 t1 t2 t3 t4) rfl ?_
        rw [EQ.out]
        exact ⟨none, 0, A, c, rfl, .inl rfl, fun _ _ _ e => (by cases e), (HA.out.later BM.out).weak (fun _ _ hp => .inl hp), BM.out⟩
      | true =>
      have hgo : goodT V = true ∧ okE E = true := by have := HOKE.out; rw [HGV.out] at this; exact ok_two this
      have hsh : shp V = true := good_shp hgo.1
      have HQF := Lib.hid (show Q = (apvF R V, (varsOf (apvF R V)).foldl (rAllF (heldE R E)) []) by rw [HQ.out]; unfold rcloseF; rw [if_pos hgo])
      have hE3 : ∀ x ∈ E, bigT 7 x.2 = false ∧ x.1.length ≤ 10 ∧ shp x.2 = true := fun x hx => by
        have h1 := HEE.out x hx
        have h2 : sgoodT x.2 x.1 = true := by have := hgo.2; unfold okE at this; rw [List.all_eq_true] at this; exact this x hx
        exact ⟨h1.1, h1.2, good_shp (good_allS h2)⟩
      have CA := Lib.hid (fun W (hW : Below w.heap.size w W) => rapplyF hbg hgo.1 HST.out.inv (HS.out.later hW) (HIN.out.later hW))
      obtain ⟨rk, hrk⟩ := HST.out.inv.ok
      have hTs := app_shp hrk V hsh
      have hTn := app_few HST.out hbg hsh
      have hTb := big_app HST.out 7 V hbg hsh
      clear hrk
      have hdl := heldE_len HST.out E [] (fun e he => ⟨(hE3 e he).1, (hE3 e he).2.2⟩)
      have hdl : (heldE R E).length ≤ 300000 := by unfold heldE; rw [← HNE.out] at hdl; simp at hdl; omega
      have CH := Lib.hid (fun W (hW : Below w.heap.size w W) => held_any (ce := ce) (HE.out.later hW) hE3 (by rw [← HNE.out]; exact hl6) HST.out (HS.out.later hW))
      rw [← HNE.out] at CH
      obtain ⟨hd, hhd⟩ : ∃ l, l = heldE R E := ⟨_, rfl⟩
      rw [← hhd] at CH hdl HQF
      obtain ⟨T, hT⟩ : ∃ T, T = apvF R V := ⟨_, rfl⟩
      rw [← hT] at CA hTs hTn hTb HQF
      have hvf : (varsOf T).length ≤ 60000 := by have := varsT_len T []; unfold varsOf; simp at this; omega
      have CV := Lib.hid (fun W A' c' (h : TRow W any0 A' T.args) => rVars_big (d := 507) hTb hTs (by omega) (⟨A', c', rfl, h⟩ : TIn W any0 T (tv T A' c')))
      obtain ⟨vs, hvs⟩ : ∃ vs, vs = varsOf T := ⟨_, rfl⟩
      rw [← hvs] at hvf CV HQF
      unfold tv at CV CA
      clear hgo hsh hE3 hhd hT hTs hTn hTb hvs HOKE HQ HGV HE HEE HS HST HIN HA
      go_wp2_with fail
      refine (CA.out _ BW0.out).mono ?_; rintro e w3 ⟨A3, c3, rfl, r3, b3⟩
      obtain ⟨w4, hw4⟩ : ∃ z, z = w3.alloc (.cells #[.slice none 0 0, .int .i64 T.k, .string T.nm, .int .i64 T.vr, .slice A3 T.args.length c3] RScT) := ⟨_, rfl⟩
      have hB4 : Below w3.heap.size w3 w4 := by rw [hw4]; exact below_alloc _ _
      have B4 := Lib.hid (bt b3 hB4)
      have BW4 := Lib.hid (bt BW0.out (bt b3 hB4))
      have HC4 := Lib.hid (show w4.heap[w3.heap.size]? = some (.cells #[.slice none 0 0, .int .i64 T.k, .string T.nm, .int .i64 T.vr, .slice A3 T.args.length c3] RScT (0, 0)) by rw [hw4]; exact heap_alloc_new w3 _)
      have Q34 := Lib.hid (show wr.heap.size ≤ w3.heap.size ∧ w3.heap.size < w4.heap.size from ⟨b3.size, by rw [hw4]; simp⟩)
      have R4 := Lib.hid ((r3.weak (P' := fun b => w.heap.size + 2 ≤ b) (fun b _ (hp : _ ≤ b) => by have := SB.out; omega)).move (w' := w4) (P' := fun b => w.heap.size + 2 ≤ b ∧ b < w3.heap.size) (fun b hb hp => ⟨hB4.block b hb, hp, hb⟩) hB4.size)
      have HW4 := Lib.hid hw4
      clear b3 r3 hw4 hB4 CA z0 z1 z2 z3
      obtain ⟨bc, hbc⟩ : ∃ b, b = w3.heap.size := ⟨_, rfl⟩
      unfold tv
      go_wp2_with fail
      rw [← HW4.out, ← hbc]
      rw [← hbc] at HC4 Q34 R4
      clear HW4 hbc
      refine (CH.out _ BW4.out).mono ?_; rintro e w5 ⟨Ah, ch, rfl, irh, -, b5⟩
      have IRH5 := Lib.hid irh
      have C5 := Lib.hid ((b5.block bc Q34.out.2).trans HC4.out)
      have T5 := Lib.hid (R4.out.move (w' := w5) (P' := fun b => w.heap.size + 2 ≤ b ∧ b < bc) (fun b hb hp => ⟨b5.block b hb, hp⟩) b5.size)
      have BW5 := Lib.hid (bt BW4.out b5)
      have RB5 := Lib.hid (((bt B4.out b5).block (w.heap.size + 1) (by have := SB.out; omega)).trans RB.out)
      have Q5 := Lib.hid (show w.heap.size + 2 ≤ bc ∧ bc < w5.heap.size by have := SB.out; have := Q34.out; have := b5.size; omega)
      have CV5 := Lib.hid (CV.out w5 A3 c3 (T5.out.weak (fun _ _ _ => trivial)))
      obtain ⟨z0, z1, z2, z3, z4⟩ := five5 C5.out
      clear irh b5 CH CV HC4 R4 B4 BW4 RB TB
      obtain ⟨w5', hw5'⟩ : ∃ z, z = w5 := ⟨_, rfl⟩
      go_wp2_with fail
      refine CV5.out.mono ?_; rintro e w6 ⟨Av, cv, rfl, irv, -, b6⟩
      have IRV := Lib.hid irv
      have IRH := Lib.hid (IRH5.out.later b6)
      have C6 := Lib.hid ((b6.block bc Q5.out.2).trans C5.out)
      have T6 := Lib.hid (T5.out.move (w' := w6) (P' := fun b => w.heap.size + 2 ≤ b ∧ b < bc) (fun b hb hp => ⟨b6.block b hb, hp⟩) b6.size)
      have BW6 := Lib.hid (bt BW5.out b6)
      have RB6 := Lib.hid ((b6.block (w.heap.size + 1) (by have := Q5.out; omega)).trans RB5.out)
      have Q6 := Lib.hid (show w.heap.size + 2 ≤ bc ∧ bc < w6.heap.size by have := Q5.out; have := b6.size; omega)
      clear irv b6 CV5 C5 T5 BW5 RB5 Q5 IRH5 z0 z1 z2 z3 z4 hw5'
      as_aux_lemma =>
      obtain ⟨w5, hw5⟩ : ∃ z, z = w6 := ⟨_, rfl⟩
      rw [← hw5] at IRV IRH C6 T6 BW6 RB6 Q6 ⊢
      clear hw5
      obtain ⟨N, hN⟩ : ∃ N, N = vs.length := ⟨_, rfl⟩
      rw [← hN] at hvf ⊢
      have HN := Lib.hid hN
      clear hN
      obtain ⟨NH, hNH⟩ : ∃ N, N = hd.length := ⟨_, rfl⟩
      have HNH := Lib.hid hNH
      rw [← hNH] at hdl ⊢
      clear hNH
      go_wp2
      go_loopw [12] (fun i wr => ∃ (k m : Nat) (Al : Option Addr) (ca : Nat), k ≤ N ∧ m ≤ k ∧ i = .int .i64 k ∧ Hid (wr.heap[bc]? = some (.cells #[.slice Al m ca, .int .i64 T.k, .string T.nm, .int .i64 T.vr, .slice A3 T.args.length c3] RScT (0, 0))) ∧ Hid (wr.ownsRow w5.heap.size TI 1 (.slice Al m ca) m (ivs (allK hd vs k))) ∧ Hid (Frm w5 wr (· = bc))) (fun i _ => N - (intOf i).toNat)
      case atStart => exact ⟨0, 0, none, 0, by omega, by omega, by first | rfl | trivial, C6, Lib.hid (World.ownsRow_nil _ _ _ _), Lib.hid (Frm.refl _ _)⟩
      case round =>
        revert wr; intro wo hrel
        obtain ⟨k, m, Al, ca, hk, hmk, rfl, HC, HO, FM⟩ := hrel
        have hBo := FM.out.size
        by_cases hlt : k < N
        · have hlti : (k : Int) < (N : Int) := by omega
          have hlt' : k < vs.length := by rw [← HN.out]; exact hlt
          have IV := Lib.hid (irow_bc IRV.out FM.out C6.out HC.out)
          have IH := Lib.hid (irow_bc IRH.out FM.out C6.out HC.out)
          obtain ⟨b, o, rfl, hb, hr⟩ := IV.out.resolve_left (by rw [← HN.out]; omega)
          have x0 := hr k hlt'
          have CHAS := Lib.hid (rhas_any (c := ch) (vs[k]'hlt') (by rw [← HNH.out]; omega) IH.out)
          rw [← HNH.out] at CHAS
          have HNO := Lib.hid (fun h => allK_no (hd := hd) hlt' h)
          have HYES := Lib.hid (fun h => allK_yes (hd := hd) hlt' h)
          have HVO := Lib.hid hb
          have HBO := Lib.hid (show bc < wo.heap.size by have := Q6.out; omega)
          obtain ⟨x, hx⟩ : ∃ x, x = vs[k]'hlt' := ⟨_, rfl⟩
          rw [← hx] at x0 CHAS HNO HYES
          obtain ⟨L, hL⟩ : ∃ L, L = allK hd vs k := ⟨_, rfl⟩
          rw [← hL] at HO HNO HYES
          have HML := Lib.hid (show m = L.length by have := HO.out.1; rw [ivs_len] at this; omega)
          clear hr hb hx hL hlt' IV IH
          by_cases hin : x ∈ hd
          · have HT := Lib.hid (HNO.out hin)
            rw [decide_eq_true hin] at CHAS
            clear hin HNO HYES
            go_wp2_with fail
            refine CHAS.out.mono ?_; rintro e w7 ⟨rfl, hw7⟩
            obtain rfl : wo = w7 := hw7.symm
            go_wp2
            go_roundw
            case rel => exact ⟨k + 1, m, Al, ca, by omega, by omega, by go_num, HC, Lib.hid (by rw [HT.out]; exact HO.out), FM⟩
            case measure => simp [intOf]; omega
          · have HAK := Lib.hid (HYES.out hin)
            rw [decide_eq_false hin] at CHAS
            have X0 := Lib.hid x0
            have Z0 := Lib.hid (five5 HC.out).1
            clear hin HNO HYES
            go_wp2_with fail
            refine CHAS.out.mono ?_; rintro e w7 ⟨rfl, hw7⟩
            obtain rfl : wo = w7 := hw7.symm
            clear CHAS x0
            go_upto_block 4 with (fail)
            go_cut [13] (fun jv wx => ∃ j : Nat, jv = .int .i64 j ∧ j ≤ m ∧ Hid (insS L x = L.take j ++ x :: L.drop j) ∧ Hid (Below wo.heap.size wo wx))
            case first =>
              go_wp2_with fail
              go_loopw [13] (fun jv wq => ∃ j : Nat, jv = .int .i64 j ∧ j ≤ m ∧ Hid (∀ i (h : i < L.length), i < j → L[i] < x) ∧ Hid (Below wo.heap.size wo wq)) (fun jv _ => m - (intOf jv).toNat)
              case atStart => exact ⟨0, by first | rfl | trivial, by omega, Lib.hid (fun i _ h => by omega), Lib.hid (Below.refl _ _)⟩
              case round =>
                obtain ⟨j, rfl, hj, HLT, HWQ⟩ := hrel
                have HBQ := Lib.hid (show bc < wr.heap.size by have := HBO.out; have := HWQ.out.size; omega)
                have HVQ := Lib.hid (show b < wr.heap.size by have := HVO.out; have := HWQ.out.size; omega)
                have x0 := (HWQ.out.cell (p := ⟨b, o + k, none⟩) HVO.out).trans X0.out
                have z0 := (HWQ.out.cell (p := ⟨bc, 0, none⟩) HBO.out).trans Z0.out
                by_cases hjm : j < m
                · have hji : (j : Int) < (m : Int) := by omega
                  have hjl : j < L.length := by rw [← HML.out]; exact hjm
                  obtain ⟨g, hg⟩ : ∃ g, Al = some ⟨g, 0, none⟩ := by
                    rcases HO.out.2 with ⟨-, e⟩ | ⟨g, cap, cur, e, -⟩
                    · omega
                    · injection e with e; exact ⟨g, e⟩
                  subst hg
                  have OQ := own_bl HO.out HWQ.out
                  have HLG := Lib.hid (show g < wr.heap.size from (OQ.lt g rfl).2)
                  have l0 : wr.cell? ⟨g, j, none⟩ = some (.int .i64 (L[j]'hjl)) := by
                    have := (own_parts OQ).2 _ rfl j (.int .i64 (L[j]'hjl)) (by simp [ivs, hjl])
                    rw [Go.WideShapes.add_plain, Nat.zero_add] at this; exact this
                  have HNX := Lib.hid (show L[j]'hjl < x → ∀ i (h : i < L.length), i < j + 1 → L[i] < x from fun hl i h hi => by
                    by_cases e : i = j
                    · subst e; exact hl
                    · exact HLT.out i h (by omega))
                  have HEX := Lib.hid (show ¬ L[j]'hjl < x → insS L x = L.take j ++ x :: L.drop j from fun hl => insS_at (by omega) (fun i h hi => HLT.out i h hi) (fun _ => hl))
                  obtain ⟨y, hy⟩ : ∃ y, y = L[j]'hjl := ⟨_, rfl⟩
                  rw [← hy] at l0 HNX HEX
                  clear OQ hy hjl
                  by_cases hl : y < x
                  · have HN1 := Lib.hid (HNX.out hl)
                    clear HEX HNX
                    go_wp2_with fail
                    refine wp_region_D [] (fun w' => Below wr.heap.size wr w') (by kernel_rfl) (bdr wr) (fun hHeld => ?_)
                    refine WDs 0 ⟨some 56, .move (.tmp 13), 3, _, #[], none⟩ ?vy1_0 ?hyy1_0 hHeld ?_
                    case hyy1_0 => (intro wz hSw; (try dsimp only at hSw); go_simp; try with_reducible rfl)
                    (try simp only [putz])
                    refine WDs 1 ⟨some 57, .fieldAddr 48 (.tmp 9) 0, 0, _, #[], none⟩ ?vy1_1 ?hyy1_1 hHeld ?_
                    case hyy1_1 => (intro wz hSw; (try dsimp only at hSw); go_simp; try with_reducible rfl)
                    (try simp only [putz])
                    refine WDs 2 ⟨some 58, .load 26 (.tmp 57), 26, _, #[⟨1, .data⟩], none⟩ ?vy1_2 ?hyy1_2 hHeld ?_
                    case hyy1_2 => (intro wz hSw; (try dsimp only at hSw); have q0 := (hSw.cell (p := ⟨bc, 0, none⟩) HBQ.out).trans z0; go_simp; try with_reducible rfl)
                    (try simp only [putz])
                    refine WDs 3 ⟨some 59, .call { callee := .builtin .len, args := #[.tmp 58], argTypes := #[26] }, 3, _, #[⟨2, .data⟩], none⟩ ?vy1_3 ?hyy1_3 hHeld ?_
                    case hyy1_3 => (intro wz hSw; (try dsimp only at hSw); go_simp; try with_reducible rfl)
                    (try simp only [putz])
                    refine WDs 4 ⟨some 60, .binOp .lss 3 (.tmp 56) (.tmp 59) 3, 4, _, #[⟨0, .data⟩, ⟨3, .data⟩], none⟩ ?vy1_4 ?hyy1_4 hHeld ?_
                    case hyy1_4 => (intro wz hSw; (try dsimp only at hSw); go_simp; try with_reducible rfl)
                    (try simp only [putz])
                    refine WDs 5 ⟨some 61, .move (.tmp 60), 4, _, #[⟨4, .data⟩], none⟩ ?vy1_5 ?hyy1_5 hHeld ?_
                    case hyy1_5 => (intro wz hSw; (try dsimp only at hSw); go_simp; try with_reducible rfl)
                    (try simp only [putz])
                    refine WDs 6 ⟨some 62, .fieldAddr 48 (.tmp 9) 0, 0, _, #[⟨5, .guard⟩], some (5, true)⟩ ?vy1_6 ?hyy1_6 hHeld ?_
                    case hyy1_6 => (intro wz hSw; (try dsimp only at hSw); go_simp; try with_reducible rfl)
                    (try simp only [putz])
                    refine WDs 7 ⟨some 63, .load 26 (.tmp 62), 26, _, #[⟨6, .data⟩, ⟨5, .guard⟩], some (5, true)⟩ ?vy1_7 ?hyy1_7 hHeld ?_
                    case hyy1_7 => (intro wz hSw; (try dsimp only at hSw); have q0 := (hSw.cell (p := ⟨bc, 0, none⟩) HBQ.out).trans z0; go_simp; try with_reducible rfl)
                    (try simp only [putz])
                    refine WDs 8 ⟨some 64, .move (.tmp 13), 3, _, #[⟨5, .guard⟩], some (5, true)⟩ ?vy1_8 ?hyy1_8 hHeld ?_
                    case hyy1_8 => (intro wz hSw; (try dsimp only at hSw); go_simp; try with_reducible rfl)
                    (try simp only [putz])
                    refine WDs 9 ⟨some 65, .indexAddr 26 (.tmp 63) (.tmp 64), 0, _, #[⟨7, .data⟩, ⟨8, .data⟩, ⟨5, .guard⟩], some (5, true)⟩ ?vy1_9 ?hyy1_9 hHeld ?_
                    case hyy1_9 => (intro wz hSw; (try dsimp only at hSw); go_simp; try with_reducible rfl)
                    (try simp only [putz])
                    refine WDs 10 ⟨some 66, .load 3 (.tmp 65), 3, _, #[⟨9, .data⟩, ⟨5, .guard⟩], some (5, true)⟩ ?vy1_10 ?hyy1_10 hHeld ?_
                    case hyy1_10 => (intro wz hSw; (try dsimp only at hSw); have q0 := (hSw.cell (p := ⟨g, j, none⟩) HLG.out).trans l0; go_simp; try with_reducible rfl)
                    (try simp only [putz])
                    refine WDs 11 ⟨some 67, .move (.tmp 11), 26, _, #[⟨5, .guard⟩], some (5, true)⟩ ?vy1_11 ?hyy1_11 hHeld ?_
                    case hyy1_11 => (intro wz hSw; (try dsimp only at hSw); go_simp; try with_reducible rfl)
                    (try simp only [putz])
                    refine WDs 12 ⟨some 68, .move (.tmp 12), 3, _, #[⟨5, .guard⟩], some (5, true)⟩ ?vy1_12 ?hyy1_12 hHeld ?_
                    case hyy1_12 => (intro wz hSw; (try dsimp only at hSw); go_simp; try with_reducible rfl)
                    (try simp only [putz])
                    refine WDs 13 ⟨some 69, .indexAddr 26 (.tmp 67) (.tmp 68), 0, _, #[⟨11, .data⟩, ⟨12, .data⟩, ⟨5, .guard⟩], some (5, true)⟩ ?vy1_13 ?hyy1_13 hHeld ?_
                    case hyy1_13 => (intro wz hSw; (try dsimp only at hSw); go_simp; try with_reducible rfl)
                    (try simp only [putz])
                    refine WDs 14 ⟨some 70, .load 3 (.tmp 69), 3, _, #[⟨13, .data⟩, ⟨5, .guard⟩], some (5, true)⟩ ?vy1_14 ?hyy1_14 hHeld ?_
                    case hyy1_14 => (intro wz hSw; (try dsimp only at hSw); have q0 := (hSw.cell (p := ⟨b, o + k, none⟩) HVQ.out).trans x0; go_simp; try with_reducible rfl)
                    (try simp only [putz])
                    refine WDs 15 ⟨some 71, .binOp .lss 3 (.tmp 66) (.tmp 70) 3, 4, _, #[⟨10, .data⟩, ⟨14, .data⟩, ⟨5, .guard⟩], some (5, true)⟩ ?vy1_15 ?hyy1_15 hHeld ?_
                    case hyy1_15 => (intro wz hSw; (try dsimp only at hSw); go_simp; try with_reducible rfl)
                    (try simp only [putz])
                    refine WDs 16 ⟨some 72, .pick (.tmp 61) (.tmp 71) (.const (.bool false)), 4, _, #[⟨5, .data⟩, ⟨15, .data⟩], none⟩ ?vy1_16 ?hyy1_16 hHeld ?_
                    case hyy1_16 => (intro wz hSw; (try dsimp only at hSw); go_simp; try with_reducible rfl)
                    (try simp only [putz])
                    have H9 := Lib.hid hHeld
                    clear hHeld
                    refine WD_done (by kernel_rfl) ?_ _
                    clear z0 x0 l0
                    go_wp2
                    go_roundw
                    case rel => exact ⟨j + 1, by go_num, by omega, HN1, Lib.hid (bt HWQ.out H9.out)⟩
                    case measure => simp [intOf]; omega
                  · have HE1 := Lib.hid (HEX.out hl)
                    clear HEX HNX
                    go_wp2_with fail
                    refine wp_region_D [] (fun w' => Below wr.heap.size wr w') (by kernel_rfl) (bdr wr) (fun hHeld => ?_)
                    refine WDs 0 ⟨some 56, .move (.tmp 13), 3, _, #[], none⟩ ?vy2_0 ?hyy2_0 hHeld ?_
                    case hyy2_0 => (intro wz hSw; (try dsimp only at hSw); go_simp; try with_reducible rfl)
                    (try simp only [putz])
                    refine WDs 1 ⟨some 57, .fieldAddr 48 (.tmp 9) 0, 0, _, #[], none⟩ ?vy2_1 ?hyy2_1 hHeld ?_
                    case hyy2_1 => (intro wz hSw; (try dsimp only at hSw); go_simp; try with_reducible rfl)
                    (try simp only [putz])
                    refine WDs 2 ⟨some 58, .load 26 (.tmp 57), 26, _, #[⟨1, .data⟩], none⟩ ?vy2_2 ?hyy2_2 hHeld ?_
                    case hyy2_2 => (intro wz hSw; (try dsimp only at hSw); have q0 := (hSw.cell (p := ⟨bc, 0, none⟩) HBQ.out).trans z0; go_simp; try with_reducible rfl)
                    (try simp only [putz])
                    refine WDs 3 ⟨some 59, .call { callee := .builtin .len, args := #[.tmp 58], argTypes := #[26] }, 3, _, #[⟨2, .data⟩], none⟩ ?vy2_3 ?hyy2_3 hHeld ?_
                    case hyy2_3 => (intro wz hSw; (try dsimp only at hSw); go_simp; try with_reducible rfl)
                    (try simp only [putz])
                    refine WDs 4 ⟨some 60, .binOp .lss 3 (.tmp 56) (.tmp 59) 3, 4, _, #[⟨0, .data⟩, ⟨3, .data⟩], none⟩ ?vy2_4 ?hyy2_4 hHeld ?_
                    case hyy2_4 => (intro wz hSw; (try dsimp only at hSw); go_simp; try with_reducible rfl)
                    (try simp only [putz])
                    refine WDs 5 ⟨some 61, .move (.tmp 60), 4, _, #[⟨4, .data⟩], none⟩ ?vy2_5 ?hyy2_5 hHeld ?_
                    case hyy2_5 => (intro wz hSw; (try dsimp only at hSw); go_simp; try with_reducible rfl)
                    (try simp only [putz])
                    refine WDs 6 ⟨some 62, .fieldAddr 48 (.tmp 9) 0, 0, _, #[⟨5, .guard⟩], some (5, true)⟩ ?vy2_6 ?hyy2_6 hHeld ?_
                    case hyy2_6 => (intro wz hSw; (try dsimp only at hSw); go_simp; try with_reducible rfl)
                    (try simp only [putz])
                    refine WDs 7 ⟨some 63, .load 26 (.tmp 62), 26, _, #[⟨6, .data⟩, ⟨5, .guard⟩], some (5, true)⟩ ?vy2_7 ?hyy2_7 hHeld ?_
                    case hyy2_7 => (intro wz hSw; (try dsimp only at hSw); have q0 := (hSw.cell (p := ⟨bc, 0, none⟩) HBQ.out).trans z0; go_simp; try with_reducible rfl)
                    (try simp only [putz])
                    refine WDs 8 ⟨some 64, .move (.tmp 13), 3, _, #[⟨5, .guard⟩], some (5, true)⟩ ?vy2_8 ?hyy2_8 hHeld ?_
                    case hyy2_8 => (intro wz hSw; (try dsimp only at hSw); go_simp; try with_reducible rfl)
                    (try simp only [putz])
                    refine WDs 9 ⟨some 65, .indexAddr 26 (.tmp 63) (.tmp 64), 0, _, #[⟨7, .data⟩, ⟨8, .data⟩, ⟨5, .guard⟩], some (5, true)⟩ ?vy2_9 ?hyy2_9 hHeld ?_
                    case hyy2_9 => (intro wz hSw; (try dsimp only at hSw); go_simp; try with_reducible rfl)
                    (try simp only [putz])
                    refine WDs 10 ⟨some 66, .load 3 (.tmp 65), 3, _, #[⟨9, .data⟩, ⟨5, .guard⟩], some (5, true)⟩ ?vy2_10 ?hyy2_10 hHeld ?_
                    case hyy2_10 => (intro wz hSw; (try dsimp only at hSw); have q0 := (hSw.cell (p := ⟨g, j, none⟩) HLG.out).trans l0; go_simp; try with_reducible rfl)
                    (try simp only [putz])
                    refine WDs 11 ⟨some 67, .move (.tmp 11), 26, _, #[⟨5, .guard⟩], some (5, true)⟩ ?vy2_11 ?hyy2_11 hHeld ?_
                    case hyy2_11 => (intro wz hSw; (try dsimp only at hSw); go_simp; try with_reducible rfl)
                    (try simp only [putz])
                    refine WDs 12 ⟨some 68, .move (.tmp 12), 3, _, #[⟨5, .guard⟩], some (5, true)⟩ ?vy2_12 ?hyy2_12 hHeld ?_
                    case hyy2_12 => (intro wz hSw; (try dsimp only at hSw); go_simp; try with_reducible rfl)
                    (try simp only [putz])
                    refine WDs 13 ⟨some 69, .indexAddr 26 (.tmp 67) (.tmp 68), 0, _, #[⟨11, .data⟩, ⟨12, .data⟩, ⟨5, .guard⟩], some (5, true)⟩ ?vy2_13 ?hyy2_13 hHeld ?_
                    case hyy2_13 => (intro wz hSw; (try dsimp only at hSw); go_simp; try with_reducible rfl)
                    (try simp only [putz])
                    refine WDs 14 ⟨some 70, .load 3 (.tmp 69), 3, _, #[⟨13, .data⟩, ⟨5, .guard⟩], some (5, true)⟩ ?vy2_14 ?hyy2_14 hHeld ?_
                    case hyy2_14 => (intro wz hSw; (try dsimp only at hSw); have q0 := (hSw.cell (p := ⟨b, o + k, none⟩) HVQ.out).trans x0; go_simp; try with_reducible rfl)
                    (try simp only [putz])
                    refine WDs 15 ⟨some 71, .binOp .lss 3 (.tmp 66) (.tmp 70) 3, 4, _, #[⟨10, .data⟩, ⟨14, .data⟩, ⟨5, .guard⟩], some (5, true)⟩ ?vy2_15 ?hyy2_15 hHeld ?_
                    case hyy2_15 => (intro wz hSw; (try dsimp only at hSw); go_simp; try with_reducible rfl)
                    (try simp only [putz])
                    refine WDs 16 ⟨some 72, .pick (.tmp 61) (.tmp 71) (.const (.bool false)), 4, _, #[⟨5, .data⟩, ⟨15, .data⟩], none⟩ ?vy2_16 ?hyy2_16 hHeld ?_
                    case hyy2_16 => (intro wz hSw; (try dsimp only at hSw); go_simp; try with_reducible rfl)
                    (try simp only [putz])
                    have H9 := Lib.hid hHeld
                    clear hHeld
                    refine WD_done (by kernel_rfl) ?_ _
                    clear z0 x0 l0
                    go_wp2
                    go_meet
                    case rel => exact ⟨j, rfl, hj, HE1, Lib.hid (bt HWQ.out H9.out)⟩
                · obtain rfl : j = m := by omega
                  have hge : ¬ (j : Int) < (j : Int) := by omega
                  have HE1 := Lib.hid (show insS L x = L.take j ++ x :: L.drop j from insS_at (by rw [HML.out]; omega) (fun i h hi => HLT.out i h hi) (fun h => by have := HML.out; omega))
                  go_wp2_with fail
                  refine wp_region_D [] (fun w' => Below wr.heap.size wr w') (by kernel_rfl) (bdr wr) (fun hHeld => ?_)
                  refine WDs 0 ⟨some 56, .move (.tmp 13), 3, _, #[], none⟩ ?vn1_0 ?hyn1_0 hHeld ?_
                  case hyn1_0 => (intro wz hSw; (try dsimp only at hSw); go_simp; try with_reducible rfl)
                  (try simp only [putz])
                  refine WDs 1 ⟨some 57, .fieldAddr 48 (.tmp 9) 0, 0, _, #[], none⟩ ?vn1_1 ?hyn1_1 hHeld ?_
                  case hyn1_1 => (intro wz hSw; (try dsimp only at hSw); go_simp; try with_reducible rfl)
                  (try simp only [putz])
                  refine WDs 2 ⟨some 58, .load 26 (.tmp 57), 26, _, #[⟨1, .data⟩], none⟩ ?vn1_2 ?hyn1_2 hHeld ?_
                  case hyn1_2 => (intro wz hSw; (try dsimp only at hSw); have q0 := (hSw.cell (p := ⟨bc, 0, none⟩) HBQ.out).trans z0; go_simp; try with_reducible rfl)
                  (try simp only [putz])
                  refine WDs 3 ⟨some 59, .call { callee := .builtin .len, args := #[.tmp 58], argTypes := #[26] }, 3, _, #[⟨2, .data⟩], none⟩ ?vn1_3 ?hyn1_3 hHeld ?_
                  case hyn1_3 => (intro wz hSw; (try dsimp only at hSw); go_simp; try with_reducible rfl)
                  (try simp only [putz])
                  refine WDs 4 ⟨some 60, .binOp .lss 3 (.tmp 56) (.tmp 59) 3, 4, _, #[⟨0, .data⟩, ⟨3, .data⟩], none⟩ ?vn1_4 ?hyn1_4 hHeld ?_
                  case hyn1_4 => (intro wz hSw; (try dsimp only at hSw); go_simp; try with_reducible rfl)
                  (try simp only [putz])
                  refine WDs 5 ⟨some 61, .move (.tmp 60), 4, _, #[⟨4, .data⟩], none⟩ ?vn1_5 ?hyn1_5 hHeld ?_
                  case hyn1_5 => (intro wz hSw; (try dsimp only at hSw); go_simp; try with_reducible rfl)
                  (try simp only [putz])
                  refine WDk 6 ⟨some 62, .fieldAddr 48 (.tmp 9) 0, 0, _, #[⟨5, .guard⟩], some (5, true)⟩ hHeld ?_
                  (try simp only [putz])
                  refine WDk 7 ⟨some 63, .load 26 (.tmp 62), 26, _, #[⟨6, .data⟩, ⟨5, .guard⟩], some (5, true)⟩ hHeld ?_
                  (try simp only [putz])
                  refine WDk 8 ⟨some 64, .move (.tmp 13), 3, _, #[⟨5, .guard⟩], some (5, true)⟩ hHeld ?_
                  (try simp only [putz])
                  refine WDk 9 ⟨some 65, .indexAddr 26 (.tmp 63) (.tmp 64), 0, _, #[⟨7, .data⟩, ⟨8, .data⟩, ⟨5, .guard⟩], some (5, true)⟩ hHeld ?_
                  (try simp only [putz])
                  refine WDk 10 ⟨some 66, .load 3 (.tmp 65), 3, _, #[⟨9, .data⟩, ⟨5, .guard⟩], some (5, true)⟩ hHeld ?_
                  (try simp only [putz])
                  refine WDk 11 ⟨some 67, .move (.tmp 11), 26, _, #[⟨5, .guard⟩], some (5, true)⟩ hHeld ?_
                  (try simp only [putz])
                  refine WDk 12 ⟨some 68, .move (.tmp 12), 3, _, #[⟨5, .guard⟩], some (5, true)⟩ hHeld ?_
                  (try simp only [putz])
                  refine WDk 13 ⟨some 69, .indexAddr 26 (.tmp 67) (.tmp 68), 0, _, #[⟨11, .data⟩, ⟨12, .data⟩, ⟨5, .guard⟩], some (5, true)⟩ hHeld ?_
                  (try simp only [putz])
                  refine WDk 14 ⟨some 70, .load 3 (.tmp 69), 3, _, #[⟨13, .data⟩, ⟨5, .guard⟩], some (5, true)⟩ hHeld ?_
                  (try simp only [putz])
                  refine WDk 15 ⟨some 71, .binOp .lss 3 (.tmp 66) (.tmp 70) 3, 4, _, #[⟨10, .data⟩, ⟨14, .data⟩, ⟨5, .guard⟩], some (5, true)⟩ hHeld ?_
                  (try simp only [putz])
                  refine WDs 16 ⟨some 72, .pick (.tmp 61) (.tmp 71) (.const (.bool false)), 4, _, #[⟨5, .data⟩, ⟨15, .data⟩], none⟩ ?vn1_16 ?hyn1_16 hHeld ?_
                  case hyn1_16 => (intro wz hSw; (try dsimp only at hSw); go_simp; try with_reducible rfl)
                  (try simp only [putz])
                  have H9 := Lib.hid hHeld
                  clear hHeld
                  refine WD_done (by kernel_rfl) ?_ _
                  clear z0 x0
                  go_wp2
                  go_meet
                  case rel => exact ⟨j, rfl, hj, HE1, Lib.hid (bt HWQ.out H9.out)⟩
            case rest =>
              obtain ⟨j, rfl, hj, HIN, HWQ⟩ := hcut
              have HBQ := Lib.hid (show bc < wc.heap.size by have := HBO.out; have := HWQ.out.size; omega)
              have HVQ := Lib.hid (show b < wc.heap.size by have := HVO.out; have := HWQ.out.size; omega)
              have x0 := (HWQ.out.cell (p := ⟨b, o + k, none⟩) HVO.out).trans X0.out
              have HCq := Lib.hid ((HWQ.out.block bc HBO.out).trans HC.out)
              have z0 := (HWQ.out.cell (p := ⟨bc, 0, none⟩) HBO.out).trans Z0.out
              have OQ := own_bl HO.out HWQ.out
              have FMQ := Lib.hid (FM.out.trans (Frm.of_below HWQ.out (Nat.le_refl _) (· = bc)))
              have HQ5 := Lib.hid (show w5.heap.size ≤ wc.heap.size from FMQ.out.size)
              have hjc : j ≤ ca := by have := own_cap OQ; omega
              have hjl : (j : Int) ≤ (ca : Int) := by omega
              have hj2 : (j : Int) ≤ (m : Int) := by omega
              have PN := Lib.hid (fun e => (own_pre (k := j) OQ).1 e hj)
              have PW := Lib.hid (fun W (hW : Below wc.heap.size wc W) => (own_pre (k := j) (own_bl OQ hW)).2)
              have RN := Lib.hid (own_rest OQ hj).1
              have RW := Lib.hid (fun W (hW : Below wc.heap.size wc W) => (own_rest (own_bl OQ hW) hj).2)
              clear OQ
              go_wp2_with fail
              refine wp_region_D [18] (fun w' => Below wc.heap.size wc w') (by kernel_rfl) (bdr wc) (fun hHeld => ?_)
              obtain ⟨w_0, hw_0⟩ : ∃ z, z = wc.drew := ⟨_, rfl⟩
              have BD : Hid (Below wc.heap.size wc w_0) := Lib.hid (by rw [hw_0]; exact bdr wc)
              rw [← hw_0] at hHeld ⊢
              clear hw_0
              refine WDs 1 ⟨some 76, .fieldAddr 48 (.tmp 9) 0, 0, _, #[], none⟩ ?vz1 ?hyz1 hHeld ?_
              case hyz1 => (intro wz hSw; (try dsimp only at hSw); go_simp; try with_reducible rfl)
              (try simp only [putz])
              refine WDs 2 ⟨some 77, .load 26 (.tmp 76), 26, _, #[⟨1, .data⟩], none⟩ ?vz2 ?hyz2 hHeld ?_
              case hyz2 => (intro wz hSw; (try dsimp only at hSw); have q0 := (hSw.cell (p := ⟨bc, 0, none⟩) HBQ.out).trans z0; go_simp; try with_reducible rfl)
              (try simp only [putz])
              refine WDs 3 ⟨some 78, .move (.tmp 13), 3, _, #[], none⟩ ?vz3 ?hyz3 hHeld ?_
              case hyz3 => (intro wz hSw; (try dsimp only at hSw); go_simp; try with_reducible rfl)
              (try simp only [putz])
              refine WDs 4 ⟨some 79, .slice 26 (.tmp 77) none (some (.tmp 78)) none, 26, _, #[⟨2, .data⟩, ⟨3, .data⟩], none⟩ ?vz4 ?hyz4 hHeld ?_
              case hyz4 => (intro wz hSw; (try dsimp only at hSw); go_simp; try with_reducible rfl)
              (try simp only [putz])
              refine WDs 6 ⟨some 81, .move (.tmp 11), 26, _, #[], none⟩ ?vz6 ?hyz6 hHeld ?_
              case hyz6 => (intro wz hSw; (try dsimp only at hSw); go_simp; try with_reducible rfl)
              (try simp only [putz])
              refine WDs 7 ⟨some 82, .move (.tmp 12), 3, _, #[], none⟩ ?vz7 ?hyz7 hHeld ?_
              case hyz7 => (intro wz hSw; (try dsimp only at hSw); go_simp; try with_reducible rfl)
              (try simp only [putz])
              refine WDs 8 ⟨some 83, .indexAddr 26 (.tmp 81) (.tmp 82), 0, _, #[⟨6, .data⟩, ⟨7, .data⟩], none⟩ ?vz8 ?hyz8 hHeld ?_
              case hyz8 => (intro wz hSw; (try dsimp only at hSw); go_simp; try with_reducible rfl)
              (try simp only [putz])
              refine WDs 9 ⟨some 84, .load 3 (.tmp 83), 3, _, #[⟨8, .data⟩], none⟩ ?vz9 ?hyz9 hHeld ?_
              case hyz9 => (intro wz hSw; (try dsimp only at hSw); have q0 := (hSw.cell (p := ⟨b, o + k, none⟩) HVQ.out).trans x0; go_simp; try with_reducible rfl)
              (try simp only [putz])
              refine WDs 12 ⟨some 87, .fieldAddr 48 (.tmp 9) 0, 0, _, #[], none⟩ ?vz12 ?hyz12 hHeld ?_
              case hyz12 => (intro wz hSw; (try dsimp only at hSw); go_simp; try with_reducible rfl)
              (try simp only [putz])
              refine WDs 13 ⟨some 88, .load 26 (.tmp 87), 26, _, #[⟨12, .data⟩], none⟩ ?vz13 ?hyz13 hHeld ?_
              case hyz13 => (intro wz hSw; (try dsimp only at hSw); have q0 := (hSw.cell (p := ⟨bc, 0, none⟩) HBQ.out).trans z0; go_simp; try with_reducible rfl)
              (try simp only [putz])
              refine WDs 14 ⟨some 89, .move (.tmp 13), 3, _, #[], none⟩ ?vz14 ?hyz14 hHeld ?_
              case hyz14 => (intro wz hSw; (try dsimp only at hSw); go_simp; try with_reducible rfl)
              (try simp only [putz])
              refine WDs 15 ⟨some 90, .slice 26 (.tmp 88) (some (.tmp 89)) none none, 26, _, #[⟨13, .data⟩, ⟨14, .data⟩], none⟩ ?vz15 ?hyz15 hHeld ?_
              case hyz15 => (intro wz hSw; (try dsimp only at hSw); go_simp; try with_reducible rfl)
              (try simp only [putz])
              refine WD_ready (rs := [0, 10]) (by kernel_rfl) (by simp) ?_
              refine AllD.cons (o := _) rfl (fun K hK => ?_) (AllD.cons (o := _) rfl (fun K hK => ?_) AllD.nil)
              · go_simp
                refine hK.out _ _ (bt BD.out (below_alloc w_0 _)) (fun hHeld_1 => ?_)
                clear hK K
                (try simp only [putz])
                obtain ⟨w_1, hw_1⟩ : ∃ z, z = w_0.alloc (.cells #[] 3) := ⟨_, rfl⟩
                have B_1 : Hid (Below wc.heap.size wc w_1) := Lib.hid (by rw [hw_1]; exact hHeld_1)
                have C_1 : Hid (w_1.heap[w_0.heap.size]? = some (.cells #[] 3 (0, 0))) := Lib.hid (by rw [hw_1]; exact heap_alloc_new w_0 _)
                have L_1 : Hid (Below w_0.heap.size w_0 w_1) := Lib.hid (by rw [hw_1]; exact below_alloc w_0 _)
                have Z_1 : Hid (wc.heap.size ≤ w_0.heap.size ∧ w_0.heap.size < w_1.heap.size) := Lib.hid ⟨BD.out.size, by rw [hw_1]; show _ < (Array.push _ _).size; simp⟩
                clear hHeld_1
                try rw [← hw_1]
                clear hw_1
                refine WD_ready (rs := [5, 10]) (by kernel_rfl) (by simp) ?_
                refine AllD.cons (o := _) rfl (fun K hK => ?_) (AllD.cons (o := _) rfl (fun K hK => ?_) AllD.nil)
                · refine step_append_sl rfl (.tmp 75) (.tmp 79) 26 rfl wc.heap.size 3 i0 (.int .i64 0) 1 8 Tryz.underlying26 hi0 hz0 hz1 hz2 rfl (by decide) (.slice (some ⟨w_0.heap.size, 0, none⟩) 0 0) 0 [] rfl (own_litg (k := w_0.heap.size) C_1.out Z_1.out.1) Al j ca (ivs (L.take j)) rfl (by rw [ivs_len, Nat.mul_one, List.length_take]; have := HML.out; omega) PN.out ((fun ad e j u hj => PW.out _ B_1.out ad e j u hj)) (fun u hu => ones_ivs u hu) (by unfold maxLen; omega) (by omega) B_1.out.size ?_
                  intro v_2 w_2 own_2 gr_2 at_2
                  simp only [Nat.zero_add, List.nil_append] at own_2
                  have B_2 : Hid (Below wc.heap.size wc w_2) := Lib.hid (B_1.out.grown gr_2 B_1.out.size (fun q hq => by simp [Value.ownBlock] at hq; have := Z_1.out.1; omega))
                  have op_2 := Lib.hid own_2
                  clear own_2 gr_2 at_2
                  refine hK.out _ _ B_2.out (fun _ => ?_)
                  clear hK K
                  (try simp only [putz])
                  refine WD_ready (rs := [10]) (by kernel_rfl) (by simp) ?_
                  refine AllD.cons (o := _) rfl (fun K hK => ?_) AllD.nil
                  go_simp
                  refine hK.out _ _ (bt B_2.out (below_alloc w_2 _)) (fun hHeld_3 => ?_)
                  clear hK K
                  (try simp only [putz])
                  obtain ⟨w_3, hw_3⟩ : ∃ z, z = w_2.alloc (.cells #[.int .i64 x] 3) := ⟨_, rfl⟩
                  have B_3 : Hid (Below wc.heap.size wc w_3) := Lib.hid (by rw [hw_3]; exact hHeld_3)
                  have C_3 : Hid (w_3.heap[w_2.heap.size]? = some (.cells #[.int .i64 x] 3 (0, 0))) := Lib.hid (by rw [hw_3]; exact heap_alloc_new w_2 _)
                  have L_3 : Hid (Below w_2.heap.size w_2 w_3) := Lib.hid (by rw [hw_3]; exact below_alloc w_2 _)
                  have Z_3 : Hid (wc.heap.size ≤ w_2.heap.size ∧ w_2.heap.size < w_3.heap.size) := Lib.hid ⟨B_2.out.size, by rw [hw_3]; show _ < (Array.push _ _).size; simp⟩
                  clear hHeld_3
                  try rw [← hw_3]
                  clear hw_3
                  have op_3 := Lib.hid (own_bl op_2.out L_3.out)
                  refine WD_ready (rs := [11]) (by kernel_rfl) (by simp) ?_
                  refine AllD.cons (o := _) rfl (fun K hK => ?_) AllD.nil
                  refine step_append_lies _ (by rfl) (.tmp 80) (.tmp 85) 26 rfl wc.heap.size 3 i0 (.int .i64 0) 1 8 Tryz.underlying26 hi0 hz0 hz1 hz2 rfl (by decide) v_2 j (ivs (L.take j)) rfl op_3.out ⟨w_2.heap.size, 0, none⟩ 1 1 [.int .i64 x] rfl rfl (World.news_of_block (cs := #[.int .i64 x]) (t := 3) (fr := (0, 0)) C_3.out) (by simp [Value.oneCell']) (by omega) (by unfold maxLen; omega) (by omega) B_3.out.size _ rfl ?_
                  intro g3 cap3 w_4 own_4 gr_4 at_4 hlt_4
                  have B_4 : Hid (Below wc.heap.size wc w_4) := Lib.hid (B_3.out.grown gr_4 B_3.out.size (fun q hq => (op_3.out.lt q hq).1))
                  have oq_4 := Lib.hid own_4
                  clear own_4 gr_4 at_4 hlt_4
                  refine hK.out _ _ B_4.out (fun _ => ?_)
                  clear hK K
                  (try simp only [putz])
                  refine WD_ready (rs := [16]) (by kernel_rfl) (by simp) ?_
                  refine AllD.cons (o := _) rfl (fun K hK => ?_) AllD.nil
                  refine step_append_sl rfl (.tmp 86) (.tmp 90) 26 rfl wc.heap.size 3 i0 (.int .i64 0) 1 8 Tryz.underlying26 hi0 hz0 hz1 hz2 rfl (by decide) (.slice (some ⟨g3, 0, none⟩) (j + 1) cap3) (j + 1) (ivs (L.take j) ++ [.int .i64 x]) rfl oq_4.out _ (m - j) _ (ivs (L.drop j)) rfl (by rw [ivs_len, List.length_drop, Nat.mul_one, HML.out]) RN.out (fun ad e j u hj => RW.out _ B_4.out ad e j u hj) (fun u hu => ones_ivs u hu) (by unfold maxLen; omega) (by omega) B_4.out.size ?_
                  intro v9 w9 own9 gr9 at9
                  have B9 : Hid (Below wc.heap.size wc w9) := Lib.hid (B_4.out.grown gr9 B_4.out.size (fun q hq => (oq_4.out.lt q hq).1))
                  rw [show j + 1 + (m - j) = m + 1 by omega] at own9
                  obtain ⟨g9, cap9, hv9⟩ : ∃ g cap, v9 = .slice (some ⟨g, 0, none⟩) (m + 1) cap := by
                    rcases own9.2 with ⟨-, e⟩ | ⟨g, cap, -, e, -⟩
                    · omega
                    · exact ⟨g, cap, e⟩
                  subst hv9
                  have O9 := Lib.hid own9
                  clear own9 gr9 at9
                  refine hK.out _ _ B9.out (fun hHeld => ?_)
                  clear hK K
                  (try simp only [putz])
                  refine WDs 17 ⟨some 92, .fieldAddr 48 (.tmp 9) 0, 0, _, #[⟨0, .phase⟩, ⟨1, .phase⟩, ⟨2, .phase⟩, ⟨3, .phase⟩, ⟨4, .phase⟩, ⟨5, .phase⟩, ⟨6, .phase⟩, ⟨7, .phase⟩, ⟨8, .phase⟩, ⟨9, .phase⟩, ⟨10, .phase⟩, ⟨11, .phase⟩, ⟨12, .phase⟩, ⟨13, .phase⟩, ⟨14, .phase⟩, ⟨15, .phase⟩, ⟨16, .phase⟩], none⟩ ?vz9417 ?hyz9417 hHeld ?_
                  case hyz9417 => (intro wz hSw; (try dsimp only at hSw); go_simp; try with_reducible rfl)
                  (try simp only [putz])
                  have H9 := Lib.hid ((B9.out.block bc HBQ.out).trans HCq.out)
                  have z9 := (five5 H9.out).1
                  have k9 := froz5 H9.out 0
                  clear hHeld
                  refine WD_ready (rs := [18]) (by kernel_rfl) (by simp) ?_
                  refine AllD.last (o := ⟨none, .store 26 (.tmp 92) (.tmp 91), 0, _, #[⟨17, .data⟩, ⟨16, .data⟩, ⟨16, .chain⟩, ⟨0, .phase⟩, ⟨1, .phase⟩, ⟨2, .phase⟩, ⟨3, .phase⟩, ⟨4, .phase⟩, ⟨5, .phase⟩, ⟨6, .phase⟩, ⟨7, .phase⟩, ⟨8, .phase⟩, ⟨9, .phase⟩, ⟨10, .phase⟩, ⟨11, .phase⟩, ⟨12, .phase⟩, ⟨13, .phase⟩, ⟨14, .phase⟩, ⟨15, .phase⟩, ⟨16, .phase⟩], none⟩) rfl (by kernel_rfl) (fun K hK => ?_) AllD.nil
                  rw [if_pos (by rfl)]
                  go_simp
                  refine hK.out _ _ ?_
                  clear hK K
                  (try simp only [putz])
                  refine WD_done (by kernel_rfl) ?_ _
                  have F9 : Frm w9 (w9.setCell ⟨bc, 0, none⟩ (.slice (some ⟨g9, 0, none⟩) (m + 1) cap9)) (· = bc) := frm_set 0 _ rfl
                  have HC9 : Hid ((w9.setCell ⟨bc, 0, none⟩ (.slice (some ⟨g9, 0, none⟩) (m + 1) cap9)).heap[bc]? = some (.cells #[.slice (some ⟨g9, 0, none⟩) (m + 1) cap9, .int .i64 T.k, .string T.nm, .int .i64 T.vr, .slice A3 T.args.length c3] RScT (0, 0))) := Lib.hid (by have := H9.out; simp [World.setCell, Array.getElem?_modify, this])
                  have HO9 : Hid ((w9.setCell ⟨bc, 0, none⟩ (.slice (some ⟨g9, 0, none⟩) (m + 1) cap9)).ownsRow w5.heap.size TI 1 (.slice (some ⟨g9, 0, none⟩) (m + 1) cap9) (m + 1) (ivs (allK hd vs (k + 1)))) := Lib.hid (by
                    rw [HAK.out]
                    have h := own_frm O9.out F9 (fun q hq e => by have h1 := (O9.out.lt q hq).1; have h2 := HBQ.out; have h3 : q = bc := e; omega)
                    have e : ivs (L.take j) ++ [.int .i64 x] ++ ivs (L.drop j) = ivs (insS L x) := by rw [HIN.out, ivs_app]; simp [ivs]
                    rw [e] at h
                    exact own_up h HQ5.out)
                  have HF9 : Hid (Frm w5 (w9.setCell ⟨bc, 0, none⟩ (.slice (some ⟨g9, 0, none⟩) (m + 1) cap9)) (· = bc)) := Lib.hid ((FMQ.out.trans (Frm.of_below B9.out (Nat.le_refl _) _)).trans F9)
                  clear F9 z9 k9
                  go_wp2
                  go_roundw
                  case rel => exact ⟨k + 1, m + 1, _, _, by omega, by omega, by go_num, HC9, HO9, HF9⟩
                  case measure => simp [intOf]; omega
                · go_simp
                  refine hK.out _ _ (bt B_1.out (below_alloc w_1 _)) (fun hHeld_5 => ?_)
                  clear hK K
                  (try simp only [putz])
                  obtain ⟨w_5, hw_5⟩ : ∃ z, z = w_1.alloc (.cells #[.int .i64 x] 3) := ⟨_, rfl⟩
                  have B_5 : Hid (Below wc.heap.size wc w_5) := Lib.hid (by rw [hw_5]; exact hHeld_5)
                  have C_5 : Hid (w_5.heap[w_1.heap.size]? = some (.cells #[.int .i64 x] 3 (0, 0))) := Lib.hid (by rw [hw_5]; exact heap_alloc_new w_1 _)
                  have L_5 : Hid (Below w_1.heap.size w_1 w_5) := Lib.hid (by rw [hw_5]; exact below_alloc w_1 _)
                  have Z_5 : Hid (wc.heap.size ≤ w_1.heap.size ∧ w_1.heap.size < w_5.heap.size) := Lib.hid ⟨B_1.out.size, by rw [hw_5]; show _ < (Array.push _ _).size; simp⟩
                  clear hHeld_5
                  try rw [← hw_5]
                  clear hw_5
                  have cA_5 := Lib.hid ((L_5.out.block _ Z_1.out.2).trans C_1.out)
                  have zA_5 := Lib.hid (And.intro Z_1.out.1 (Nat.lt_of_lt_of_le Z_1.out.2 L_5.out.size))
                  refine WD_ready (rs := [5]) (by kernel_rfl) (by simp) ?_
                  refine AllD.cons (o := _) rfl (fun K hK => ?_) AllD.nil
                  refine step_append_sl rfl (.tmp 75) (.tmp 79) 26 rfl wc.heap.size 3 i0 (.int .i64 0) 1 8 Tryz.underlying26 hi0 hz0 hz1 hz2 rfl (by decide) (.slice (some ⟨w_0.heap.size, 0, none⟩) 0 0) 0 [] rfl (own_litg (k := w_0.heap.size) cA_5.out zA_5.out.1) Al j ca (ivs (L.take j)) rfl (by rw [ivs_len, Nat.mul_one, List.length_take]; have := HML.out; omega) PN.out ((fun ad e j u hj => PW.out _ B_5.out ad e j u hj)) (fun u hu => ones_ivs u hu) (by unfold maxLen; omega) (by omega) B_5.out.size ?_
                  intro v_6 w_6 own_6 gr_6 at_6
                  simp only [Nat.zero_add, List.nil_append] at own_6
                  have B_6 : Hid (Below wc.heap.size wc w_6) := Lib.hid (B_5.out.grown gr_6 B_5.out.size (fun q hq => by simp [Value.ownBlock] at hq; have := zA_5.out.1; omega))
                  have cX_6 : Hid (w_6.heap[w_1.heap.size]? = some (.cells #[.int .i64 x] 3 (0, 0))) := Lib.hid ((gr_6.block _ Z_5.out.2 (by simp [Value.ownBlock]; have := Z_1.out; omega)).trans C_5.out)
                  have op_6 := Lib.hid own_6
                  clear own_6 gr_6 at_6
                  refine hK.out _ _ B_6.out (fun _ => ?_)
                  clear hK K
                  (try simp only [putz])
                  refine WD_ready (rs := [11]) (by kernel_rfl) (by simp) ?_
                  refine AllD.cons (o := _) rfl (fun K hK => ?_) AllD.nil
                  refine step_append_lies _ (by rfl) (.tmp 80) (.tmp 85) 26 rfl wc.heap.size 3 i0 (.int .i64 0) 1 8 Tryz.underlying26 hi0 hz0 hz1 hz2 rfl (by decide) v_6 j (ivs (L.take j)) rfl op_6.out ⟨w_1.heap.size, 0, none⟩ 1 1 [.int .i64 x] rfl rfl (World.news_of_block (cs := #[.int .i64 x]) (t := 3) (fr := (0, 0)) cX_6.out) (by simp [Value.oneCell']) (by omega) (by unfold maxLen; omega) (by omega) B_6.out.size _ rfl ?_
                  intro g3 cap3 w_7 own_7 gr_7 at_7 hlt_7
                  have B_7 : Hid (Below wc.heap.size wc w_7) := Lib.hid (B_6.out.grown gr_7 B_6.out.size (fun q hq => (op_6.out.lt q hq).1))
                  have oq_7 := Lib.hid own_7
                  clear own_7 gr_7 at_7 hlt_7
                  refine hK.out _ _ B_7.out (fun _ => ?_)
                  clear hK K
                  (try simp only [putz])
                  refine WD_ready (rs := [16]) (by kernel_rfl) (by simp) ?_
                  refine AllD.cons (o := _) rfl (fun K hK => ?_) AllD.nil
                  refine step_append_sl rfl (.tmp 86) (.tmp 90) 26 rfl wc.heap.size 3 i0 (.int .i64 0) 1 8 Tryz.underlying26 hi0 hz0 hz1 hz2 rfl (by decide) (.slice (some ⟨g3, 0, none⟩) (j + 1) cap3) (j + 1) (ivs (L.take j) ++ [.int .i64 x]) rfl oq_7.out _ (m - j) _ (ivs (L.drop j)) rfl (by rw [ivs_len, List.length_drop, Nat.mul_one, HML.out]) RN.out (fun ad e j u hj => RW.out _ B_7.out ad e j u hj) (fun u hu => ones_ivs u hu) (by unfold maxLen; omega) (by omega) B_7.out.size ?_
                  intro v9 w9 own9 gr9 at9
                  have B9 : Hid (Below wc.heap.size wc w9) := Lib.hid (B_7.out.grown gr9 B_7.out.size (fun q hq => (oq_7.out.lt q hq).1))
                  rw [show j + 1 + (m - j) = m + 1 by omega] at own9
                  obtain ⟨g9, cap9, hv9⟩ : ∃ g cap, v9 = .slice (some ⟨g, 0, none⟩) (m + 1) cap := by
                    rcases own9.2 with ⟨-, e⟩ | ⟨g, cap, -, e, -⟩
                    · omega
                    · exact ⟨g, cap, e⟩
                  subst hv9
                  have O9 := Lib.hid own9
                  clear own9 gr9 at9
                  refine hK.out _ _ B9.out (fun hHeld => ?_)
                  clear hK K
                  (try simp only [putz])
                  refine WDs 17 ⟨some 92, .fieldAddr 48 (.tmp 9) 0, 0, _, #[⟨0, .phase⟩, ⟨1, .phase⟩, ⟨2, .phase⟩, ⟨3, .phase⟩, ⟨4, .phase⟩, ⟨5, .phase⟩, ⟨6, .phase⟩, ⟨7, .phase⟩, ⟨8, .phase⟩, ⟨9, .phase⟩, ⟨10, .phase⟩, ⟨11, .phase⟩, ⟨12, .phase⟩, ⟨13, .phase⟩, ⟨14, .phase⟩, ⟨15, .phase⟩, ⟨16, .phase⟩], none⟩ ?vz9717 ?hyz9717 hHeld ?_
                  case hyz9717 => (intro wz hSw; (try dsimp only at hSw); go_simp; try with_reducible rfl)
                  (try simp only [putz])
                  have H9 := Lib.hid ((B9.out.block bc HBQ.out).trans HCq.out)
                  have z9 := (five5 H9.out).1
                  have k9 := froz5 H9.out 0
                  clear hHeld
                  refine WD_ready (rs := [18]) (by kernel_rfl) (by simp) ?_
                  refine AllD.last (o := ⟨none, .store 26 (.tmp 92) (.tmp 91), 0, _, #[⟨17, .data⟩, ⟨16, .data⟩, ⟨16, .chain⟩, ⟨0, .phase⟩, ⟨1, .phase⟩, ⟨2, .phase⟩, ⟨3, .phase⟩, ⟨4, .phase⟩, ⟨5, .phase⟩, ⟨6, .phase⟩, ⟨7, .phase⟩, ⟨8, .phase⟩, ⟨9, .phase⟩, ⟨10, .phase⟩, ⟨11, .phase⟩, ⟨12, .phase⟩, ⟨13, .phase⟩, ⟨14, .phase⟩, ⟨15, .phase⟩, ⟨16, .phase⟩], none⟩) rfl (by kernel_rfl) (fun K hK => ?_) AllD.nil
                  rw [if_pos (by rfl)]
                  go_simp
                  refine hK.out _ _ ?_
                  clear hK K
                  (try simp only [putz])
                  refine WD_done (by kernel_rfl) ?_ _
                  have F9 : Frm w9 (w9.setCell ⟨bc, 0, none⟩ (.slice (some ⟨g9, 0, none⟩) (m + 1) cap9)) (· = bc) := frm_set 0 _ rfl
                  have HC9 : Hid ((w9.setCell ⟨bc, 0, none⟩ (.slice (some ⟨g9, 0, none⟩) (m + 1) cap9)).heap[bc]? = some (.cells #[.slice (some ⟨g9, 0, none⟩) (m + 1) cap9, .int .i64 T.k, .string T.nm, .int .i64 T.vr, .slice A3 T.args.length c3] RScT (0, 0))) := Lib.hid (by have := H9.out; simp [World.setCell, Array.getElem?_modify, this])
                  have HO9 : Hid ((w9.setCell ⟨bc, 0, none⟩ (.slice (some ⟨g9, 0, none⟩) (m + 1) cap9)).ownsRow w5.heap.size TI 1 (.slice (some ⟨g9, 0, none⟩) (m + 1) cap9) (m + 1) (ivs (allK hd vs (k + 1)))) := Lib.hid (by
                    rw [HAK.out]
                    have h := own_frm O9.out F9 (fun q hq e => by have h1 := (O9.out.lt q hq).1; have h2 := HBQ.out; have h3 : q = bc := e; omega)
                    have e : ivs (L.take j) ++ [.int .i64 x] ++ ivs (L.drop j) = ivs (insS L x) := by rw [HIN.out, ivs_app]; simp [ivs]
                    rw [e] at h
                    exact own_up h HQ5.out)
                  have HF9 : Hid (Frm w5 (w9.setCell ⟨bc, 0, none⟩ (.slice (some ⟨g9, 0, none⟩) (m + 1) cap9)) (· = bc)) := Lib.hid ((FMQ.out.trans (Frm.of_below B9.out (Nat.le_refl _) _)).trans F9)
                  clear F9 z9 k9
                  go_wp2
                  go_roundw
                  case rel => exact ⟨k + 1, m + 1, _, _, by omega, by omega, by go_num, HC9, HO9, HF9⟩
                  case measure => simp [intOf]; omega
              · go_simp
                refine hK.out _ _ (bt BD.out (below_alloc w_0 _)) (fun hHeld_8 => ?_)
                clear hK K
                (try simp only [putz])
                obtain ⟨w_8, hw_8⟩ : ∃ z, z = w_0.alloc (.cells #[.int .i64 x] 3) := ⟨_, rfl⟩
                have B_8 : Hid (Below wc.heap.size wc w_8) := Lib.hid (by rw [hw_8]; exact hHeld_8)
                have C_8 : Hid (w_8.heap[w_0.heap.size]? = some (.cells #[.int .i64 x] 3 (0, 0))) := Lib.hid (by rw [hw_8]; exact heap_alloc_new w_0 _)
                have L_8 : Hid (Below w_0.heap.size w_0 w_8) := Lib.hid (by rw [hw_8]; exact below_alloc w_0 _)
                have Z_8 : Hid (wc.heap.size ≤ w_0.heap.size ∧ w_0.heap.size < w_8.heap.size) := Lib.hid ⟨BD.out.size, by rw [hw_8]; show _ < (Array.push _ _).size; simp⟩
                clear hHeld_8
                try rw [← hw_8]
                clear hw_8
                refine WD_ready (rs := [0]) (by kernel_rfl) (by simp) ?_
                refine AllD.cons (o := _) rfl (fun K hK => ?_) AllD.nil
                go_simp
                refine hK.out _ _ (bt B_8.out (below_alloc w_8 _)) (fun hHeld_9 => ?_)
                clear hK K
                (try simp only [putz])
                obtain ⟨w_9, hw_9⟩ : ∃ z, z = w_8.alloc (.cells #[] 3) := ⟨_, rfl⟩
                have B_9 : Hid (Below wc.heap.size wc w_9) := Lib.hid (by rw [hw_9]; exact hHeld_9)
                have C_9 : Hid (w_9.heap[w_8.heap.size]? = some (.cells #[] 3 (0, 0))) := Lib.hid (by rw [hw_9]; exact heap_alloc_new w_8 _)
                have L_9 : Hid (Below w_8.heap.size w_8 w_9) := Lib.hid (by rw [hw_9]; exact below_alloc w_8 _)
                have Z_9 : Hid (wc.heap.size ≤ w_8.heap.size ∧ w_8.heap.size < w_9.heap.size) := Lib.hid ⟨B_8.out.size, by rw [hw_9]; show _ < (Array.push _ _).size; simp⟩
                clear hHeld_9
                try rw [← hw_9]
                clear hw_9
                have cX_9 := Lib.hid ((L_9.out.block _ Z_8.out.2).trans C_8.out)
                have zX_9 := Lib.hid (And.intro Z_8.out.1 (Nat.lt_of_lt_of_le Z_8.out.2 L_9.out.size))
                refine WD_ready (rs := [5]) (by kernel_rfl) (by simp) ?_
                refine AllD.cons (o := _) rfl (fun K hK => ?_) AllD.nil
                refine step_append_sl rfl (.tmp 75) (.tmp 79) 26 rfl wc.heap.size 3 i0 (.int .i64 0) 1 8 Tryz.underlying26 hi0 hz0 hz1 hz2 rfl (by decide) (.slice (some ⟨w_8.heap.size, 0, none⟩) 0 0) 0 [] rfl (own_litg (k := w_8.heap.size) C_9.out Z_9.out.1) Al j ca (ivs (L.take j)) rfl (by rw [ivs_len, Nat.mul_one, List.length_take]; have := HML.out; omega) PN.out ((fun ad e j u hj => PW.out _ B_9.out ad e j u hj)) (fun u hu => ones_ivs u hu) (by unfold maxLen; omega) (by omega) B_9.out.size ?_
                intro v_10 w_10 own_10 gr_10 at_10
                simp only [Nat.zero_add, List.nil_append] at own_10
                have B_10 : Hid (Below wc.heap.size wc w_10) := Lib.hid (B_9.out.grown gr_10 B_9.out.size (fun q hq => by simp [Value.ownBlock] at hq; have := Z_9.out.1; omega))
                have cX_10 : Hid (w_10.heap[w_0.heap.size]? = some (.cells #[.int .i64 x] 3 (0, 0))) := Lib.hid ((gr_10.block _ zX_9.out.2 (by simp [Value.ownBlock]; have := Z_8.out; omega)).trans cX_9.out)
                have op_10 := Lib.hid own_10
                clear own_10 gr_10 at_10
                refine hK.out _ _ B_10.out (fun _ => ?_)
                clear hK K
                (try simp only [putz])
                refine WD_ready (rs := [11]) (by kernel_rfl) (by simp) ?_
                refine AllD.cons (o := _) rfl (fun K hK => ?_) AllD.nil
                refine step_append_lies _ (by rfl) (.tmp 80) (.tmp 85) 26 rfl wc.heap.size 3 i0 (.int .i64 0) 1 8 Tryz.underlying26 hi0 hz0 hz1 hz2 rfl (by decide) v_10 j (ivs (L.take j)) rfl op_10.out ⟨w_0.heap.size, 0, none⟩ 1 1 [.int .i64 x] rfl rfl (World.news_of_block (cs := #[.int .i64 x]) (t := 3) (fr := (0, 0)) cX_10.out) (by simp [Value.oneCell']) (by omega) (by unfold maxLen; omega) (by omega) B_10.out.size _ rfl ?_
                intro g3 cap3 w_11 own_11 gr_11 at_11 hlt_11
                have B_11 : Hid (Below wc.heap.size wc w_11) := Lib.hid (B_10.out.grown gr_11 B_10.out.size (fun q hq => (op_10.out.lt q hq).1))
                have oq_11 := Lib.hid own_11
                clear own_11 gr_11 at_11 hlt_11
                refine hK.out _ _ B_11.out (fun _ => ?_)
                clear hK K
                (try simp only [putz])
                refine WD_ready (rs := [16]) (by kernel_rfl) (by simp) ?_
                refine AllD.cons (o := _) rfl (fun K hK => ?_) AllD.nil
                refine step_append_sl rfl (.tmp 86) (.tmp 90) 26 rfl wc.heap.size 3 i0 (.int .i64 0) 1 8 Tryz.underlying26 hi0 hz0 hz1 hz2 rfl (by decide) (.slice (some ⟨g3, 0, none⟩) (j + 1) cap3) (j + 1) (ivs (L.take j) ++ [.int .i64 x]) rfl oq_11.out _ (m - j) _ (ivs (L.drop j)) rfl (by rw [ivs_len, List.length_drop, Nat.mul_one, HML.out]) RN.out (fun ad e j u hj => RW.out _ B_11.out ad e j u hj) (fun u hu => ones_ivs u hu) (by unfold maxLen; omega) (by omega) B_11.out.size ?_
                intro v9 w9 own9 gr9 at9
                have B9 : Hid (Below wc.heap.size wc w9) := Lib.hid (B_11.out.grown gr9 B_11.out.size (fun q hq => (oq_11.out.lt q hq).1))
                rw [show j + 1 + (m - j) = m + 1 by omega] at own9
                obtain ⟨g9, cap9, hv9⟩ : ∃ g cap, v9 = .slice (some ⟨g, 0, none⟩) (m + 1) cap := by
                  rcases own9.2 with ⟨-, e⟩ | ⟨g, cap, -, e, -⟩
                  · omega
                  · exact ⟨g, cap, e⟩
                subst hv9
                have O9 := Lib.hid own9
                clear own9 gr9 at9
                refine hK.out _ _ B9.out (fun hHeld => ?_)
                clear hK K
                (try simp only [putz])
                refine WDs 17 ⟨some 92, .fieldAddr 48 (.tmp 9) 0, 0, _, #[⟨0, .phase⟩, ⟨1, .phase⟩, ⟨2, .phase⟩, ⟨3, .phase⟩, ⟨4, .phase⟩, ⟨5, .phase⟩, ⟨6, .phase⟩, ⟨7, .phase⟩, ⟨8, .phase⟩, ⟨9, .phase⟩, ⟨10, .phase⟩, ⟨11, .phase⟩, ⟨12, .phase⟩, ⟨13, .phase⟩, ⟨14, .phase⟩, ⟨15, .phase⟩, ⟨16, .phase⟩], none⟩ ?vz91117 ?hyz91117 hHeld ?_
                case hyz91117 => (intro wz hSw; (try dsimp only at hSw); go_simp; try with_reducible rfl)
                (try simp only [putz])
                have H9 := Lib.hid ((B9.out.block bc HBQ.out).trans HCq.out)
                have z9 := (five5 H9.out).1
                have k9 := froz5 H9.out 0
                clear hHeld
                refine WD_ready (rs := [18]) (by kernel_rfl) (by simp) ?_
                refine AllD.last (o := ⟨none, .store 26 (.tmp 92) (.tmp 91), 0, _, #[⟨17, .data⟩, ⟨16, .data⟩, ⟨16, .chain⟩, ⟨0, .phase⟩, ⟨1, .phase⟩, ⟨2, .phase⟩, ⟨3, .phase⟩, ⟨4, .phase⟩, ⟨5, .phase⟩, ⟨6, .phase⟩, ⟨7, .phase⟩, ⟨8, .phase⟩, ⟨9, .phase⟩, ⟨10, .phase⟩, ⟨11, .phase⟩, ⟨12, .phase⟩, ⟨13, .phase⟩, ⟨14, .phase⟩, ⟨15, .phase⟩, ⟨16, .phase⟩], none⟩) rfl (by kernel_rfl) (fun K hK => ?_) AllD.nil
                rw [if_pos (by rfl)]
                go_simp
                refine hK.out _ _ ?_
                clear hK K
                (try simp only [putz])
                refine WD_done (by kernel_rfl) ?_ _
                have F9 : Frm w9 (w9.setCell ⟨bc, 0, none⟩ (.slice (some ⟨g9, 0, none⟩) (m + 1) cap9)) (· = bc) := frm_set 0 _ rfl
                have HC9 : Hid ((w9.setCell ⟨bc, 0, none⟩ (.slice (some ⟨g9, 0, none⟩) (m + 1) cap9)).heap[bc]? = some (.cells #[.slice (some ⟨g9, 0, none⟩) (m + 1) cap9, .int .i64 T.k, .string T.nm, .int .i64 T.vr, .slice A3 T.args.length c3] RScT (0, 0))) := Lib.hid (by have := H9.out; simp [World.setCell, Array.getElem?_modify, this])
                have HO9 : Hid ((w9.setCell ⟨bc, 0, none⟩ (.slice (some ⟨g9, 0, none⟩) (m + 1) cap9)).ownsRow w5.heap.size TI 1 (.slice (some ⟨g9, 0, none⟩) (m + 1) cap9) (m + 1) (ivs (allK hd vs (k + 1)))) := Lib.hid (by
                  rw [HAK.out]
                  have h := own_frm O9.out F9 (fun q hq e => by have h1 := (O9.out.lt q hq).1; have h2 := HBQ.out; have h3 : q = bc := e; omega)
                  have e : ivs (L.take j) ++ [.int .i64 x] ++ ivs (L.drop j) = ivs (insS L x) := by rw [HIN.out, ivs_app]; simp [ivs]
                  rw [e] at h
                  exact own_up h HQ5.out)
                have HF9 : Hid (Frm w5 (w9.setCell ⟨bc, 0, none⟩ (.slice (some ⟨g9, 0, none⟩) (m + 1) cap9)) (· = bc)) := Lib.hid ((FMQ.out.trans (Frm.of_below B9.out (Nat.le_refl _) _)).trans F9)
                clear F9 z9 k9
                go_wp2
                go_roundw
                case rel => exact ⟨k + 1, m + 1, _, _, by omega, by omega, by go_num, HC9, HO9, HF9⟩
                case measure => simp [intOf]; omega
        · obtain rfl : k = N := by omega
          have HKL := Lib.hid (show allK hd vs k = vs.foldl (rAllF hd) [] by unfold allK; rw [HN.out, List.take_length])
          have HML := Lib.hid (show m = (allK hd vs k).length by have := HO.out.1; rw [ivs_len] at this; omega)
          have hge : ¬ (k : Int) < (k : Int) := by omega
          obtain ⟨a0, a1, a2, a3, a4⟩ := five5 HC.out
          have hr9 := (FM.out.block (w.heap.size + 1) (by have := Q6.out; omega) (by have := Q6.out; show ¬ w.heap.size + 1 = bc; omega)).trans RB6.out
          obtain ⟨y0, y1, y2, y3, y4⟩ := five5 hr9
          have k0 := froz5 hr9 0
          have k1 := froz5 hr9 1
          have k2 := froz5 hr9 2
          have k3 := froz5 hr9 3
          have k4 := froz5 hr9 4
          obtain ⟨t0, t1, t2, t3, t4⟩ := five5 (cells_all5 (.slice Al m ca) (.int .i64 T.k) (.string T.nm) (.int .i64 T.vr) (.slice A3 T.args.length c3) hr9)
          have B9 : Below w.heap.size w wo := BW6.out.trans (FM.out.below (fun q hq => by have := Q6.out; have : q = bc := hq; omega) (by have := BW6.out.size; omega))
          have M1 := Lib.hid (set5_below (.slice Al m ca) (.int .i64 T.k) (.string T.nm) (.int .i64 T.vr) (.slice A3 T.args.length c3) B9 (Nat.le_succ w.heap.size))
          have M2 := Lib.hid (T6.out.move (w' := set5 wo (w.heap.size + 1) (.slice Al m ca) (.int .i64 T.k) (.string T.nm) (.int .i64 T.vr) (.slice A3 T.args.length c3)) (P' := fun q => P0 q ∨ w.heap.size ≤ q) (fun b hb hp => ⟨(set5_keep wo (w.heap.size + 1) _ _ _ _ _ b (by omega)).trans (FM.out.block b hb (by show ¬ b = bc; omega)), .inr (by omega)⟩) (by rw [set5_size]; exact hBo))
          have M3 := Lib.hid (own_irow (own_frm HO.out (set5_frm wo (w.heap.size + 1) (.slice Al m ca) (.int .i64 T.k) (.string T.nm) (.int .i64 T.vr) (.slice A3 T.args.length c3)) (fun q hq e => by have h1 := HO.out.lt q hq; have h2 := Q6.out; have h3 : q = w.heap.size + 1 := e; omega)) HML.out)
          have M4 := Lib.hid (show ∀ b o f, Al = some ⟨b, o, f⟩ → w.heap.size ≤ b from fun b o f e => by subst e; have h1 := HO.out.lt b rfl; have h2 := BW6.out.size; omega)
          clear hr9 B9
          unfold RClEnv scv
          go_wp2
          (try simp only [Exit.inBlock, Exit.then])
          refine bodyPost_ret (rclose_res rfl t0 t1 t2 t3 t4) rfl ?_
          rw [HQF.out]
          rw [HKL.out] at M3 HML
          exact ⟨Al, ca, A3, c3, by rw [HML.out]; rfl, M3.out, M4.out, M2.out, M1.out⟩
end Go.Proofs.YtifopogkbjhkjaaGreatDoor
