import Derived.Test.YtdkfimejabanlaaDoorYl
namespace Go.Proofs.YtdkfimejabanlaaDoor
open DR
open Go.ChangeShapes Go.WideShapes Go.ChangeAt Go.RowKit Go.WideMaps
set_option linter.unusedVariables false
set_option linter.unusedSimpArgs false
theorem SubW.toQ {w : World} {K Pr : Nat → Prop} {B sb : Nat} {n : Int} {St : List TT} {rv : Value} {xs : List Value} (h : SubW w K Pr B sb n St rv xs) : SubQ w K sb n St := by
  obtain ⟨A, c, h1, h2⟩ := h.trow
  refine ⟨A, c, by rw [← h1]; exact h.sbc, ?_⟩
  rcases h2 with h2 | ⟨g, h2, h3, h4⟩
  · exact .inl h2
  · exact .inr ⟨g, 0, h2, h3, h4⟩
theorem resolve_okW {K Pr : Nat → Prop} {B sb : Nat} {n : Int} {St : List TT} {rv : Value} {xs : List Value} {rk : Int → Nat} (hst : StOk St rk) {V : TT} {A : Option Addr} {c : Nat} {w : World} (hsh : shp V = true) (hV : TRow w K A V.args) (hs : SubW w K Pr B sb n St rv xs) :
    Calls Tryd.prog 49 #[.pointer (some ⟨sb, 0, none⟩), tv V A c] w fun e w' => ∃ A' c', e = .returned (tv (resF St V) A' c') ∧ TRow w' K A' (resF St V).args ∧ Below w.heap.size w w' := by
  refine (resolve_anyQ (m := rkT rk) (fun t ht => rk_step hst ht) (fun t ht _ => (shp_head (hst.shp _ ht.2)).1) (fun _ => (shp_head hsh).1) hV hs.toQ).mono ?_
  rintro e w' ⟨T, A', c', rfl, hr, hT, -, hb⟩
  obtain rfl := res_fun hT (resF_res hst V)
  exact ⟨A', c', rfl, hr.later hb, hb⟩
def BdPost (K Pr : Nat → Prop) (B ub sb : Nat) (n : Int) (w : World) (q : Int × US) (e : Ending) (w' : World) : Prop := e = .returned (.int .i64 q.1) ∧ (∃ rv sv xs, UM w' K Pr B ub sb n q.2 rv sv xs) ∧ Frm w w' (Tn Pr B)
open Classical in
set_option maxRecDepth 100000 in
set_option maxHeartbeats 4000000 in
theorem bind_any {K Pr : Nat → Prop} {B ub sb : Nat} {n v : Int} {u : US} {rv sv : Value} {xs : List Value} {rk : Int → Nat} (hst : StOk u.st rk) {t : TT} {x : Value} {w : World} (h : UM w K Pr B ub sb n u rv sv xs) (hB : B ≤ w.heap.size) (hv0 : 0 ≤ v) (hv1 : v ≤ 1999) (hs : u.set.length ≤ 2000) (hsh : shp t = true) (ht : TIn w K t x) :
    Calls Tryd.prog 52 #[.pointer (some ⟨ub, 0, none⟩), .int .i64 v, x] w (BdPost K Pr B ub sb n w (if Occ u.st v t then (5, u) else (0, standU u v t))) := by
  obtain ⟨A, c, hx, hA⟩ := ht
  subst hx
  unfold tv
  obtain ⟨wA, hwA⟩ : ∃ z, z = w.alloc (.cells #[.int .i64 t.k, .string t.nm, .int .i64 t.vr, .slice A t.args.length c] 27) := ⟨_, rfl⟩
  have BA := Lib.hid (show Below w.heap.size w wA by rw [hwA]; exact below_alloc w _)
  have HX := Lib.hid (show wA.heap[w.heap.size]? = some (.cells #[.int .i64 t.k, .string t.nm, .int .i64 t.vr, .slice A t.args.length c] 27 (0, 0)) by rw [hwA]; exact heap_alloc_new w _)
  have HZ := Lib.hid (show wA.heap.size = w.heap.size + 1 by rw [hwA]; simp)
  have OC := Lib.hid (occurs_ok (v := v) hst t hsh (tv t A c) wA ⟨A, c, rfl, (hA.later BA.out).weak (fun _ _ _ => trivial)⟩ (h.later BA.out).uread)
  have ST := Lib.hid (fun W (hW : Below w.heap.size w W) => stand_any (h.later hW) (Nat.le_trans hB hW.size) hv0 hv1 hst.len hs ⟨A, c, rfl, hA.later hW⟩)
  unfold tv at OC ST
  have HU := Lib.hid h
  have HWA := Lib.hid hwA
  obtain ⟨x0, x1, x2, x3⟩ := cells4 HX.out
  by_cases ho : Occ u.st v t
  · rw [if_pos ho]
    rw [decide_eq_true ho] at OC
    clear hwA h hA hst ho ST
    go_enter Tryd.func52, Tryd.ntmps52
    go_wp2_with fail
    try rw [← HWA.out]
    refine OC.out.mono ?_; rintro e w1 ⟨rfl, hb1⟩
    have B1 := Lib.hid (bt BA.out hb1)
    clear hb1 OC
    go_wp2
    go_ret
    exact ⟨rfl, ⟨_, _, _, HU.out.later B1.out⟩, Frm.of_below B1.out (Nat.le_refl _) _⟩
  · rw [if_neg ho]
    rw [decide_eq_false ho] at OC
    clear hwA h hA hst ho
    go_enter Tryd.func52, Tryd.ntmps52
    go_wp2_with fail
    try rw [← HWA.out]
    refine OC.out.mono ?_; rintro e w1 ⟨rfl, hb1⟩
    have B1 := Lib.hid (bt BA.out hb1)
    have y := cells4 ((hb1.block w.heap.size (by have := HZ.out; omega)).trans HX.out)
    obtain ⟨y0, y1, y2, y3⟩ := y
    clear hb1 OC x0 x1 x2 x3
    go_wp2_with fail
    refine (ST.out _ B1.out).mono ?_; rintro e w2 ⟨rfl, hu2, f2⟩
    have U2 := Lib.hid hu2
    have F2 := Lib.hid ((Frm.of_below B1.out (Nat.le_refl _) (Tn Pr B)).trans f2)
    clear hu2 f2 ST
    go_wp2
    go_ret
    exact ⟨rfl, U2.out, F2.out⟩
end Go.Proofs.YtdkfimejabanlaaDoor
