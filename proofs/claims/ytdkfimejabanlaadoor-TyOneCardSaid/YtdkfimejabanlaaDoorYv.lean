import Derived.Test.YtdkfimejabanlaaDoorYu
namespace Go.Proofs.YtdkfimejabanlaaDoor
open DR
open Go.ChangeShapes Go.WideShapes Go.ChangeAt Go.RowKit Go.WideMaps
set_option linter.unusedVariables false
set_option linter.unusedSimpArgs false
open Classical in
set_option maxRecDepth 100000 in
set_option maxHeartbeats 2000000 in
theorem applyF {d : Nat} {V : TT} {v : Value} {w : World} {Pr : Nat → Prop} {B sb : Nat} {n : Int} {St : List TT} (hbg : bigT d V = false) (hg : goodT V = true) (hst : SInv St) (hS : SubS w Pr B sb n St) (h : TIn w any0 V v) : Calls Tryd.prog 15 #[.pointer (some ⟨sb, 0, none⟩), v] w (CpPost w (apvF St V)) := by
  have hin := h
  obtain ⟨rk, hr⟩ := hst.ok
  obtain ⟨A, c, rfl, hA⟩ := h
  have CG := Lib.hid (fun W (hW : Below w.heap.size w W) => good_big hbg (hin.later hW))
  have HRED := Lib.hid (show SubR w sb n St by obtain ⟨K, rv, xs, hs, _⟩ := hS; exact hs.read)
  unfold tv at CG ⊢
  obtain ⟨wB, hwB⟩ : ∃ z, z = (w.alloc (.cells #[.int .i64 V.k, .string V.nm, .int .i64 V.vr, .slice A V.args.length c] 27)).alloc (.cells #[.int .i64 0, .string ⟨#[]⟩, .int .i64 0, .slice none 0 0] 27) := ⟨_, rfl⟩
  have BX := two_box (w := w) (.cells #[.int .i64 V.k, .string V.nm, .int .i64 V.vr, .slice A V.args.length c] 27) (.cells #[.int .i64 0, .string ⟨#[]⟩, .int .i64 0, .slice none 0 0] 27)
  have BB := Lib.hid (show Below w.heap.size w wB by rw [hwB]; exact bt (below_alloc w _) (below_alloc _ _))
  have HZ := Lib.hid (show wB.heap.size = w.heap.size + 2 by rw [hwB]; simp)
  rw [← hwB] at BX
  have HX := Lib.hid BX.1
  have HY := Lib.hid BX.2
  have HWB := Lib.hid hwB
  obtain ⟨x0, x1, x2, x3⟩ := cells4 BX.1
  have HA := Lib.hid hA
  have HF := Lib.hid (fun W (hW : Below w.heap.size w W) => full_ok (n := n) (sb := sb) hr V (good_shp hg) (tv V A c) W ⟨A, c, rfl, hA.later hW⟩ (HRED.out.later hW))
  rw [hg] at CG
  obtain ⟨T, hT⟩ : ∃ T, T = apvF St V := ⟨_, rfl⟩
  rw [← hT] at HF ⊢
  unfold tv at HF
  clear BX hwB hg hT hr hA hin hS hst
  go_enter Tryd.func15, Tryd.ntmps15
  go_wp2_with fail
  rw [← HWB.out]
  go_wp2_with fail
  refine (CG.out _ BB.out).mono ?_; rintro e w1 ⟨rfl, hb1⟩
  have B1 := Lib.hid (bt BB.out hb1)
  have X1 := Lib.hid ((hb1.block w.heap.size (by have := HZ.out; omega)).trans HX.out)
  have Y1 := Lib.hid ((hb1.block (w.heap.size + 1) (by have := HZ.out; omega)).trans HY.out)
  have S1 := Lib.hid (show w.heap.size + 2 ≤ w1.heap.size by have := hb1.size; have := HZ.out; omega)
  obtain ⟨y0, y1, y2, y3⟩ := cells4 X1.out
  clear hb1 x0 x1 x2 x3 CG
  go_wp2_with fail
  refine (HF.out _ B1.out).mono ?_; rintro e w2 ⟨A2, c2, rfl, hr2, hb2⟩
  have B2 := Lib.hid (bt B1.out hb2)
  have R2 := Lib.hid hr2
  have Y2 := Lib.hid ((hb2.block (w.heap.size + 1) (by have := S1.out; omega)).trans Y1.out)
  clear hr2 hb2 HF y0 y1 y2 y3
  unfold tv
  obtain ⟨y0, y1, y2, y3⟩ := cells4 Y2.out
  obtain ⟨f0, f1, f2, f3⟩ := froz4 Y2.out
  obtain ⟨t0, t1, t2, t3⟩ := cells4 (cells_all (.int .i64 T.k) (.string T.nm) (.int .i64 T.vr) (.slice A2 T.args.length c2) Y2.out)
  have FR := Lib.hid (frm4 w2 (w.heap.size + 1) (.int .i64 T.k) (.string T.nm) (.int .i64 T.vr) (.slice A2 T.args.length c2))
  go_wp2
  (try simp only [Exit.inBlock, Exit.then])
  refine bodyPost_ret (by simp [results, Tryd.results15, go_sem, t0, t1, t2, t3]; try rfl) rfl ?_
  exact ⟨A2, c2, rfl, R2.out.move (P' := (w.heap.size ≤ ·)) (fun b hb (hp : w1.heap.size ≤ b) => ⟨FR.out.block b hb (by have := S1.out; show ¬ b = w.heap.size + 1; omega), by have := S1.out; show w.heap.size ≤ b; omega⟩) FR.out.size, B2.out.trans (FR.out.below (fun q hq => by have : q = w.heap.size + 1 := hq; omega) B2.out.size)⟩

theorem same_true {d : Nat} {V : TT} {v u : Value} {w : World} (hd : d ≤ 1000) (hb : bigT d V = false) (h : TIn w any0 V v) (h2 : TIn w any0 V u) : Calls Tryd.prog 16 #[v, u] w fun e w' => e = .returned (.bool true) ∧ Below w.heap.size w w' := by
  refine (Same_big hd hb hb h h2).mono ?_
  rintro e w' ⟨⟨b, rfl, hs⟩, hw⟩
  have : b = true := hs.2 rfl
  subst this
  exact ⟨rfl, hw⟩
def flatP : List (TT × TT) → List TT
  | [] => []
  | p :: r => p.1 :: p.2 :: flatP r
theorem flatP_len : ∀ P, (flatP P).length = 2 * P.length
  | [] => rfl
  | p :: r => by rw [flatP, List.length_cons, List.length_cons, flatP_len r, List.length_cons]; omega
theorem flatP_snoc (V U : TT) : ∀ P, flatP (P ++ [(V, U)]) = flatP P ++ [V] ++ [U]
  | [] => rfl
  | p :: r => by rw [List.cons_append, flatP, flatP_snoc V U r, flatP]; rfl
theorem flatP_opt : ∀ (P : List (TT × TT)) (k : Nat) (h : k < P.length), (flatP P)[2 * k]? = some P[k].1 ∧ (flatP P)[2 * k + 1]? = some P[k].2
  | [], k, h => by cases h
  | p :: r, 0, _ => ⟨rfl, rfl⟩
  | p :: r, k + 1, h => by
    have e := flatP_opt r k (by simpa using h)
    rw [flatP, show 2 * (k + 1) = 2 * k + 1 + 1 by omega, List.getElem?_cons_succ, List.getElem?_cons_succ, List.getElem?_cons_succ, List.getElem?_cons_succ]
    exact e
theorem flatP_at (P : List (TT × TT)) (k : Nat) (h : k < P.length) (h1 : 2 * k < (flatP P).length) (h2 : 2 * k + 1 < (flatP P).length) : (flatP P)[2 * k] = P[k].1 ∧ (flatP P)[2 * k + 1] = P[k].2 := by
  obtain ⟨e1, e2⟩ := flatP_opt P k h
  rw [List.getElem?_eq_getElem h1] at e1
  rw [List.getElem?_eq_getElem h2] at e2
  exact ⟨Option.some.inj e1, Option.some.inj e2⟩
/-- what was made one so far. -/
def DOk (St : List TT) (P : List (TT × TT)) : Prop := ∀ p ∈ P, goodT p.1 = true ∧ goodT p.2 = true ∧ bigT 7 p.1 = false ∧ bigT 7 p.2 = false ∧ apvF St p.1 = apvF St p.2
theorem uniG_zero {St : List TT} (h : SInv St) {a b : TT} (he : (uniG St a b).1 = 0) : goodT a = true ∧ goodT b = true ∧ (uniG St a b).2 = (uniQ St a b).2.st ∧ (uniQ St a b).1 = 0 := by
  revert he
  unfold uniG
  split
  · rename_i hg
    split
    · rename_i hz
      split
      · intro he; cases he
      · intro _; exact ⟨hg.1, hg.2, rfl, hz⟩
    · rename_i hz; intro he; exact absurd he hz
  · intro he; cases he
theorem uniG_one {St : List TT} (h : SInv2 St) {a b : TT} (na : NB a) (nb : NB b) (he : (uniG St a b).1 = 0) : (∀ x y, shp x = true → shp y = true → apvF St x = apvF St y → apvF (uniG St a b).2 x = apvF (uniG St a b).2 y) ∧ apvF (uniG St a b).2 a = apvF (uniG St a b).2 b := by
  obtain ⟨ga, gb, e2, hz⟩ := uniG_zero h.inv he
  obtain ⟨rk, hr⟩ := h.inv.ok
  obtain ⟨rk', hr'⟩ := (uniG_inv2 h na nb).inv.ok
  have sa := good_shp ga; have sb := good_shp gb
  have hE : SExt St (uniG St a b).2 := by rw [e2]; exact (uniF_ext (2001 * 502) ⟨St, []⟩ a b h.inv.u sa sb).s
  refine ⟨fun x y hx hy hxy => ?_, ?_⟩
  · rw [← app_app hr hr' hE x hx, ← app_app hr hr' hE y hy, hxy]
  · rw [e2]; exact uni_same (2001 * 502) ⟨St, []⟩ a b h.inv.u sa sb hz
theorem dok_yes {St : List TT} {P : List (TT × TT)} (h : SInv2 St) (hd : DOk St P) {a b : TT} (ha : bigT 7 a = false) (hb : bigT 7 b = false) (he : (uniG St a b).1 = 0) : DOk (uniG St a b).2 (P ++ [(a, b)]) := by
  obtain ⟨h1, h2⟩ := uniG_one h ⟨_, ha⟩ ⟨_, hb⟩ he
  obtain ⟨ga, gb, -, -⟩ := uniG_zero h.inv he
  intro p hp
  rcases List.mem_append.1 hp with hp | hp
  · obtain ⟨g1, g2, b1, b2, e⟩ := hd p hp
    exact ⟨g1, g2, b1, b2, h1 _ _ (good_shp g1) (good_shp g2) e⟩
  · rw [List.mem_singleton] at hp
    subst hp
    exact ⟨ga, gb, ha, hb, h2⟩
theorem dok_no {St : List TT} {P : List (TT × TT)} (h : SInv2 St) (hd : DOk St P) {a b : TT} (he : (uniG St a b).1 ≠ 0) : DOk (uniG St a b).2 P := by
  have e := app_congr ((uniG_inv h.inv a b).2 he)
  intro p hp
  rw [e]
  exact hd p hp
/-- the row of what was made one. -/
def DnR (w : World) (B lo : Nat) (dv : Value) (P : List (TT × TT)) : Prop := ∃ xs, w.ownsRow B TT24 4 dv (2 * P.length) xs ∧ KidsT w (· < lo) (flatP P) xs
theorem DnR.frm {w w' : World} {B lo : Nat} {dv : Value} {P : List (TT × TT)} {R : Nat → Prop} (h : DnR w B lo dv P) (f : Frm w w' R) (h1 : ∀ b, b < lo → ¬ R b) (h2 : ∀ b, dv.ownBlock = some b → ¬ R b) : DnR w' B lo dv P := by
  obtain ⟨xs, ho, hk⟩ := h
  exact ⟨xs, own_frm ho f h2, hk.move (fun b hb hp => ⟨f.block b hb (h1 b hp), hp⟩) f.size⟩
theorem DnR.later {w w' : World} {B lo : Nat} {dv : Value} {P : List (TT × TT)} (h : DnR w B lo dv P) (hb : Below w.heap.size w w') : DnR w' B lo dv P :=
  h.frm (Frm.of_below hb (Nat.le_refl _) (fun _ => False)) (fun _ _ h => h) (fun _ _ h => h)
theorem DnR.row {w : World} {B lo : Nat} {dv : Value} {P : List (TT × TT)} (h : DnR w B lo dv P) : ∃ A c, dv = .slice A (2 * P.length) c ∧ TRow w any0 A (flatP P) := by
  obtain ⟨xs, ho, hk⟩ := h
  rcases ho.2 with ⟨q1, q2⟩ | ⟨g, cap, cur, q1, q2, q3, q4, q5, q6, q7⟩
  · exact ⟨none, 0, by rw [q1, q2], .inl (by rw [flatP_len]; exact q2)⟩
  · refine ⟨_, _, q1, .inr ⟨g, 0, rfl, (Array.getElem?_eq_some_iff.1 q3).1, trivial, ?_⟩⟩
    refine KidsT.row (hk.move (P' := any0) (fun b _ _ => ⟨rfl, trivial⟩) (Nat.le_refl _)) (fun j hj => ?_)
    rw [Nat.zero_add]
    have hown := ho
    rw [q1] at hown
    exact (hown.cellAt j (by rw [← hown.1]; exact hj)).trans (List.getElem?_eq_getElem hj)
def kid2 (V : TT) (A : Option Addr) (c : Nat) (U : TT) (A' : Option Addr) (c' : Nat) : List Value := kidT V A c ++ kidT U A' c'
theorem DnR.push {w wa w4 : World} {B lo g cap : Nat} {dv : Value} {P : List (TT × TT)} {V U : TT} {A A' : Option Addr} {c c' : Nat} {xs : List Value} (ho : w.ownsRow B TT24 4 dv (2 * P.length) xs) (hk : KidsT w (· < lo) (flatP P) xs) (hlo : lo ≤ B) (hV : TRow w (· < lo) A V.args) (hU : TRow w (· < lo) A' U.args) (hw : Below w.heap.size w wa)
    (own4 : w4.ownsRow B TT24 4 (.slice (some ⟨g, 0, none⟩) (2 * P.length + 2) cap) (2 * P.length + 2) (xs ++ kid2 V A c U A' c')) (gr4 : wa.grownBy w4 dv.ownBlock) : DnR w4 B lo (.slice (some ⟨g, 0, none⟩) (2 * P.length + 2) cap) (P ++ [(V, U)]) := by
  have hmv : ∀ b, b < w.heap.size → b < lo → w4.heap[b]? = w.heap[b]? ∧ b < lo := fun b hb hp => ⟨(gr4.block b (Nat.lt_of_lt_of_le hb hw.size) (fun e => by have := (ho.lt b e.symm).1; omega)).trans (hw.block b hb), hp⟩
  have hsz : w.heap.size ≤ w4.heap.size := Nat.le_trans hw.size gr4.size
  refine ⟨xs ++ kid2 V A c U A' c', by rw [List.length_append]; exact own4, ?_⟩
  rw [flatP_snoc]
  unfold kid2
  rw [← List.append_assoc]
  exact KidsT.snoc (hU.move hmv hsz) (KidsT.snoc (hV.move hmv hsz) (hk.move hmv hsz))
end Go.Proofs.YtdkfimejabanlaaDoor
