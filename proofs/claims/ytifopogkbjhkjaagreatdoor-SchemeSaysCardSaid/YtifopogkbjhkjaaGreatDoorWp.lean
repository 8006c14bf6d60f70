import Derived.Test.YtifopogkbjhkjaaGreatDoorWn
import Derived.Deep.CutBlock
import Derived.Deep.DeepCutAuto
namespace Go.Proofs.YtifopogkbjhkjaaGreatDoor
open DR
open Go.ChangeShapes Go.WideShapes Go.ChangeAt Go.RowKit Go.WideMaps
set_option linter.unusedVariables false
set_option linter.unusedSimpArgs false
def tF (V U : TT) : TT := .mk 5 ⟨#[]⟩ 0 [V, U]
theorem app_nil : ∀ t, shp t = true → apvF [] t = t := by
  obtain ⟨rk, hr⟩ := sinv_nil.ok
  refine res_ind hr ?_
  intro t ht ih
  rw [app_eq hr ht, resF_nil]
  rw [resF_nil] at ih
  have e : t.args.map (apvF []) = t.args := by
    have : t.args.map (apvF []) = t.args.map id := List.map_congr_left (fun a ha => ih a ha)
    rw [this, List.map_id]
  rw [e, ← TT.eta]
set_option maxRecDepth 100000 in
set_option maxHeartbeats 4000000 in
theorem fun_any {V U : TT} {A A' : Option Addr} {c c' : Nat} {w : World} (hV : TRow w any0 A V.args) (hU : TRow w any0 A' U.args) : Calls Tryz.prog 25 #[tv V A c, tv U A' c'] w fun e w' => ∃ A2 c2, e = .returned (tv (tF V U) A2 c2) ∧ TRow w' any0 A2 [V, U] ∧ Below w.heap.size w w' := by
  unfold tv
  obtain ⟨wB, hwB⟩ : ∃ z, z = (w.alloc (.cells #[.int .i64 V.k, .string V.nm, .int .i64 V.vr, .slice A V.args.length c] 24)).alloc (.cells #[.int .i64 U.k, .string U.nm, .int .i64 U.vr, .slice A' U.args.length c'] 24) := ⟨_, rfl⟩
  have BX := two_box (w := w) (.cells #[.int .i64 V.k, .string V.nm, .int .i64 V.vr, .slice A V.args.length c] 24) (.cells #[.int .i64 U.k, .string U.nm, .int .i64 U.vr, .slice A' U.args.length c'] 24)
  rw [← hwB] at BX
  have BB := Lib.hid (show Below w.heap.size w wB by rw [hwB]; exact bt (below_alloc w _) (below_alloc _ _))
  have hz : wB.heap.size = w.heap.size + 2 := by rw [hwB]; simp
  obtain ⟨wZ, hwZ⟩ : ∃ z, z = wB.alloc (.cells #[.int .i64 0, .string ⟨#[]⟩, .int .i64 0, .slice none 0 0] 24) := ⟨_, rfl⟩
  have BZ := Lib.hid (show Below wB.heap.size wB wZ by rw [hwZ]; exact below_alloc _ _)
  have hz2 : wZ.heap.size = w.heap.size + 3 := by rw [hwZ]; simp [hz]
  have ZX := (BZ.out.block w.heap.size (by omega)).trans BX.1
  have ZY := (BZ.out.block (w.heap.size + 1) (by omega)).trans BX.2
  have ZR : wZ.heap[w.heap.size + 2]? = some (.cells #[.int .i64 0, .string ⟨#[]⟩, .int .i64 0, .slice none 0 0] 24 (0, 0)) := by rw [hwZ, ← hz]; exact heap_alloc_new _ _
  obtain ⟨x0, x1, x2, x3⟩ := cells4 ZX
  obtain ⟨y0, y1, y2, y3⟩ := cells4 ZY
  obtain ⟨r0, r1, r2, r3⟩ := cells4 ZR
  obtain ⟨f0, f1, f2, f3⟩ := froz4 ZR
  have HZ2 := Lib.hid hz2
  have HWB := Lib.hid hwB
  have HWZ := Lib.hid hwZ
  have HZR := Lib.hid ZR
  have HZZ := Lib.hid hz
  clear hwB hwZ BX ZX ZY hz
  go_enter Tryz.func25, Tryz.ntmps25
  go_wp2_with fail
  rw [← HWB.out]
  try rw [← HWZ.out]
  clear x0 x1 x2 x3 y0 y1 y2 y3 r0 r1 r2 r3 f0 f1 f2 f3 ZR HZR HWZ HWB BZ
  have BE := two_box (w := wB) (.cells #[.int .i64 5, .string ⟨#[]⟩, .int .i64 0, .slice (some ⟨w.heap.size + 1 + 1 + 1, 0, none⟩) 2 2] 24) (.cells #[.int .i64 V.k, .string V.nm, .int .i64 V.vr, .slice A V.args.length c, .int .i64 U.k, .string U.nm, .int .i64 U.vr, .slice A' U.args.length c'] 24)
  rw [HZZ.out] at BE
  have hbe : Below w.heap.size w ((wB.alloc (.cells #[.int .i64 5, .string ⟨#[]⟩, .int .i64 0, .slice (some ⟨w.heap.size + 1 + 1 + 1, 0, none⟩) 2 2] 24)).alloc (.cells #[.int .i64 V.k, .string V.nm, .int .i64 V.vr, .slice A V.args.length c, .int .i64 U.k, .string U.nm, .int .i64 U.vr, .slice A' U.args.length c'] 24)) := bt BB.out (bt (below_alloc wB _) (below_alloc _ _))
  have hsz : ((wB.alloc (.cells #[.int .i64 5, .string ⟨#[]⟩, .int .i64 0, .slice (some ⟨w.heap.size + 1 + 1 + 1, 0, none⟩) 2 2] 24)).alloc (.cells #[.int .i64 V.k, .string V.nm, .int .i64 V.vr, .slice A V.args.length c, .int .i64 U.k, .string U.nm, .int .i64 U.vr, .slice A' U.args.length c'] 24)).heap.size = w.heap.size + 4 := by simp [HZZ.out]
  generalize (wB.alloc (.cells #[.int .i64 5, .string ⟨#[]⟩, .int .i64 0, .slice (some ⟨w.heap.size + 1 + 1 + 1, 0, none⟩) 2 2] 24)).alloc (.cells #[.int .i64 V.k, .string V.nm, .int .i64 V.vr, .slice A V.args.length c, .int .i64 U.k, .string U.nm, .int .i64 U.vr, .slice A' U.args.length c'] 24) = wE at BE hbe hsz ⊢
  obtain ⟨BE1, BE2⟩ := BE
  obtain ⟨t0, t1, t2, t3⟩ := cells4 BE1
  have hR : TRow wE any0 (some ⟨w.heap.size + 1 + 1 + 1, 0, none⟩) [V, U] := by
    refine .inr ⟨w.heap.size + 1 + 1 + 1, 0, rfl, by omega, trivial, ?_⟩
    rw [okTL, okTL, okTL, okT_eq, okT_eq]
    refine ⟨⟨by simp [World.cell?, BE2], by simp [World.cell?, BE2], by simp [World.cell?, BE2], A, c, by simp [World.cell?, BE2], hV.later hbe⟩, ⟨by simp [World.cell?, BE2], by simp [World.cell?, BE2], by simp [World.cell?, BE2], A', c', by simp [World.cell?, BE2], hU.later hbe⟩, trivial⟩
  refine bodyPost_ret (by simp [results, Tryz.results25, go_sem, t0, t1, t2, t3]; try rfl) rfl ?_
  exact ⟨_, 2, rfl, hR, hbe⟩

set_option maxRecDepth 100000 in
set_option maxHeartbeats 2000000 in
theorem ints_same {l : List Int} {A B : Option Addr} {c c2 : Nat} {w : World} (hl : l.length ≤ 2000000) (h : IRow w A l) (h2 : IRow w B l) : Calls Tryz.prog 19 #[.slice A l.length c, .slice B l.length c2] w fun e w' => e = .returned (.bool true) ∧ Below w.heap.size w w' := by
  have HR := Lib.hid h; have HR2 := Lib.hid h2
  obtain ⟨N, hN⟩ : ∃ N, N = l.length := ⟨_, rfl⟩
  have HN := Lib.hid hN
  rw [← hN] at hl ⊢
  clear h h2 hN
  go_enter Tryz.func19, Tryz.ntmps19
  go_wp2
  go_loopw [5] (fun i wr => ∃ k : Nat, k ≤ N ∧ i = .int .i64 k ∧ Hid (Below w.heap.size w wr)) (fun i _ => N - (intOf i).toNat)
  case atStart => exact ⟨0, by omega, by first | rfl | trivial, Lib.hid (Below.refl _ _)⟩
  case round =>
    obtain ⟨k, hk, rfl, HW⟩ := hrel
    by_cases hlt : k < N
    · have hlti : (k : Int) < (N : Int) := by omega
      have hlt' : k < l.length := by rw [← HN.out]; exact hlt
      obtain ⟨b, o, rfl, hb, hr⟩ : ∃ b o, A = some ⟨b, o, none⟩ ∧ b < w.heap.size ∧ ∀ j (h : j < l.length), w.cell? ⟨b, o + j, none⟩ = some (.int .i64 l[j]) := HR.out.resolve_left (by rw [← HN.out]; omega)
      obtain ⟨b2, o2, rfl, hb2, hr2⟩ : ∃ b o, B = some ⟨b, o, none⟩ ∧ b < w.heap.size ∧ ∀ j (h : j < l.length), w.cell? ⟨b, o + j, none⟩ = some (.int .i64 l[j]) := HR2.out.resolve_left (by rw [← HN.out]; omega)
      have DRN := Lib.hid (fun n => bt HW.out (bdn wr n))
      obtain ⟨x, hx⟩ : ∃ x, x = l[k] := ⟨_, rfl⟩
      have c1 : ∀ n, (wr.drewN n).cell? ⟨b, o + k, none⟩ = some (.int .i64 x) := fun n => by rw [hx]; exact ((DRN.out n).cell (p := ⟨b, o + k, none⟩) hb).trans (hr k hlt')
      have d1 : ∀ n, (wr.drewN n).cell? ⟨b2, o2 + k, none⟩ = some (.int .i64 x) := fun n => by rw [hx]; exact ((DRN.out n).cell (p := ⟨b2, o2 + k, none⟩) hb2).trans (hr2 k hlt')
      have c0 := c1 0
      have d0 := d1 0
      have qx : (x == x) = true := beq_self_eq_true x
      clear hr hr2 hx hb hb2
      go_wp2
      go_quiet (fail)
      go_wp2
      go_roundw
      case rel => exact ⟨k + 1, by omega, by go_num, Lib.hid (by first | exact DRN.out _ | exact HW.out | exact bt HW.out (bdr _))⟩
      case measure => simp [intOf]; omega
    · obtain rfl : N = k := by omega
      have hge : ¬ (N : Int) < (N : Int) := by omega
      go_wp2
      go_ret
      exact ⟨rfl, HW.out⟩
/-! ### floating allocs -/
theorem frm_drew (w : World) (R : Nat → Prop) : Frm w w.drew R := Frm.of_below (bdr w) (Nat.le_refl _) R
theorem frm_alloc (w : World) (o : Obj) (R : Nat → Prop) : Frm w (w.alloc o) R := Frm.of_below (below_alloc w o) (Nat.le_refl _) R
def Bx (w : World) (R : Nat → Prop) (b : Nat) (o : Obj) : Prop := w.heap[b]? = some o ∧ ¬ R b
theorem Bx.lt {w : World} {R : Nat → Prop} {b : Nat} {cs : Array Value} {t : TypeId} (h : Bx w R b (.cells cs t (0, 0))) : b < w.heap.size := (Array.getElem?_eq_some_iff.1 h.1).1
theorem Bx.frm {w w' : World} {R : Nat → Prop} {b : Nat} {o : Obj} (h : Bx w R b o) (f : Frm w w' R) : Bx w' R b o := ⟨(f.block b (Array.getElem?_eq_some_iff.1 h.1).1 h.2).trans h.1, h.2⟩
def Tq (w : World) (R : Nat → Prop) (A : Option Addr) (l : List TT) : Prop := TRow w (fun q => ¬ R q) A l
theorem Tq.frm {w w' : World} {R : Nat → Prop} {A : Option Addr} {l : List TT} (h : Tq w R A l) (f : Frm w w' R) : Tq w' R A l := TRow.move (fun b hb hp => ⟨f.block b hb hp, hp⟩) f.size h
theorem Tq.row {w : World} {R : Nat → Prop} {A : Option Addr} {l : List TT} (h : Tq w R A l) : TRow w any0 A l := TRow.weak h (fun _ _ _ => trivial)
def Iq (w : World) (R : Nat → Prop) (A : Option Addr) (l : List Int) : Prop := l.length = 0 ∨ ∃ b o, A = some ⟨b, o, none⟩ ∧ b < w.heap.size ∧ ¬ R b ∧ ∀ j (h : j < l.length), w.cell? ⟨b, o + j, none⟩ = some (.int .i64 l[j])
theorem Iq.frm {w w' : World} {R : Nat → Prop} {A : Option Addr} {l : List Int} (h : Iq w R A l) (f : Frm w w' R) : Iq w' R A l := by
  rcases h with h | ⟨b, o, h1, h2, h3, h4⟩
  · exact .inl h
  · exact .inr ⟨b, o, h1, Nat.lt_of_lt_of_le h2 f.size, h3, fun j hj => (World.cell?_of_block (f.block b h2 h3)).trans (h4 j hj)⟩
theorem Iq.row {w : World} {R : Nat → Prop} {A : Option Addr} {l : List Int} (h : Iq w R A l) : IRow w A l := by
  rcases h with h | ⟨b, o, h1, h2, h3, h4⟩
  · exact .inl h
  · exact .inr ⟨b, o, h1, h2, h4⟩
theorem Iq.of {w : World} {R : Nat → Prop} {A : Option Addr} {l : List Int} (h : IRow w A l) (hr : ∀ b o f, A = some ⟨b, o, f⟩ → ¬ R b) : Iq w R A l := by
  rcases h with h | ⟨b, o, h1, h2, h4⟩
  · exact .inl h
  · exact .inr ⟨b, o, h1, h2, hr b o none h1, h4⟩
/-! ### what stays beside floating allocs: Lb, the blocks made; R, what may turn -/
def Nq (wA wq : World) (R : Nat → Prop) (Lb : List Nat) : Prop := Frm wA wq R ∧ (∀ b ∈ Lb, wA.heap.size ≤ b ∧ b < wq.heap.size) ∧ ∀ q, R q → q < wA.heap.size
def Bq (wq : World) (R : Nat → Prop) (Lb : List Nat) (b : Nat) (o : Obj) : Prop := wq.heap[b]? = some o ∧ b ∈ Lb ∧ ¬ R b
def Rw (wq : World) (R : Nat → Prop) (Lb : List Nat) (A : Option Addr) (l : List TT) : Prop := TRow wq (fun q => ¬ R q ∧ q ∉ Lb) A l
def Iw (wq : World) (R : Nat → Prop) (Lb : List Nat) (A : Option Addr) (l : List Int) : Prop := l.length = 0 ∨ ∃ b o, A = some ⟨b, o, none⟩ ∧ b < wq.heap.size ∧ (¬ R b ∧ b ∉ Lb) ∧ ∀ j (h : j < l.length), wq.cell? ⟨b, o + j, none⟩ = some (.int .i64 l[j])
section
variable {wA wq wz : World} {R : Nat → Prop} {Lb : List Nat} {b : Nat} {o : Obj} {A : Option Addr} {l : List TT} {li : List Int}
theorem Nq.start (h : ∀ q, R q → q < wA.heap.size) (f : Frm wA wq R) : Nq wA wq R [] := ⟨f, fun _ h => (by cases h), h⟩
theorem Nq.call (h : Nq wA wq R Lb) (f : Frm wq wz R) : Nq wA wz R Lb := ⟨h.1.trans f, fun b hb => ⟨(h.2.1 b hb).1, Nat.lt_of_lt_of_le (h.2.1 b hb).2 f.size⟩, h.2.2⟩
theorem Bq.call (h : Bq wq R Lb b o) (f : Frm wq wz R) : Bq wz R Lb b o := ⟨(f.block b (Array.getElem?_eq_some_iff.1 h.1).1 h.2.2).trans h.1, h.2⟩
theorem Rw.call (h : Rw wq R Lb A l) (f : Frm wq wz R) : Rw wz R Lb A l := TRow.move (fun b hb hp => ⟨f.block b hb hp.1, hp⟩) f.size h
theorem Rw.row (h : Rw wq R Lb A l) : TRow wq any0 A l := TRow.weak h (fun _ _ _ => trivial)
theorem Iw.row (h : Iw wq R Lb A li) : IRow wq A li := by
  rcases h with h | ⟨b, o, h1, h2, h3, h4⟩
  · exact .inl h
  · exact .inr ⟨b, o, h1, h2, h4⟩
theorem Iw.move {R' : Nat → Prop} {Lb' : List Nat} (h : Iw wq R Lb A li) (hs : wq.heap.size ≤ wz.heap.size) (hm : ∀ b, b < wq.heap.size → ¬ R b ∧ b ∉ Lb → wz.heap[b]? = wq.heap[b]? ∧ ¬ R' b ∧ b ∉ Lb') : Iw wz R' Lb' A li := by
  rcases h with h | ⟨b, o, h1, h2, h3, h4⟩
  · exact .inl h
  · exact .inr ⟨b, o, h1, Nat.lt_of_lt_of_le h2 hs, (hm b h2 h3).2, fun j hj => (World.cell?_of_block (hm b h2 h3).1).trans (h4 j hj)⟩
theorem Iw.call (h : Iw wq R Lb A li) (f : Frm wq wz R) : Iw wz R Lb A li := h.move f.size (fun b hb hp => ⟨f.block b hb hp.1, hp⟩)
theorem Nq.fresh (n : Nq wA wq R Lb) {q : Nat} (h : wq.heap.size ≤ q) : ¬ R q ∧ q ∉ Lb :=
  ⟨fun hr => by have := n.2.2 q hr; have := n.1.size; omega, fun hm => by have := n.2.1 q hm; omega⟩
theorem Rw.new (n : Nq wA wq R Lb) (h : TRow wz (wq.heap.size ≤ ·) A l) : Rw wz R Lb A l := TRow.weak h (fun q _ hq => n.fresh hq)
theorem Rw.new2 (n : Nq wA wq R Lb) (h : TRow wz (fun q => (¬ R q ∧ q ∉ Lb) ∨ wq.heap.size ≤ q) A l) : Rw wz R Lb A l := TRow.weak h (fun q _ hq => Or.elim hq id n.fresh)
theorem Iw.new (n : Nq wA wq R Lb) (h : IRow wz A li) (hf : ∀ b o f, A = some ⟨b, o, f⟩ → wq.heap.size ≤ b) : Iw wz R Lb A li := by
  rcases h with h | ⟨b, o, h1, h2, h4⟩
  · exact .inl h
  · exact .inr ⟨b, o, h1, h2, n.fresh (hf b o none h1), h4⟩
theorem alloc_step (n : Nq wA wq R Lb) (o : Obj) : ∃ wz b, wz = wq.alloc o ∧ b = wq.heap.size ∧ Frm wq wz R ∧ Nq wA wz R (b :: Lb) ∧ (∀ cs t, o = .cells cs t → Bq wz R (b :: Lb) b (.cells cs t (0, 0))) ∧ (∀ A l, Rw wq R Lb A l → Rw wz R (b :: Lb) A l) ∧ (∀ A l, Iw wq R Lb A l → Iw wz R (b :: Lb) A l) ∧ (∀ b' o', Bq wq R Lb b' o' → Bq wz R (b :: Lb) b' o' ∧ b' ≠ b) ∧ Below wq.heap.size wq wz := by
  have bl := below_alloc wq o
  have f : Frm wq (wq.alloc o) R := Frm.of_below bl (Nat.le_refl _) R
  have hz : wq.heap.size < (wq.alloc o).heap.size := by simp
  refine ⟨_, _, rfl, rfl, f, ⟨n.1.trans f, fun q hq => ?_, n.2.2⟩, ?_, fun A l h => ?_, fun A l h => ?_, fun b' o' h => ?_, bl⟩
  · rcases List.mem_cons.1 hq with rfl | hq
    · exact ⟨n.1.size, hz⟩
    · have := n.2.1 q hq; exact ⟨this.1, by omega⟩
  · rintro cs t rfl
    exact ⟨heap_alloc_new wq _, by simp, (n.fresh (Nat.le_refl _)).1⟩
  · exact TRow.move (fun b hb hp => ⟨bl.block b hb, hp.1, fun hm => (List.mem_cons.1 hm).elim (fun e => by omega) hp.2⟩) bl.size h
  · exact h.move bl.size (fun b hb hp => ⟨bl.block b hb, hp.1, fun hm => (List.mem_cons.1 hm).elim (fun e => by omega) hp.2⟩)
  · have hlt := (Array.getElem?_eq_some_iff.1 h.1).1
    exact ⟨⟨(bl.block b' hlt).trans h.1, List.mem_cons_of_mem _ h.2.1, h.2.2⟩, by omega⟩
theorem store_any (n : Nq wA wq R Lb) (hb : b ∈ Lb) (hn : ¬ R b) (f : Frm wq wz (· = b)) : Nq wA wz R Lb ∧ (∀ A l, Rw wq R Lb A l → Rw wz R Lb A l) ∧ (∀ A l, Iw wq R Lb A l → Iw wz R Lb A l) ∧ (∀ b' o', b' ≠ b → Bq wq R Lb b' o' → Bq wz R Lb b' o') := by
  have hbl := n.2.1 b hb
  refine ⟨⟨n.1.trans' f (fun i hi e => by have : i = b := e; omega), fun q hq => ⟨(n.2.1 q hq).1, Nat.lt_of_lt_of_le (n.2.1 q hq).2 f.size⟩, n.2.2⟩, fun A l h => ?_, fun A l h => ?_, fun b' o' hne h => ?_⟩
  · exact TRow.move (fun q hq hp => ⟨f.block q hq (fun e => hp.2 (by have e : q = b := e; exact e ▸ hb)), hp⟩) f.size h
  · exact h.move f.size (fun q hq hp => ⟨f.block q hq (fun e => hp.2 (by have e : q = b := e; exact e ▸ hb)), hp⟩)
  · exact ⟨(f.block b' (Array.getElem?_eq_some_iff.1 h.1).1 hne).trans h.1, h.2⟩
theorem store4 {y0 y1 y2 y3 : Value} {t : TypeId} (n : Nq wA wq R Lb) (h : Bq wq R Lb b (.cells #[y0, y1, y2, y3] t (0, 0))) (a0 a1 a2 a3 : Value) : ∃ wz, wz = (((wq.setCell ⟨b, 0, none⟩ a0).setCell ⟨b, 1, none⟩ a1).setCell ⟨b, 2, none⟩ a2).setCell ⟨b, 3, none⟩ a3 ∧ Nq wA wz R Lb ∧ Bq wz R Lb b (.cells #[a0, a1, a2, a3] t (0, 0)) ∧ (∀ A l, Rw wq R Lb A l → Rw wz R Lb A l) ∧ (∀ A l, Iw wq R Lb A l → Iw wz R Lb A l) ∧ (∀ b' o', b' ≠ b → Bq wq R Lb b' o' → Bq wz R Lb b' o') ∧ (∀ w0 : World, Below wA.heap.size w0 wq → Below wA.heap.size w0 wz) := by
  obtain ⟨h1, h2, h3, h4⟩ := store_any n h.2.1 h.2.2 (frm4 wq b a0 a1 a2 a3)
  exact ⟨_, rfl, h1, ⟨cells_all _ _ _ _ h.1, h.2⟩, h2, h3, h4, fun w0 hb => hb.trans ((frm4 wq b a0 a1 a2 a3).below (fun q e => by have e : q = b := e; rw [e]; exact (n.2.1 b h.2.1).1) n.1.size)⟩
theorem store5 {y0 y1 y2 y3 y4 : Value} {t : TypeId} (n : Nq wA wq R Lb) (h : Bq wq R Lb b (.cells #[y0, y1, y2, y3, y4] t (0, 0))) (a0 a1 a2 a3 a4 : Value) : ∃ wz, wz = ((((wq.setCell ⟨b, 0, none⟩ a0).setCell ⟨b, 1, none⟩ a1).setCell ⟨b, 2, none⟩ a2).setCell ⟨b, 3, none⟩ a3).setCell ⟨b, 4, none⟩ a4 ∧ Nq wA wz R Lb ∧ Bq wz R Lb b (.cells #[a0, a1, a2, a3, a4] t (0, 0)) ∧ (∀ A l, Rw wq R Lb A l → Rw wz R Lb A l) ∧ (∀ A l, Iw wq R Lb A l → Iw wz R Lb A l) ∧ (∀ b' o', b' ≠ b → Bq wq R Lb b' o' → Bq wz R Lb b' o') ∧ (∀ w0 : World, Below wA.heap.size w0 wq → Below wA.heap.size w0 wz) := by
  obtain ⟨h1, h2, h3, h4⟩ := store_any n h.2.1 h.2.2 (set5_frm wq b a0 a1 a2 a3 a4)
  exact ⟨_, rfl, h1, ⟨cells_all5 _ _ _ _ _ h.1, h.2⟩, h2, h3, h4, fun w0 hb => hb.trans ((set5_frm wq b a0 a1 a2 a3 a4).below (fun q e => by have e : q = b := e; rw [e]; exact (n.2.1 b h.2.1).1) n.1.size)⟩
theorem Rw.nil (h : Rw wq R Lb A l) : Rw wq R [] A l := TRow.weak h (fun q _ hp => ⟨hp.1, by simp⟩)
theorem Iw.nil (h : Iw wq R Lb A li) : Iw wq R [] A li := h.move (Nat.le_refl _) (fun b _ hp => ⟨rfl, hp.1, by simp⟩)
end
/-! ### awake, pure -/
abbrev vF (n : Int) : TT := tF (varT n) (varT n)
theorem aw_close : closeF [] [] (vF 0) = (vF 0, [0]) := by
  have s : shp (vF 0) = true := by kernel_rfl
  unfold closeF
  rw [if_pos ⟨by kernel_rfl, fun _ h => by cases h⟩, app_nil _ s]
  have h := freeS_perm (vF 0) (takenS [] [])
  rw [show (varsOf (vF 0)).filter (fun x => decide (x ∉ takenS [] [])) = [0] by kernel_rfl] at h
  rw [List.perm_singleton.1 h]
theorem aw_sgood : sgoodT (vF 0) [0] = true := by kernel_rfl
theorem aw_open1 : openF [] 1 [0] (vF 0) = (vF 1, 2) := by
  have s : shp (vF 1) = true := by kernel_rfl
  unfold openF
  rw [if_pos aw_sgood, show renT (fN [0] 1 ([0] : List Int).length) (vF 0) = vF 1 by kernel_rfl, app_nil _ s]; rfl
theorem aw_open2 : openF [] 2 [0] (vF 0) = (vF 2, 3) := by
  have s : shp (vF 2) = true := by kernel_rfl
  unfold openF
  rw [if_pos aw_sgood, show renT (fN [0] 2 ([0] : List Int).length) (vF 0) = vF 2 by kernel_rfl, app_nil _ s]; rfl
set_option maxRecDepth 100000 in
set_option maxHeartbeats 16000000 in
theorem awake_any (w : World) : Calls Tryz.prog 4 #[] w fun e w' => e = .returned (.bool true) ∧ Below w.heap.size w w' := by
  have s1 : showT (vF 1) = ⟨#[40, 39, 97, 32, 45, 62, 32, 39, 97, 41]⟩ := by kernel_rfl
  have s0 : showT (vF 0) = ⟨#[40, 39, 97, 32, 45, 62, 32, 39, 97, 41]⟩ := by kernel_rfl
  have s3 : showT (tF (vF 1) (vF 2)) = ⟨#[40, 40, 39, 97, 32, 45, 62, 32, 39, 97, 41, 32, 45, 62, 32, 40, 39, 98, 32, 45, 62, 32, 39, 98, 41, 41]⟩ := by kernel_rfl
  have H1 := Lib.hid (fun W A c (h : TRow W any0 A (vF 1).args) => show_any (V := vF 1) (v := tv (vF 1) A c) (w := W) rfl (by kernel_rfl) ⟨A, c, rfl, h⟩)
  have H3 := Lib.hid (fun W A c (h : TRow W any0 A [vF 1, vF 2]) => show_any (V := tF (vF 1) (vF 2)) (v := tv (tF (vF 1) (vF 2)) A c) (w := W) rfl (by kernel_rfl) ⟨A, c, rfl, h⟩)
  have H0 := Lib.hid (fun W Al ca A c (h : TRow W any0 A (vF 0).args) => sshow_any (V := vF 0) (Al := Al) (m := 1) (ca := ca) (c := c) (w := W) rfl (by kernel_rfl) h)
  have HG := Lib.hid (fun W Al ca A c (ha : IRow W Al [0]) (h : TRow W any0 A (vF 0).args) => sgood_any (d := 7) (V := vF 0) (all := [0]) (Al := Al) (ca := ca) (c := c) (w := W) (Nat.le_refl _) rfl (by decide) ha h)
  rw [s1] at H1
  rw [s0] at H0
  rw [s3] at H3
  rw [aw_sgood] at HG
  clear s0 s1 s3
  unfold scv at HG H0
  unfold tv at H1 H3
  go_enter Tryz.func4, Tryz.ntmps4
  go_wp2_with fail
  refine (news_any (Pr := fun _ => False) (fun _ h => h) _).mono ?_; rintro e w1 ⟨rfl, s1, b1⟩
  obtain ⟨sb, hsb⟩ : ∃ z, z = w.heap.size := ⟨_, rfl⟩
  rw [← hsb] at s1 ⊢
  have HSB := Lib.hid (show sb = w.heap.size ∧ sb < w1.heap.size from ⟨hsb, s1.slt⟩)
  have S1 := Lib.hid s1
  have BN := Lib.hid (show Below sb w w1 by rw [hsb]; exact b1)
  clear s1 b1 hsb
  go_wp2_with fail
  refine (freshS2 (n := 0) (m := 1) (by omega) (by omega) rfl S1.out).mono ?_; rintro e w2 ⟨rfl, s2, f2⟩
  have S2 := Lib.hid s2
  have B2 := Lib.hid (show Below sb w w2 from BN.out.trans (f2.below (fun q hq => Nat.le_of_eq hq.symm) (Nat.le_of_lt HSB.out.2)))
  have Z2 := Lib.hid (show sb < w2.heap.size from Nat.lt_of_lt_of_le HSB.out.2 f2.size)
  obtain ⟨w3, hw3⟩ : ∃ z, z = w2.alloc (.cells #[.int .i64 7, .string ⟨#[]⟩, .int .i64 0, .slice none 0 0] 24) := ⟨_, rfl⟩
  have X3 := Lib.hid (show w3.heap[w2.heap.size]? = some (.cells #[.int .i64 7, .string ⟨#[]⟩, .int .i64 0, .slice none 0 0] 24 (0, 0)) by rw [hw3]; exact heap_alloc_new w2 _)
  have B3 := Lib.hid (show Below w2.heap.size w2 w3 by rw [hw3]; exact below_alloc _ _)
  have HW3 := Lib.hid hw3
  obtain ⟨x0, x1, x2, x3⟩ := cells4 X3.out
  clear s2 f2 hw3
  rw [show tv (varT 0) none 0 = .agg #[.int .i64 7, .string ⟨#[]⟩, .int .i64 0, .slice none 0 0] from rfl]
  go_wp2_with fail
  try rw [← HW3.out]
  try go_wp2_with fail
  refine (fun_any (V := varT 0) (U := varT 0) (A := none) (c := 0) (A' := none) (c' := 0) (.inl rfl) (.inl rfl)).mono ?_; rintro e w4 ⟨A4, c4, rfl, r4, b4⟩
  have B4 := Lib.hid (bt B3.out b4)
  have CL := Lib.hid (close_st (V := vF 0) (v := tv (vF 0) A4 c4) (sb := sb) (ce := 0) (Ae := none) (E := []) (Pr := fun _ => False) (B := sb) (n := 1) (w := w4) (.inl rfl) (fun _ h => by cases h) (by simp) rfl sinv2_nil (S2.out.later B4.out) ⟨A4, c4, rfl, r4⟩)
  rw [aw_close] at CL
  rw [show tv (vF 0) A4 c4 = .agg #[.int .i64 5, .string ⟨#[]⟩, .int .i64 0, .slice A4 2 c4] from rfl] at CL ⊢
  clear r4 b4 x0 x1 x2 x3
  go_wp2_with fail
  refine CL.out.mono ?_; rintro e w5 ⟨Al, ca, A5, c5, rfl, i5, n5, t5, b5⟩
  have Z4 := Lib.hid (show sb < w4.heap.size by have := B4.out.size; have := Z2.out; omega)
  obtain ⟨wA, hwA⟩ : ∃ z, z = w5.alloc (.cells #[.slice Al 1 ca, .int .i64 5, .string ⟨#[]⟩, .int .i64 0, .slice A5 2 c5] SchT) := ⟨_, rfl⟩
  have h5 : Below w5.heap.size w5 wA := by rw [hwA]; exact below_alloc _ _
  have XA := Lib.hid (show Bx wA (· = sb) w5.heap.size (.cells #[.slice Al 1 ca, .int .i64 5, .string ⟨#[]⟩, .int .i64 0, .slice A5 2 c5] SchT (0, 0)) from ⟨by rw [hwA]; exact heap_alloc_new w5 _, by have := b5.size; have := Z4.out; show ¬ w5.heap.size = sb; omega⟩)
  have IA := Lib.hid ((Iq.of i5 (R := (· = sb)) (fun b o f e => by have := n5 b o f e; have := Z4.out; show ¬ b = sb; omega)).frm (Frm.of_below h5 (Nat.le_refl _) _))
  have TA := Lib.hid (Tq.frm (R := (· = sb)) (show Tq w5 (· = sb) A5 (vF 0).args from t5.weak (fun q _ (hq : _ ≤ q) => by have := Z4.out; show ¬ q = sb; omega)) (Frm.of_below h5 (Nat.le_refl _) _))
  have BA := Lib.hid (show Below sb w wA from B2.out.trans ((bt (bt B4.out b5) h5).mono (Nat.le_of_lt Z2.out)))
  have SA := Lib.hid (show SubS wA (fun _ => False) sb sb 1 [] from S2.out.later (bt (bt B4.out b5) h5))
  have ZA := Lib.hid (show sb < wA.heap.size by have := Z4.out; have := b5.size; have := h5.size; omega)
  have HWA := Lib.hid hwA
  have C1 := Lib.hid (fun W (hS : SubS W (fun _ => False) sb sb 1 []) (hF : Frm wA W (· = sb)) => open_st (V := vF 0) (all := [0]) (Al := Al) (A := A5) (ca := ca) (c := c5) (n := 1) (Pr := fun _ => False) rfl (by decide) (by omega) (by omega) sinv2_nil hS (fun w' f => (IA.out.frm (hF.trans f)).row) (fun w' f => (TA.out.frm (hF.trans f)).row))
  have C2 := Lib.hid (fun W (hS : SubS W (fun _ => False) sb sb 2 []) (hF : Frm wA W (· = sb)) => open_st (V := vF 0) (all := [0]) (Al := Al) (A := A5) (ca := ca) (c := c5) (n := 2) (Pr := fun _ => False) rfl (by decide) (by omega) (by omega) sinv2_nil hS (fun w' f => (IA.out.frm (hF.trans f)).row) (fun w' f => (TA.out.frm (hF.trans f)).row))
  rw [aw_open1] at C1
  rw [aw_open2] at C2
  obtain ⟨bc, hbc⟩ : ∃ b, b = w5.heap.size := ⟨_, rfl⟩
  rw [show scv Al ([0] : List Int).length ca (vF 0) A5 c5 = .agg #[.slice Al 1 ca, .int .i64 5, .string ⟨#[]⟩, .int .i64 0, .slice A5 2 c5] from rfl] at C1 C2 ⊢
  clear i5 n5 t5 b5 h5 hwA CL
  go_upto_region 6 with (fail)
  try rw [← HWA.out, ← hbc]
  rw [← hbc] at XA
  clear hbc HWA
  go_cut [4, 5] (fun p4 p5 wx => ∃ (b4 b5 : Nat) (A1 A2 : Option Addr) (c1 c2 : Nat), p4 = .pointer (some ⟨b4, 0, none⟩) ∧ p5 = .pointer (some ⟨b5, 0, none⟩) ∧ Hid (wx.heap[b4]? = some (.cells #[.int .i64 5, .string ⟨#[]⟩, .int .i64 0, .slice A1 2 c1] 24 (0, 0))) ∧ Hid (wx.heap[b5]? = some (.cells #[.int .i64 5, .string ⟨#[]⟩, .int .i64 0, .slice A2 2 c2] 24 (0, 0))) ∧ Hid (TRow wx any0 A1 (vF 1).args) ∧ Hid (TRow wx any0 A2 (vF 2).args) ∧ Hid (Frm wA wx (· = sb)))
  case first =>
    refine wp_region_D [8, 9] (fun w' => Frm wA w' (· = sb)) (by kernel_rfl) (frm_drew wA _) (fun hHeld => ?_)
    refine WDs 0 ⟨some 16, .move (.tmp 1), 31, _, #[], none⟩ ?va0 ?hya0 hHeld ?_
    case hya0 => (intro wz hSw; (try dsimp only at hSw); go_simp; try with_reducible rfl)
    (try simp only [putz])
    refine WDs 1 ⟨some 17, .load 28 (.tmp 3), 28, _, #[], none⟩ ?va1 ?hya1 hHeld ?_
    case hya1 => (intro wz hSw; (try dsimp only at hSw); obtain ⟨q0, q1, q2, q3, q4⟩ := five5 (XA.out.frm hSw).1; go_simp; try with_reducible rfl)
    (try simp only [putz])
    refine WDs 3 ⟨some 19, .move (.tmp 1), 31, _, #[], none⟩ ?va3 ?hya3 hHeld ?_
    case hya3 => (intro wz hSw; (try dsimp only at hSw); go_simp; try with_reducible rfl)
    (try simp only [putz])
    refine WDs 4 ⟨some 20, .load 28 (.tmp 3), 28, _, #[], none⟩ ?va4 ?hya4 hHeld ?_
    case hya4 => (intro wz hSw; (try dsimp only at hSw); obtain ⟨q0, q1, q2, q3, q4⟩ := five5 (XA.out.frm hSw).1; go_simp; try with_reducible rfl)
    (try simp only [putz])
    have ST := SA.out.later (bdr wA)
    have NQ := Nq.start (R := (· = sb)) (wA := wA) (fun q hq => by have := ZA.out; have : q = sb := hq; omega) (frm_drew wA _)
    obtain ⟨wd, hwd⟩ : ∃ z, z = wA.drew := ⟨_, rfl⟩
    rw [← hwd] at ST NQ hHeld ⊢
    clear hwd
    repeat' first
      | refine WD_ready (rs := [2, 6, 7]) (by decide +kernel) (by simp) (AllD.cons rfl (fun K hK => ?_) (AllD.cons rfl (fun K hK => ?_) (AllD.cons rfl (fun K hK => ?_) AllD.nil)))
      | refine WD_ready (rs := [2, 6]) (by decide +kernel) (by simp) (AllD.cons rfl (fun K hK => ?_) (AllD.cons rfl (fun K hK => ?_) AllD.nil))
      | refine WD_ready (rs := [2, 7]) (by decide +kernel) (by simp) (AllD.cons rfl (fun K hK => ?_) (AllD.cons rfl (fun K hK => ?_) AllD.nil))
      | refine WD_ready (rs := [2]) (by decide +kernel) (by simp) (AllD.cons rfl (fun K hK => ?_) AllD.nil)
      | refine WD_ready (rs := [5, 6, 7]) (by decide +kernel) (by simp) (AllD.cons rfl (fun K hK => ?_) (AllD.cons rfl (fun K hK => ?_) (AllD.cons rfl (fun K hK => ?_) AllD.nil)))
      | refine WD_ready (rs := [5, 6]) (by decide +kernel) (by simp) (AllD.cons rfl (fun K hK => ?_) (AllD.cons rfl (fun K hK => ?_) AllD.nil))
      | refine WD_ready (rs := [5, 7]) (by decide +kernel) (by simp) (AllD.cons rfl (fun K hK => ?_) (AllD.cons rfl (fun K hK => ?_) AllD.nil))
      | refine WD_ready (rs := [5]) (by decide +kernel) (by simp) (AllD.cons rfl (fun K hK => ?_) AllD.nil)
      | refine WD_ready (rs := [6, 7]) (by decide +kernel) (by simp) (AllD.cons rfl (fun K hK => ?_) (AllD.cons rfl (fun K hK => ?_) AllD.nil))
      | refine WD_ready (rs := [6]) (by decide +kernel) (by simp) (AllD.cons rfl (fun K hK => ?_) AllD.nil)
      | refine WD_ready (rs := [7]) (by decide +kernel) (by simp) (AllD.cons rfl (fun K hK => ?_) AllD.nil)
      | (rw [if_pos (by rfl)]
         go_simp
         first
         | (refine (C1.out _ ST hHeld).mono ?_; rintro e wz ⟨A1, c1, rfl, r1, s1, fz⟩
            have X1 := Rw.new NQ r1
            replace ST := s1
            clear r1 s1
            unfold tv
            refine hK.out _ _ (hHeld.trans fz) (fun hHeld => ?_)
            clear hK K
            (try simp only [putz])
            (try replace X1 := X1.call fz)
            (try replace X2 := X2.call fz)
            (try replace PA := PA.call fz)
            (try replace PB := PB.call fz)
            replace NQ := NQ.call fz
            clear fz)
         | (refine (C2.out _ ST hHeld).mono ?_; rintro e wz ⟨A2, c2, rfl, r2, s2, fz⟩
            have X2 := Rw.new NQ r2
            replace ST := s2
            clear r2 s2
            unfold tv
            refine hK.out _ _ (hHeld.trans fz) (fun hHeld => ?_)
            clear hK K
            (try simp only [putz])
            (try replace X1 := X1.call fz)
            (try replace X2 := X2.call fz)
            (try replace PA := PA.call fz)
            (try replace PB := PB.call fz)
            replace NQ := NQ.call fz
            clear fz)
         | (obtain ⟨wz, bz, hwz, hbz, fz, nz, pz, rz, iz, qz, blz⟩ := alloc_step NQ (.cells #[.int .i64 0, .string ⟨#[]⟩, .int .i64 0, .slice none 0 0] 24)
            rw [← hwz]
            (try rw [← hbz])
            clear hwz hbz
            refine hK.out _ _ (hHeld.trans fz) (fun hHeld => ?_)
            clear hK K
            (try simp only [putz])
            (try replace X1 := rz _ _ X1)
            (try replace X2 := rz _ _ X2)
            (try (have NE := (qz _ _ PA).2; replace PA := (qz _ _ PA).1))
            (try (have NE := (qz _ _ PB).2; replace PB := (qz _ _ PB).1))
            (try replace ST := ST.later blz)
            first | ((fail_if_success (have := PA)); (have PA := pz _ _ rfl)) | have PB := pz _ _ rfl
            replace NQ := nz
            clear fz rz iz qz blz))
    all_goals first
      | (
        refine WD_ready (rs := [8]) (by decide +kernel) (by simp) (AllD.last rfl (by kernel_rfl) (fun K hK => ?_) AllD.nil)
        rw [if_pos (by rfl)]
        have z0 := (PA).1
        obtain ⟨y0, y1, y2, y3⟩ := cells4 z0
        have k0 := froz5 z0 0
        have k1 := froz5 z0 1
        have k2 := froz5 z0 2
        have k3 := froz5 z0 3
        go_simp
        obtain ⟨wz, hwz, nz, pz, rz, iz, qz, hz⟩ := store4 NQ PA (.int .i64 (vF 1).k) (.string (vF 1).nm) (.int .i64 (vF 1).vr) (.slice A1 (vF 1).args.length c1)
        rw [← hwz]
        clear hwz y0 y1 y2 y3 k0 k1 k2 k3 z0
        refine hK.out _ _ ?_
        clear hK K
        (try simp only [putz])
        replace X1 := rz _ _ X1
        replace X2 := rz _ _ X2
        replace PB := qz _ _ (by first | exact NE | exact Ne.symm NE) PB
        replace PA := pz
        replace NQ := nz
        (try replace hHeld := hz _ hHeld)
        clear rz iz qz hz
        refine WD_ready (rs := [9]) (by decide +kernel) (by simp) (AllD.last rfl (by kernel_rfl) (fun K hK => ?_) AllD.nil)
        rw [if_pos (by rfl)]
        have z0 := (PB).1
        obtain ⟨y0, y1, y2, y3⟩ := cells4 z0
        have k0 := froz5 z0 0
        have k1 := froz5 z0 1
        have k2 := froz5 z0 2
        have k3 := froz5 z0 3
        go_simp
        obtain ⟨wz, hwz, nz, pz, rz, iz, qz, hz⟩ := store4 NQ PB (.int .i64 (vF 2).k) (.string (vF 2).nm) (.int .i64 (vF 2).vr) (.slice A2 (vF 2).args.length c2)
        rw [← hwz]
        clear hwz y0 y1 y2 y3 k0 k1 k2 k3 z0
        refine hK.out _ _ ?_
        clear hK K
        (try simp only [putz])
        replace X1 := rz _ _ X1
        replace X2 := rz _ _ X2
        replace PA := qz _ _ (by first | exact NE | exact Ne.symm NE) PA
        replace PB := pz
        replace NQ := nz
        (try replace hHeld := hz _ hHeld)
        clear rz iz qz hz
        refine WD_done (by kernel_rfl) ?_ _
        go_wp2
        go_meet
        case rel => exact ⟨_, _, A1, A2, c1, c2, rfl, rfl, Lib.hid PA.1, Lib.hid PB.1, Lib.hid (Rw.row X1), Lib.hid (Rw.row X2), Lib.hid NQ.1⟩
        )
      | (
        refine WD_ready (rs := [8]) (by decide +kernel) (by simp) (AllD.last rfl (by kernel_rfl) (fun K hK => ?_) AllD.nil)
        rw [if_pos (by rfl)]
        have z0 := (PB).1
        obtain ⟨y0, y1, y2, y3⟩ := cells4 z0
        have k0 := froz5 z0 0
        have k1 := froz5 z0 1
        have k2 := froz5 z0 2
        have k3 := froz5 z0 3
        go_simp
        obtain ⟨wz, hwz, nz, pz, rz, iz, qz, hz⟩ := store4 NQ PB (.int .i64 (vF 1).k) (.string (vF 1).nm) (.int .i64 (vF 1).vr) (.slice A1 (vF 1).args.length c1)
        rw [← hwz]
        clear hwz y0 y1 y2 y3 k0 k1 k2 k3 z0
        refine hK.out _ _ ?_
        clear hK K
        (try simp only [putz])
        replace X1 := rz _ _ X1
        replace X2 := rz _ _ X2
        replace PA := qz _ _ (by first | exact NE | exact Ne.symm NE) PA
        replace PB := pz
        replace NQ := nz
        (try replace hHeld := hz _ hHeld)
        clear rz iz qz hz
        refine WD_ready (rs := [9]) (by decide +kernel) (by simp) (AllD.last rfl (by kernel_rfl) (fun K hK => ?_) AllD.nil)
        rw [if_pos (by rfl)]
        have z0 := (PA).1
        obtain ⟨y0, y1, y2, y3⟩ := cells4 z0
        have k0 := froz5 z0 0
        have k1 := froz5 z0 1
        have k2 := froz5 z0 2
        have k3 := froz5 z0 3
        go_simp
        obtain ⟨wz, hwz, nz, pz, rz, iz, qz, hz⟩ := store4 NQ PA (.int .i64 (vF 2).k) (.string (vF 2).nm) (.int .i64 (vF 2).vr) (.slice A2 (vF 2).args.length c2)
        rw [← hwz]
        clear hwz y0 y1 y2 y3 k0 k1 k2 k3 z0
        refine hK.out _ _ ?_
        clear hK K
        (try simp only [putz])
        replace X1 := rz _ _ X1
        replace X2 := rz _ _ X2
        replace PB := qz _ _ (by first | exact NE | exact Ne.symm NE) PB
        replace PA := pz
        replace NQ := nz
        (try replace hHeld := hz _ hHeld)
        clear rz iz qz hz
        refine WD_done (by kernel_rfl) ?_ _
        go_wp2
        go_meet
        case rel => exact ⟨_, _, A1, A2, c1, c2, rfl, rfl, Lib.hid PB.1, Lib.hid PA.1, Lib.hid (Rw.row X1), Lib.hid (Rw.row X2), Lib.hid NQ.1⟩
        )
  case rest =>
    obtain ⟨b4, b5, A1, A2, c1, c2, rfl, rfl, X4, X5, R1, R2, FX⟩ := hcut
    have BX := Lib.hid (show Below w.heap.size w wc from HSB.out.1 ▸ BA.out.trans (FX.out.below (fun q hq => Nat.le_of_eq hq.symm) (Nat.le_of_lt ZA.out)))
    have XC := Lib.hid (XA.out.frm FX.out).1
    have IC := Lib.hid (IA.out.frm FX.out).row
    have TC := Lib.hid (TA.out.frm FX.out).row
    have LC := Lib.hid (show bc < wc.heap.size ∧ b4 < wc.heap.size ∧ b5 < wc.heap.size from ⟨(Array.getElem?_eq_some_iff.1 XC.out).1, (Array.getElem?_eq_some_iff.1 X4.out).1, (Array.getElem?_eq_some_iff.1 X5.out).1⟩)
    have K4 := Lib.hid (fun W (hW : Below wc.heap.size wc W) => cells4 ((hW.block b4 LC.out.2.1).trans X4.out))
    have K5 := Lib.hid (fun W (hW : Below wc.heap.size wc W) => cells4 ((hW.block b5 LC.out.2.2).trans X5.out))
    have KC := Lib.hid (fun W (hW : Below wc.heap.size wc W) => five5 ((hW.block bc LC.out.1).trans XC.out))
    obtain ⟨f0, f1, f2, f3, f4⟩ := five5 XC.out
    obtain ⟨wd, hwd⟩ : ∃ z, z = wc.alloc (.cells #[.int .i64 0] 3) := ⟨_, rfl⟩
    have BD := Lib.hid (show Below wc.heap.size wc wd by rw [hwd]; exact below_alloc _ _)
    have ID := Lib.hid (show IRow wd (some ⟨wc.heap.size, 0, none⟩) [0] from .inr ⟨_, 0, rfl, by rw [hwd]; simp, fun j hj => by
      have hj0 : j = 0 := by simpa using hj
      subst hj0
      have h2 : wd.heap[wc.heap.size]? = some (.cells #[.int .i64 0] 3 (0, 0)) := by rw [hwd]; exact heap_alloc_new wc _
      simp [World.cell?, h2]⟩)
    have HWD := Lib.hid hwd
    clear hwd XA IA TA X4 X5 XC FX C1 C2 SA BA B2 B3 B4 S1 S2 BN X3 HW3
    go_wp2_with fail
    try rw [← HWD.out]
    try go_wp2_with fail
    refine (ints_same (l := [0]) (c := ca) (c2 := 1) (by decide) (IC.out.later BD.out) ID.out).mono ?_; rintro e w6 ⟨rfl, b9⟩
    have B6 := Lib.hid (bt BD.out b9)
    clear b9 f0 f1 f2 f3 f4
    obtain ⟨f0, f1, f2, f3⟩ := K4.out _ B6.out
    go_wp2_with fail
    refine (H1.out _ _ _ (R1.out.later B6.out)).mono ?_; rintro e w7 ⟨rfl, b9⟩
    have B7 := Lib.hid (bt B6.out b9)
    clear b9 f0 f1 f2 f3
    obtain ⟨f0, f1, f2, f3⟩ := K4.out _ B7.out
    obtain ⟨g0, g1, g2, g3⟩ := K5.out _ B7.out
    go_wp2_with fail
    refine (fun_any (V := vF 1) (U := vF 2) (A := A1) (c := c1) (A' := A2) (c' := c2) (R1.out.later B7.out) (R2.out.later B7.out)).mono ?_; rintro e w8 ⟨A8, c8, rfl, r9, b9⟩
    have B8 := Lib.hid (bt B7.out b9)
    have R8 := Lib.hid r9
    clear r9 b9 f0 f1 f2 f3 g0 g1 g2 g3
    rw [show tv (tF (vF 1) (vF 2)) A8 c8 = .agg #[.int .i64 5, .string ⟨#[]⟩, .int .i64 0, .slice A8 2 c8] from rfl]
    go_wp2_with fail
    refine (H3.out _ A8 c8 R8.out).mono ?_; rintro e w9 ⟨rfl, b9⟩
    have B9 := Lib.hid (bt B8.out b9)
    clear b9
    obtain ⟨f0, f1, f2, f3, f4⟩ := KC.out _ B9.out
    go_wp2_with fail
    refine (HG.out _ Al ca A5 c5 (IC.out.later B9.out) (TC.out.later B9.out)).mono ?_; rintro e w10 ⟨rfl, b9⟩
    have B10 := Lib.hid (bt B9.out b9)
    clear b9 f0 f1 f2 f3 f4
    obtain ⟨f0, f1, f2, f3, f4⟩ := KC.out _ B10.out
    go_wp2_with fail
    refine (H0.out _ Al ca A5 c5 (TC.out.later B10.out)).mono ?_; rintro e w11 ⟨rfl, b9⟩
    have B11 := Lib.hid (bt B10.out b9)
    clear b9 f0 f1 f2 f3 f4
    go_wp2
    go_ret
    exact ⟨rfl, bt BX.out B11.out⟩
end Go.Proofs.YtifopogkbjhkjaaGreatDoor
