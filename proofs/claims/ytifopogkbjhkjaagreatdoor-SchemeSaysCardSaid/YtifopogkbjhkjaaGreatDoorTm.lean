import Derived.Test.YtifopogkbjhkjaaGreatDoorTk
import Derived.Test.YtifopogkbjhkjaaGreatDoorDr
namespace Go.Proofs.YtifopogkbjhkjaaGreatDoor
open DR
open Go.ChangeShapes Go.WideShapes Go.ChangeAt Go.RowKit Go.WideMaps
set_option linter.unusedVariables false
set_option linter.unusedSimpArgs false
theorem infoI : (Tryz.prog.info? 3).map (fun i => (i.zero, i.size, i.bytes)) = some (some (.int .i64 0), 1, 8) := by kernel_rfl
def ivs (l : List Int) : List Value := l.map (.int .i64)
theorem ivs_len (l : List Int) : (ivs l).length = l.length := by simp [ivs]
theorem ivs_app (a b : List Int) : ivs (a ++ b) = ivs a ++ ivs b := by simp [ivs]
/-- where each variable stands. -/
def posV : List Int → Int → Nat
  | [], _ => 0
  | a :: r, x => if a = x then 0 else posV r x + 1
theorem posV_lt : ∀ {l : List Int} {x : Int}, x ∈ l → posV l x < l.length
  | a :: r, x, h => by
    rw [posV]
    split
    · simp
    · rename_i hn
      rcases List.mem_cons.1 h with e | h
      · exact absurd e.symm hn
      · have := posV_lt h; simp; omega
theorem posV_app : ∀ {l : List Int} {x : Int} (m : List Int), x ∈ l → posV (l ++ m) x = posV l x
  | a :: r, x, m, h => by
    rw [List.cons_append, posV, posV]
    split
    · rfl
    · rename_i hn
      rcases List.mem_cons.1 h with e | h
      · exact absurd e.symm hn
      · rw [posV_app m h]
theorem posV_new : ∀ {l : List Int} {x : Int}, x ∉ l → posV (l ++ [x]) x = l.length
  | [], x, _ => by simp [posV]
  | a :: r, x, h => by
    rw [List.cons_append, posV, if_neg (fun e => h (by simp [e])), posV_new (fun e => h (by simp [e]))]; rfl
def idxF (l : List Int) (x : Int) : Option Int := if x ∈ l then some ((posV l x : Nat) + 1 : Int) else none
def addV (l : List Int) (x : Int) : List Int := if x ∈ l then l else l ++ [x]
theorem idxF_add {l : List Int} {x : Int} (h : x ∉ l) : idxF (l ++ [x]) = putF (idxF l) x (l.length + 1 : Nat) := by
  funext z
  unfold putF
  by_cases e : z = x
  · subst e
    rw [if_pos rfl, idxF, if_pos (by simp), posV_new h]
    rfl
  · rw [if_neg e]
    unfold idxF
    by_cases hz : z ∈ l
    · rw [if_pos hz, if_pos (by simp [hz]), posV_app _ hz]
    · rw [if_neg hz, if_neg (by simp [hz, e])]
/-- the visitor. -/
structure VS (w : World) (B R M : Nat) (l : List Int) (f : Int → Option Int) (n : Nat) (vv tv : Value) (ts : List Value) : Prop where
  obj : w.heap[R]? = some (.cells #[.map (some M), vv, tv] 83 (0, 0))
  vars : w.ownsRow B TI 1 vv l.length (ivs l)
  text : w.ownsRow B 5 1 tv ts.length ts
  mp : MN w M n f
  le : B ≤ R ∧ B ≤ M
def VSt (w0 w : World) (R M : Nat) (l : List Int) (ts : List Value) : Prop := ∃ vv tv, VS w w0.heap.size R M l (idxF l) l.length vv tv ts ∧ Below w0.heap.size w0 w
section
variable {w w' : World} {B R M : Nat} {l : List Int} {f : Int → Option Int} {n : Nat} {vv tv : Value} {ts : List Value}
theorem VS.rlt (h : VS w B R M l f n vv tv ts) : R < w.heap.size := (Array.getElem?_eq_some_iff.1 h.obj).1
theorem VS.cells (h : VS w B R M l f n vv tv ts) : w.cell? ⟨R, 0, none⟩ = some (.map (some M)) ∧ w.cell? ⟨R, 1, none⟩ = some vv ∧ w.cell? ⟨R, 2, none⟩ = some tv ∧ (∀ j, w.frozen? ⟨R, j, none⟩ = false) := by
  have := h.obj
  simp [World.cell?, World.frozen?, this]
theorem VS.apart (h : VS w B R M l f n vv tv ts) : vv.ownBlock ≠ some R ∧ tv.ownBlock ≠ some R ∧ vv.ownBlock ≠ some M ∧ tv.ownBlock ≠ some M ∧ R ≠ M ∧ ∀ k, vv.ownBlock = some k → tv.ownBlock ≠ some k := by
  refine ⟨fun e => ?_, fun e => ?_, fun e => ?_, fun e => ?_, fun e => ?_, fun k e1 e2 => ?_⟩
  · obtain ⟨cur, hc⟩ := own_type h.vars e
    rw [h.obj] at hc; injection hc with hc; injection hc with _ hc; cases hc
  · obtain ⟨cur, hc⟩ := own_type h.text e
    rw [h.obj] at hc; injection hc with hc; injection hc with _ hc; cases hc
  · obtain ⟨cur, hc⟩ := own_type h.vars e
    exact h.mp.no_row hc
  · obtain ⟨cur, hc⟩ := own_type h.text e
    exact h.mp.no_row hc
  · exact h.mp.no_row (e ▸ h.obj)
  · obtain ⟨cur, hc⟩ := own_type h.vars e1
    obtain ⟨cur2, hc2⟩ := own_type h.text e2
    rw [hc] at hc2; injection hc2 with hc2; injection hc2 with _ hc2; cases hc2
theorem VS.below (h : VS w B R M l f n vv tv ts) (hb : Below w.heap.size w w') : VS w' B R M l f n vv tv ts :=
  ⟨(hb.block R h.rlt).trans h.obj, own_bl h.vars hb, own_bl h.text hb, h.mp.below hb, h.le⟩
end
theorem VSt.below {w0 w w' : World} {R M : Nat} {l : List Int} {ts : List Value} (h : VSt w0 w R M l ts) (hb : Below w.heap.size w w') : VSt w0 w' R M l ts := by
  obtain ⟨vv, tv, s, b⟩ := h
  exact ⟨vv, tv, s.below hb, b.trans (hb.mono b.size)⟩
set_option maxRecDepth 100000 in
set_option maxHeartbeats 4000000 in
theorem meet_old {w0 w : World} {R M : Nat} {l : List Int} {ts : List Value} (x : Int) (h0 : 0 ≤ x) (h1 : x ≤ 1999) (hx : x ∈ l) (hl : l.length ≤ 100000) (s : VSt w0 w R M l ts) :
    Calls Tryz.prog 71 #[.pointer (some ⟨R, 0, none⟩), .int .i64 x] w fun e w' => e = .returned (.int .i64 ((posV (addV l x) x : Nat) + 1 : Int)) ∧ Hid (VSt w0 w' R M (addV l x) ts) ∧ Hid (KeepT w w') ∧ Hid (w'.cell? ⟨R, 2, none⟩ = w.cell? ⟨R, 2, none⟩) := by
  have HS := Lib.hid s
  have ea : addV l x = l := if_pos hx
  rw [ea]
  obtain ⟨vv, tv, v, b⟩ := s
  obtain ⟨D, hown, hD, hhas, hat⟩ := v.mp
  have hkey := Maps.keyOf_int_mk (P := Tryz.prog) Tryz.underlying3 (wf_int (show -9223372036854775808 ≤ x by omega) (by omega))
  have hh : Maps.has D (.int .i64 x) = true := by rw [hhas x]; unfold idxF; rw [if_pos hx]; rfl
  obtain ⟨y, hy⟩ : ∃ y : Nat, y = posV l x := ⟨_, rfl⟩
  have hyl : y < l.length := by rw [hy]; exact posV_lt hx
  have CLY : Hid (∀ cc : Int, D.atKey (.int .i64 x) (.lit (.int .i64 0)) = .lit (.int .i64 cc) → cc = (y : Int) + 1) := Lib.hid (fun cc hcc => mn_found (hat x ((y : Int) + 1) (by unfold idxF; rw [if_pos hx, hy])) hcc)
  obtain ⟨c0, c1, c2, f0⟩ := v.cells
  rw [← hy]
  have HY9 : (y : Int) + 1 ≤ 200000 := by omega
  clear ea hy v b hhas hat hD hx f0 c1 c2
  go_enter Tryz.func71, Tryz.ntmps71
  go_wp2_with (first
    | (at_lookup; refine wpList_lookup_own_ok_int _ rfl _ _ 70 rfl TI TI .i64 law3 Tryz.underlying70 Tryz.underlying3 (zero3 _) M l.length D rfl hown _ _ rfl hkey ?_; intro cL hatc hwc; rw [hh]; obtain rfl := CLY.out cL hatc; clear hatc hwc CLY)
    | fail)
  go_wp2
  go_ret
  exact ⟨rfl, HS, Lib.hid (KeepT.refl _), Lib.hid rfl⟩
/-- a variable is added to the row. -/
theorem vs_app {w w2 : World} {B R M g cap N n : Nat} {l : List Int} {f : Int → Option Int} {vv tv : Value} {ts : List Value} {x : Int} (hN : N = l.length) (s : VS w B R M l f n vv tv ts) (b2 : (w.alloc (.cells #[.int .i64 x] TI)).grownBy w2 vv.ownBlock)
    (own2 : w2.ownsRow B TI 1 (.slice (some ⟨g, 0, none⟩) (N + 1) cap) (N + 1) (ivs l ++ [.int .i64 x])) (hB : B ≤ w.heap.size) :
    w2.heap[R]? = some (.cells #[.map (some M), vv, tv] 83 (0, 0)) ∧ VS (w2.setCell ⟨R, 1, none⟩ (.slice (some ⟨g, 0, none⟩) (N + 1) cap)) B R M (l ++ [x]) f n (.slice (some ⟨g, 0, none⟩) (N + 1) cap) tv ts ∧ Below B w (w2.setCell ⟨R, 1, none⟩ (.slice (some ⟨g, 0, none⟩) (N + 1) cap)) ∧ KeepT w (w2.setCell ⟨R, 1, none⟩ (.slice (some ⟨g, 0, none⟩) (N + 1) cap)) := by
  obtain ⟨a1, a2, a3, a4, a5, a6⟩ := s.apart
  have fr : Frm w w2 (fun k => vv.ownBlock = some k) := (Frm.of_below (below_alloc w _) (Nat.le_refl _) _).trans (Frm.of_grown b2 (fun k h => h))
  have hobj := (fr.block R s.rlt a1).trans s.obj
  have fs : Frm w2 (w2.setCell ⟨R, 1, none⟩ (.slice (some ⟨g, 0, none⟩) (N + 1) cap)) (· = R) := frm_set 1 _ rfl
  have htr : ∀ k, tv.ownBlock = some k → ¬ vv.ownBlock = some k := fun k h e => a6 k e h
  have hgR : (Value.slice (some ⟨g, 0, none⟩) (N + 1) cap).ownBlock ≠ some R := fun e => by
    obtain ⟨cur, hc⟩ := own_type own2 e
    rw [hobj] at hc; injection hc with hc; injection hc with _ hc; cases hc
  refine ⟨hobj, ⟨by simp [World.setCell, Array.getElem?_modify, hobj], ?_, ?_, ?_, s.le⟩, ?_⟩
  · have := own_frm own2 fs (fun k hk e => hgR (e ▸ hk))
    rw [List.length_append, List.length_singleton, ← hN, ivs_app]; exact this
  · exact own_frm (own_frm s.text fr htr) fs (fun k hk e => a2 (e ▸ hk))
  · exact (s.mp.frm fr a3).frm fs (fun e => a5 e.symm)
  · refine ⟨(fr.below (fun k hk => (s.vars.lt k hk).1) hB).trans (fs.below (fun k hk => by rw [hk]; exact s.le.1) (Nat.le_trans hB fr.size)), (KeepT.of_frm fr (fun k cur hk h => ?_)).trans (KeepT.of_frm fs (fun k cur hk h => ?_))⟩
    · obtain ⟨cur2, hc⟩ := own_type s.vars hk
      rw [hc] at h; injection h with h; injection h with _ h; cases h
    · rw [hk, hobj] at h; injection h with h; injection h with _ h; cases h
/-- it is put into the map. -/
theorem vs_put {w w2 : World} {B R M n : Nat} {l : List Int} {f f' : Int → Option Int} {vv tv : Value} {ts : List Value} {n' : Nat} (s : VS w B R M l f n vv tv ts) (gr : w.grownBy w2 (some M)) (h : MN w2 M n' f') (hB : B ≤ w.heap.size) : VS w2 B R M l f' n' vv tv ts ∧ Below B w w2 ∧ KeepT w w2 := by
  obtain ⟨a1, a2, a3, a4, a5, a6⟩ := s.apart
  have fr : Frm w w2 (fun k => some M = some k) := Frm.of_grown gr (fun k h => h)
  refine ⟨⟨(fr.block R s.rlt (fun e => a5 (by injection e with e; exact e.symm))).trans s.obj, own_frm s.vars fr (fun k hk e => a3 (hk.trans e.symm)), own_frm s.text fr (fun k hk e => a4 (hk.trans e.symm)), h, s.le⟩, fr.below (fun k hk => by injection hk with hk; rw [← hk]; exact s.le.2) hB, KeepT.of_frm fr (fun k cur hk h => by injection hk with hk; subst hk; exact s.mp.no_row h)⟩
set_option maxRecDepth 100000 in
set_option maxHeartbeats 8000000 in
theorem meet_new {w0 w : World} {R M : Nat} {l : List Int} {ts : List Value} (x : Int) (h0 : 0 ≤ x) (h1 : x ≤ 1999) (hx : x ∉ l) (hl : l.length ≤ 100000) (s : VSt w0 w R M l ts) :
    Calls Tryz.prog 71 #[.pointer (some ⟨R, 0, none⟩), .int .i64 x] w fun e w' => e = .returned (.int .i64 ((posV (addV l x) x : Nat) + 1 : Int)) ∧ Hid (VSt w0 w' R M (addV l x) ts) ∧ Hid (KeepT w w') ∧ Hid (w'.cell? ⟨R, 2, none⟩ = w.cell? ⟨R, 2, none⟩) := by
  obtain ⟨i0, hi0, hz0, hz1, hz2⟩ := info_parts infoI
  have ea : addV l x = l ++ [x] := if_neg hx
  rw [ea, posV_new hx]
  obtain ⟨vv, tv, v, b⟩ := s
  have V := Lib.hid v
  have B0 := Lib.hid b
  obtain ⟨D, hown, hD, hhas, hat⟩ := v.mp
  have hwf := wf_int (show -9223372036854775808 ≤ x by omega) (by omega)
  have HWF := Lib.hid hwf
  have hkey := Maps.keyOf_int_mk (P := Tryz.prog) Tryz.underlying3 hwf
  have HKEY := Lib.hid hkey
  have hh : Maps.has D (.int .i64 x) = false := by rw [hhas x]; unfold idxF; rw [if_neg hx]; rfl
  have IX := Lib.hid (idxF_add hx)
  have MP := Lib.hid (And.intro hown (And.intro hD (And.intro hhas hat)))
  obtain ⟨c0, c1, c2, f0⟩ := v.cells
  have C2 := Lib.hid c2
  have f1 := f0 1
  obtain ⟨N, hN⟩ : ∃ N, N = l.length := ⟨_, rfl⟩
  have HN := Lib.hid hN
  obtain ⟨A, c, rfl⟩ := vform v.vars
  rw [← hN] at c1 hl ⊢
  have OWN : Hid (w.ownsRow w0.heap.size TI 1 (.slice A N c) N (ivs l)) := Lib.hid (by rw [hN]; exact v.vars)
  have al1 := ((below_alloc w (.cells #[.int .i64 x] TI)).cell (p := ⟨R, 1, none⟩) v.rlt).trans c1
  have hB : w0.heap.size ≤ w.heap.size := b.size
  have HR := Lib.hid v.rlt
  rw [← hN] at V hown MP
  clear ea v b hhas hat hD hx f0 c2 hN hwf
  go_enter Tryz.func71, Tryz.ntmps71
  go_wp2_with (first
    | (at_lookup; refine wpList_lookup_own_ok_int _ rfl _ _ 70 rfl TI TI .i64 law3 Tryz.underlying70 Tryz.underlying3 (zero3 _) M N D rfl hown _ _ rfl hkey ?_; intro cL hatc hwc; rw [hh]; clear hatc hwc)
    | (at_builtin; refine wpList_append_lies _ rfl (.tmp 22) (.tmp 24) 26 rfl w0.heap.size TI i0 (.int .i64 0) 1 8 Tryz.underlying26 hi0 hz0 hz1 hz2 rfl (by decide) (.slice A N c) N (ivs l) rfl (OWN.out.alloc _) ⟨w.heap.size, 0, none⟩ 1 1 [.int .i64 x] rfl rfl (World.news_of_block (cs := #[.int .i64 x]) (t := TI) (fr := (0, 0)) (heap_alloc_new _ _)) (by simp [Value.oneCell']) (by omega) (by unfold maxLen; omega) (by omega) (by simp; omega) (w.heap.size + 1) (by simp) ?_; intro g cap w2 own2 gr2 at2 hlt2; have PA := vs_app HN.out V.out gr2 own2 hB; have zR := PA.1; have z1 : w2.cell? ⟨R, 1, none⟩ = some (.slice A N c) := (by simp [World.cell?, zR]); have g1 : w2.frozen? ⟨R, 1, none⟩ = false := (by simp [World.frozen?, zR]); have VA := Lib.hid PA.2; clear PA zR own2 gr2 at2)
    | fail)
  obtain ⟨w3, hw3⟩ : ∃ z, z = w2.setCell ⟨R, 1, none⟩ (.slice (some ⟨g, 0, none⟩) (N + 1) cap) := ⟨_, rfl⟩
  rw [← hw3] at VA
  try rw [← hw3]
  have V3 := VA.out.1
  have b3 := VA.out.2.1
  have KA := Lib.hid VA.out.2.2
  obtain ⟨d0, d1, d2, d3⟩ := V3.cells
  have HV3 := Lib.hid V3
  have HB3 := Lib.hid b3
  have R3 := Lib.hid V3.rlt
  have KEEP : Hid (w3.drew.cell? ⟨R, 0, none⟩ = some (.map (some M)) ∧ w3.drew.cell? ⟨R, 1, none⟩ = some (.slice (some ⟨g, 0, none⟩) (N + 1) cap)) := Lib.hid ⟨d0, d1⟩
  obtain ⟨D3, hown3, hD3, hhas3, hat3⟩ := V3.mp
  have HOWN3 : Hid (w3.drew.ownsMap Tryz.prog TI (plainElem Tryz.prog TI) M N D3) := Lib.hid hown3
  have MP3 := Lib.hid (And.intro hD3 (And.intro hhas3 hat3))
  have hN9 : N + 1 ≤ 200000 := by omega
  have WV := Lib.hid (wf_int (x := (N : Int) + 1) (by omega) (by omega))
  clear V3 b3 d2 d3 hown3 hD3 hhas3 hat3 VA c0 c1 f1 al1 hw3 z1 g1
  go_wp2_with fail
  refine wp_region_D [10] (fun w' => w'.cell? ⟨R, 0, none⟩ = some (.map (some M)) ∧ w'.cell? ⟨R, 1, none⟩ = some (.slice (some ⟨g, 0, none⟩) (N + 1) cap)) (by kernel_rfl) (KEEP.out) (fun hHeld => ?_)
  refine WDs 0 ⟨some 28, .move (.tmp 0), 102, _, #[], none⟩ ?va0 ?hya0 hHeld ?_
  case hya0 => (intro wz hSw; (try dsimp only at hSw); go_simp; try with_reducible rfl)
  (try simp only [putz])
  refine WDs 1 ⟨some 29, .nilCheck (.tmp 28), 0, _, #[⟨0, .data⟩], none⟩ ?va1 ?hya1 hHeld ?_
  case hya1 => (intro wz hSw; (try dsimp only at hSw); go_simp; try with_reducible rfl)
  (try simp only [putz])
  refine WDs 2 ⟨some 30, .fieldAddr 83 (.tmp 29) 0, 0, _, #[⟨1, .data⟩], none⟩ ?va2 ?hya2 hHeld ?_
  case hya2 => (intro wz hSw; (try dsimp only at hSw); go_simp; try with_reducible rfl)
  (try simp only [putz])
  refine WDs 3 ⟨some 31, .load 70 (.tmp 30), 70, _, #[⟨2, .data⟩], none⟩ ?va3 ?hya3 hHeld ?_
  case hya3 => (intro wz hSw; (try dsimp only at hSw); go_simp; try with_reducible rfl)
  (try simp only [putz])
  refine WDs 4 ⟨some 32, .move (.tmp 1), 3, _, #[], none⟩ ?va4 ?hya4 hHeld ?_
  case hya4 => (intro wz hSw; (try dsimp only at hSw); go_simp; try with_reducible rfl)
  (try simp only [putz])
  refine WDs 5 ⟨some 33, .move (.tmp 0), 102, _, #[], none⟩ ?va5 ?hya5 hHeld ?_
  case hya5 => (intro wz hSw; (try dsimp only at hSw); go_simp; try with_reducible rfl)
  (try simp only [putz])
  refine WDs 6 ⟨some 34, .nilCheck (.tmp 33), 0, _, #[⟨5, .data⟩], none⟩ ?va6 ?hya6 hHeld ?_
  case hya6 => (intro wz hSw; (try dsimp only at hSw); go_simp; try with_reducible rfl)
  (try simp only [putz])
  refine WDs 7 ⟨some 35, .fieldAddr 83 (.tmp 34) 1, 0, _, #[⟨6, .data⟩], none⟩ ?va7 ?hya7 hHeld ?_
  case hya7 => (intro wz hSw; (try dsimp only at hSw); go_simp; try with_reducible rfl)
  (try simp only [putz])
  refine WDs 8 ⟨some 36, .load 26 (.tmp 35), 26, _, #[⟨7, .data⟩], none⟩ ?va8 ?hya8 hHeld ?_
  case hya8 => (intro wz hSw; (try dsimp only at hSw); go_simp; try with_reducible rfl)
  (try simp only [putz])
  refine WDs 9 ⟨some 37, .call { callee := .builtin .len, args := #[.tmp 36], argTypes := #[26] }, 3, _, #[⟨8, .data⟩], none⟩ ?va9 ?hya9 hHeld ?_
  case hya9 => (intro wz hSw; (try dsimp only at hSw); go_simp; try with_reducible rfl)
  (try simp only [putz])
  refine WD_ready (rs := [10]) (by kernel_rfl) (by simp) ?_
  refine AllD.last (o := _) rfl (by kernel_rfl) (fun K hK => ?_) AllD.nil
  rw [if_pos (by rfl)]
  refine wp_map_put (.tmp 31) (.tmp 32) (.tmp 37) 70 rfl TI TI law3 Tryz.underlying70 _ M N D3 rfl HOWN3.out (by unfold maxLen; omega) _ _ _ rfl rfl HKEY.out _ [] (plainElem_int Tryz.underlying3 WV.out) ?_
  intro w4 hown4 gr4
  refine hK.out _ _ ?_
  clear hK K
  (try simp only [putz])
  refine WD_done (by kernel_rfl) ?_ _
  have PP := mn_put x ((N : Int) + 1) MP3.out.1 MP3.out.2.1 MP3.out.2.2
  have V4 := Lib.hid (vs_put (HV3.out.below (bdr w3)) gr4 (n' := N + 1) (f' := idxF (l ++ [x])) (by
    have e : ((l.length + 1 : Nat) : Int) = (N : Int) + 1 := by rw [← HN.out]; rfl
    rw [IX.out, e]
    exact ⟨_, hown4, PP.1, PP.2.1, PP.2.2⟩) (Nat.le_trans hB HB3.out.size))
  have FIN : Hid (VSt w0 w4 R M (l ++ [x]) ts) := Lib.hid ⟨_, _, by
    have := V4.out.1
    rw [HN.out] at this
    rw [List.length_append, List.length_singleton]
    rw [← HN.out] at this ⊢
    exact this, (B0.out.trans HB3.out).trans ((show Below w0.heap.size w3 w3.drew from ⟨rfl, rfl, rfl, Nat.le_refl _, fun _ _ => rfl⟩).trans V4.out.2.1)⟩
  obtain ⟨k0, k1, k2, -⟩ := V4.out.1.cells
  have HC2 : Hid (w4.cell? ⟨R, 2, none⟩ = w.cell? ⟨R, 2, none⟩) := Lib.hid (k2.trans C2.out.symm)
  clear k2
  have KF : Hid (KeepT w w4) := Lib.hid ((KA.out.trans (show KeepT w3 w3.drew from fun _ _ h => h)).trans V4.out.2.2)
  clear PP hown4 gr4 hHeld d0 d1 MP3 HOWN3 KEEP hown hkey hh
  go_wp2
  go_ret
  exact ⟨rfl, FIN, KF, HC2⟩
theorem meet_any4 {w0 w : World} {R M : Nat} {l : List Int} {ts : List Value} (x : Int) (h0 : 0 ≤ x) (h1 : x ≤ 1999) (hl : l.length ≤ 100000) (s : VSt w0 w R M l ts) :
    Calls Tryz.prog 71 #[.pointer (some ⟨R, 0, none⟩), .int .i64 x] w fun e w' => e = .returned (.int .i64 ((posV (addV l x) x : Nat) + 1 : Int)) ∧ Hid (VSt w0 w' R M (addV l x) ts) ∧ Hid (KeepT w w') ∧ Hid (w'.cell? ⟨R, 2, none⟩ = w.cell? ⟨R, 2, none⟩) := by
  by_cases hx : x ∈ l
  · exact meet_old x h0 h1 hx hl s
  · exact meet_new x h0 h1 hx hl s
theorem meet_any {w0 w : World} {R M : Nat} {l : List Int} {ts : List Value} (x : Int) (h0 : 0 ≤ x) (h1 : x ≤ 1999) (hl : l.length ≤ 100000) (s : VSt w0 w R M l ts) :
    Calls Tryz.prog 71 #[.pointer (some ⟨R, 0, none⟩), .int .i64 x] w fun e w' => e = .returned (.int .i64 ((posV (addV l x) x : Nat) + 1 : Int)) ∧ Hid (VSt w0 w' R M (addV l x) ts) ∧ Hid (KeepT w w') :=
  (meet_any4 x h0 h1 hl s).mono fun _ _ h => ⟨h.1, h.2.1, h.2.2.1⟩
end Go.Proofs.YtifopogkbjhkjaaGreatDoor
