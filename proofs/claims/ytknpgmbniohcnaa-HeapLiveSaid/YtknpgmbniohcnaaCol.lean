import Derived.Test.YtknpgmbniohcnaaMw
namespace Go.Proofs.Ytknpgmbniohcnaa
open Go.ChangeShapes Go.WideShapes Go.ChangeAt Go.RowKit
set_option linter.unusedVariables false
/-- one word replaced. -/
def Hm.setW (m : Hm) (i : Nat) (v : Int) : Hm := { m with ws := m.ws.set i v }
theorem getD_set_ne2 (l : List Int) (a b : Nat) (v : Int) (h : b ≠ a) : (l.set a v).getD b 0 = l.getD b 0 := getD_set_ne l a b v h
theorem setW_ok {m : Hm} (ok : m.Ok) {i : Nat} {v : Int} (hv : U64 v) (hs : m.st.getD i false = false) : (m.setW i v).Ok := by
  refine ⟨by simp [Hm.setW, ok.len], by simp [Hm.setW]; exact ok.lt, ok.r0, ok.r1, ok.t0, ok.t1, fun x hx => ?_, fun a ha hst => ?_⟩
  · rcases List.mem_or_eq_of_mem_set hx with h | h
    · exact ok.wf x h
    · exact h ▸ hv
  · simp only [Hm.setW, List.length_set] at ha hst ⊢
    have hne : a ≠ i := fun e => by rw [e, hs] at hst; cases hst
    rw [getD_set_ne _ _ _ _ hne]
    exact ok.snd a ha hst
theorem HpAt.set {w : World} {B H o : Nat} {m : Hm} (h : HpAt w B H o m) {g n c i : Nat} {v : Int} (hg : w.cell? ⟨H, o + 2, none⟩ = some (.slice (some ⟨g, 0, none⟩) n c)) (hv : U64 v) (hs : m.st.getD i false = false) :
    HpAt (w.setCell ⟨g, i, none⟩ (.int .u64 v)) B H o (m.setW i v) ∧ Frm w (w.setCell ⟨g, i, none⟩ (.int .u64 v)) (HR w H o) ∧ g ≠ H ∧ (∀ j, (w.setCell ⟨g, i, none⟩ (.int .u64 v)).cell? ⟨H, j, none⟩ = w.cell? ⟨H, j, none⟩) := by
  obtain ⟨cc, T, A1, c1, A2, c2, t1, t2, t3, e1, e2, e3, e4, e5, o1, o2⟩ := h.at_
  have f2 : w.cell? ⟨H, o + 2, none⟩ = some (.slice A1 m.ws.length c1) := by simp [World.cell?, e1, e4]
  rw [f2] at hg; injection hg with hg; injection hg with hA hn hc
  subst hA hn hc
  have hgH : g ≠ H := fun e => row_ne o1 e1 t1 (by simp [Value.ownBlock, e])
  have f : Frm w (w.setCell ⟨g, i, none⟩ (.int .u64 v)) (fun k => k = g) := frm_set i _ rfl
  have fh : (w.setCell ⟨g, i, none⟩ (.int .u64 v)).heap[H]? = w.heap[H]? := f.block H h.lt (fun e => hgH e.symm)
  refine ⟨⟨setW_ok h.ok hv hs, by simpa [World.setCell] using h.hB, cc, T, _, _, A2, c2, t1, t2, t3, fh.trans e1, e2, e3, by simpa [Hm.setW] using e4, e5, ?_, ?_⟩, f.mono fun k _ e => ?_, hgH, fun j => World.cell?_of_block fh⟩
  · have := (o1.stored i (.int .u64 v)).1
    simp only [Hm.setW, List.length_set]
    rwa [show wd (m.ws.set i v) = (wd m.ws).set i (.int .u64 v) from by simp [wd, List.map_set]]
  · refine own_frm o2 f (fun k hk e => ?_)
    subst e
    exact own_own_ne o2 o1 (by decide) k hk (by simp [Value.ownBlock])
  · subst e; exact .inr (.inl ⟨_, _, f2⟩)
theorem cp_setW {w : World} {H o Bf Bt C M : Nat} {F T : Hm} {mv : List Int} (h : CpX w H o Bf Bt C M F T mv) {g n c i : Nat} {v : Int} (hg : w.cell? ⟨C, 3, none⟩ = some (.slice (some ⟨g, 0, none⟩) n c)) (hv : U64 v) (hs : T.st.getD i false = false) :
    CpX (w.setCell ⟨g, i, none⟩ (.int .u64 v)) H o Bf Bt C M F (T.setW i v) mv ∧ Frm w (w.setCell ⟨g, i, none⟩ (.int .u64 v)) (RC Bt C M) := by
  obtain ⟨h1, h2, h3, h4⟩ := h.to.set hg hv hs
  exact cp_add h h1 h2 (fun j _ _ => h4 j)
theorem moveV_u64 {F : Hm} {s : CS} (h : CInv F s) {x : Int} (hx : U64 x) : U64 (moveV F s x) := by
  unfold moveV
  have hl := h.tok.lt
  split
  · exact hx
  · split
    · unfold U64; omega
    · rename_i h2
      have h3 : (atV x).toNat < s.mv.length := by
        by_cases hlt : (atV x).toNat < s.mv.length
        · exact hlt
        · exact absurd (by simp [List.getD, List.getElem?_eq_none (Nat.not_lt.1 hlt)]) h2
      have h4 := h.rng _ (List.getElem_mem h3)
      rw [← getD_at h3] at h4
      unfold U64; omega
/-- the roots. -/
def rootStep (F : Hm) (p : CS × List Int) (x : Int) : CS × List Int := (moveS F p.1 x, p.2 ++ [moveV F p.1 x])
def rootsF (F : Hm) (s : CS) (xs : List Int) : CS × List Int := xs.foldl (rootStep F) (s, [])
theorem roots_take {F : Hm} {s : CS} {xs : List Int} {k : Nat} (h : k < xs.length) : rootsF F s (xs.take (k + 1)) = rootStep F (rootsF F s (xs.take k)) xs[k] := by
  unfold rootsF
  rw [List.take_succ_eq_append_getElem h, List.foldl_append]; rfl
theorem roots_len (F : Hm) (s : CS) (xs : List Int) : (rootsF F s xs).2.length = xs.length := by
  have : ∀ (xs : List Int) (p : CS × List Int), (xs.foldl (rootStep F) p).2.length = p.2.length + xs.length := by
    intro xs
    induction xs with
    | nil => intro p; rfl
    | cons x xs ih => intro p; rw [List.foldl_cons, ih]; simp [rootStep]; omega
  rw [rootsF, this]; simp
/-- a word of the new heap looked at. -/
def scanS (F : Hm) (s : CS) (i : Nat) : CS := if s.T.st.getD i false = true then s else ⟨(moveS F s (s.T.ws.getD i 0)).T.setW i (moveV F s (s.T.ws.getD i 0)), (moveS F s (s.T.ws.getD i 0)).mv⟩
def scanF (F : Hm) : Nat → Nat → CS → CS
  | 0, _, s => s
  | n + 1, i, s => if i < s.T.ws.length then scanF F n (i + 1) (scanS F s i) else s
theorem moveS_st {F : Hm} {s : CS} {i : Nat} (x : Int) (hl : s.T.st.length = s.T.ws.length) (hi : i < s.T.ws.length) : (moveS F s x).T.st.getD i false = s.T.st.getD i false ∧ (moveS F s x).T.ws.getD i 0 = s.T.ws.getD i 0 ∧ s.T.ws.length ≤ (moveS F s x).T.ws.length := by
  unfold moveS
  split
  · exact ⟨rfl, rfl, Nat.le_refl _⟩
  · split
    · simp only [Hm.add]
      refine ⟨?_, ?_, by simp⟩
      · rw [List.getD_eq_getElem?_getD, List.getElem?_append_left (by omega), ← List.getD_eq_getElem?_getD]
      · rw [List.getD_eq_getElem?_getD, List.getElem?_append_left hi, ← List.getD_eq_getElem?_getD]
    · exact ⟨rfl, rfl, Nat.le_refl _⟩
theorem cinv_scan {F : Hm} (ok : F.Ok) {s : CS} (h : CInv F s) {i : Nat} (hi : i < s.T.ws.length) : CInv F (scanS F s i) := by
  unfold scanS
  split
  · exact h
  · rename_i hst
    have hu : U64 (s.T.ws.getD i 0) := by rw [getD_at hi]; exact h.tok.wf _ (List.getElem_mem hi)
    have h2 := (cinv_move ok h _ hu).1
    have h3 := moveV_u64 h hu
    have h4 := (moveS_st (F := F) (s.T.ws.getD i 0) h.tok.len hi).1
    exact ⟨setW_ok h2.tok h3 (by rw [h4]; simpa using hst), h2.len, h2.rng, by simpa [Hm.setW] using h2.used⟩
theorem scan_len {F : Hm} (ok : F.Ok) {s : CS} (h : CInv F s) : s.T.ws.length ≤ F.ws.length := by rw [← h.used]; exact used_le ok _
def s0 (F : Hm) : CS := ⟨⟨F.room, 0, [], []⟩, List.replicate F.ws.length 0⟩
theorem used_zero (F : Hm) (n : Nat) : usedN F (List.replicate n 0) = 0 := by
  unfold usedN
  have : sumN (fun a => if (List.replicate n (0 : Int)).getD a 0 = 0 then 0 else cost F a) F.ws.length = sumN (fun _ => 0) F.ws.length := sumN_eq _ fun a _ => by
    show (if (List.replicate n (0 : Int)).getD a 0 = 0 then 0 else cost F a) = 0
    rw [if_pos]
    rw [List.getD_eq_getElem?_getD, List.getElem?_replicate]; split <;> rfl
  rw [this, sumN_zero]
theorem cinv_s0 {F : Hm} (ok : F.Ok) : CInv F (s0 F) := by
  refine ⟨⟨rfl, by simp [s0], ok.r0, ok.r1, by simp [s0], by simp [s0], by simp [s0], by simp [s0]⟩, by simp [s0], ?_, by simp [s0, used_zero]⟩
  intro v hv
  simp only [s0] at hv
  rw [List.eq_of_mem_replicate hv]; omega
theorem cinv_roots {F : Hm} (ok : F.Ok) {s : CS} (h : CInv F s) (xs : List Int) (hx : ∀ x ∈ xs, U64 x) : CInv F (rootsF F s xs).1 ∧ ∀ y ∈ (rootsF F s xs).2, U64 y := by
  have : ∀ (xs : List Int) (p : CS × List Int), (∀ x ∈ xs, U64 x) → CInv F p.1 → (∀ y ∈ p.2, U64 y) → CInv F (xs.foldl (rootStep F) p).1 ∧ ∀ y ∈ (xs.foldl (rootStep F) p).2, U64 y := by
    intro xs
    induction xs with
    | nil => intro p _ h1 h2; exact ⟨h1, h2⟩
    | cons x xs ih =>
      intro p hx h1 h2
      rw [List.foldl_cons]
      refine ih _ (fun y hy => hx y (by simp [hy])) (cinv_move ok h1 x (hx x (by simp))).1 (fun y hy => ?_)
      simp only [rootStep, List.mem_append, List.mem_singleton] at hy
      rcases hy with hy | hy
      · exact h2 y hy
      · exact hy ▸ moveV_u64 h1 (hx x (by simp))
  exact this xs (s, []) hx h (by simp)
/-- the heap behind a collection. -/
def colS (F : Hm) (xs : List Int) : CS := scanF F F.ws.length 0 (rootsF F (s0 F) xs).1
def colT (t : Int) : Int := if t < 9223372036854775807 then t + 1 else t
def colM (F : Hm) (xs : List Int) : Hm := ⟨F.room, colT F.turns, (colS F xs).T.ws, (colS F xs).T.st⟩
def colR (F : Hm) (xs : List Int) : List Int := (rootsF F (s0 F) xs).2
theorem cinv_scanF {F : Hm} (ok : F.Ok) : ∀ (n i : Nat) (s : CS), CInv F s → CInv F (scanF F n i s)
  | 0, _, _, h => h
  | n + 1, i, s, h => by
    unfold scanF
    split
    · exact cinv_scanF ok n _ _ (cinv_scan ok h ‹_›)
    · exact h
theorem scanF_done {F : Hm} {n i : Nat} {s : CS} (h : s.T.ws.length ≤ i) : scanF F n i s = s := by
  cases n with
  | zero => rfl
  | succ n => unfold scanF; rw [if_neg (by omega)]
theorem scanF_step {F : Hm} {n i : Nat} {s : CS} (h : i < s.T.ws.length) (hn : s.T.ws.length ≤ n) : scanF F (n - i) i s = scanF F (n - (i + 1)) (i + 1) (scanS F s i) := by
  obtain ⟨d, hd⟩ : ∃ d, n - i = d + 1 := ⟨n - i - 1, by omega⟩
  rw [hd]
  show (if _ then _ else _) = _
  rw [if_pos h]
  congr 1; omega
theorem colM_ok {F : Hm} (ok : F.Ok) {xs : List Int} (hx : ∀ x ∈ xs, U64 x) : (colM F xs).Ok := by
  have h := (cinv_scanF ok F.ws.length 0 _ (cinv_roots ok (cinv_s0 ok) xs hx).1).tok
  refine ⟨h.len, h.lt, ok.r0, ok.r1, ?_, ?_, h.wf, h.snd⟩ <;> (simp only [colM, colT]; have := ok.t0; have := ok.t1; split <;> omega)
end Go.Proofs.Ytknpgmbniohcnaa
