import Derived.Test.YtifopogkbjhkjaaGreatDoorYn
namespace Go.Proofs.YtifopogkbjhkjaaGreatDoor
open DR
open Go.ChangeShapes Go.WideShapes Go.ChangeAt Go.RowKit Go.WideMaps
set_option linter.unusedVariables false
set_option linter.unusedSimpArgs false
/-- what was set stands for nothing again. -/
def undoL (St : List TT) (s : List Int) : List TT := s.foldl (fun l v => l.set v.toNat zeroT) St
theorem undoL_len (s : List Int) : ∀ St : List TT, (undoL St s).length = St.length := by
  induction s with
  | nil => intro St; rfl
  | cons v s ih => intro St; show (undoL (St.set v.toNat zeroT) s).length = _; rw [ih, List.length_set]
theorem stA_set (St : List TT) {v : Int} (hv : 0 ≤ v) (x : Int) : stA (St.set v.toNat zeroT) x = if x = v then zeroT else stA St x := by
  obtain ⟨m, rfl⟩ : ∃ m : Nat, v = m := ⟨v.toNat, by omega⟩
  rw [Int.toNat_natCast, stA_get, stA_get]
  by_cases h0 : 0 ≤ x
  · rw [if_pos h0, if_pos h0]
    by_cases hx : x = m
    · subst hx
      rw [if_pos rfl, Int.toNat_natCast]
      by_cases hl : m < St.length
      · rw [List.getElem?_set_self hl]; rfl
      · rw [List.getElem?_eq_none (by rw [List.length_set]; omega)]; rfl
    · rw [if_neg hx, List.getElem?_set_ne (by omega)]
  · rw [if_neg h0, if_neg h0]
    split <;> rfl
theorem undo_stA : ∀ (s : List Int) (St : List TT), (∀ v ∈ s, 0 ≤ v) → ∀ x, stA (undoL St s) x = if x ∈ s then zeroT else stA St x := by
  intro s
  induction s with
  | nil => intro St _ x; simp [undoL]
  | cons v s ih =>
    intro St h x
    show stA (undoL (St.set v.toNat zeroT) s) x = _
    rw [ih _ (fun y hy => h y (List.mem_cons_of_mem _ hy)), stA_set St (h v (by simp))]
    by_cases hx : x ∈ s
    · rw [if_pos hx, if_pos (List.mem_cons_of_mem _ hx)]
    · rw [if_neg hx]
      by_cases hv : x = v
      · rw [if_pos hv, if_pos (by rw [hv]; simp)]
      · rw [if_neg hv, if_neg (fun e => (List.mem_cons.1 e).elim hv hx)]
theorem undoL_take (St : List TT) (s : List Int) (k : Nat) (h : k < s.length) : undoL St (s.take (k + 1)) = (undoL St (s.take k)).set s[k].toNat zeroT := by
  rw [List.take_succ_eq_append_getElem h]
  unfold undoL
  rw [List.foldl_append]; rfl
/-- a substitution between calls. -/
structure SInv (St : List TT) : Prop where
  ok : ∃ rk, StOk St rk
  zok : Zok St
theorem SInv.u {St : List TT} (h : SInv St) : UInv ⟨St, []⟩ := ⟨h.ok, h.zok, fun _ h => (by cases h), by show 0 + ubn St ≤ 2000; have := ubn_le St; omega⟩
theorem SInv.same {St St' : List TT} (h : SInv St) (hl : St'.length ≤ 2000) (he : ∀ x, stA St' x = stA St x) : SInv St' := by
  obtain ⟨rk, hr⟩ := h.ok
  refine ⟨⟨rk, hl, fun x hx => ?_, fun x y hx hy => ?_⟩, fun x hx => ?_⟩
  · rw [he] at hx ⊢; exact hr.shp x hx
  · rw [he] at hx hy; exact hr.rank x y hx hy
  · rw [he] at hx ⊢; exact h.zok x hx
noncomputable def uniQ (St : List TT) (a b : TT) : Int × US := uniF (2001 * 502) ⟨St, []⟩ a b
open Classical in
/-- what Unify answers, and the substitution behind it. -/
noncomputable def uniG (St : List TT) (a b : TT) : Int × List TT :=
  if goodT a = true ∧ goodT b = true then
    if (uniQ St a b).1 = 0 then
      if (uniQ St a b).2.set ≠ [] ∧ Great (uniQ St a b).2.st then (2, undoL (uniQ St a b).2.st (uniQ St a b).2.set) else (0, (uniQ St a b).2.st)
    else ((uniQ St a b).1, undoL (uniQ St a b).2.st (uniQ St a b).2.set)
  else (1, St)
theorem good_shp {V : TT} (h : goodT V = true) : shp V = true := by
  unfold goodT at h
  rw [Bool.and_eq_true] at h
  exact h.2
theorem uniQ_ext {St : List TT} (h : SInv St) {a b : TT} (ha : shp a = true) (hb : shp b = true) : UInv (uniQ St a b).2 ∧ (∀ x ∈ (uniQ St a b).2.set, (stA St x).k = 0 ∧ (stA (uniQ St a b).2.st x).k ≠ 0) ∧ ∀ x, x ∉ (uniQ St a b).2.set → stA (uniQ St a b).2.st x = stA St x := by
  have he := uniF_ext (2001 * 502) ⟨St, []⟩ a b h.u ha hb
  obtain ⟨s, h1, h2, h3⟩ := he.ext
  have e : (uniQ St a b).2.set = s := h1
  rw [e]
  exact ⟨he.inv, h2, h3⟩
theorem undo_same {St : List TT} (h : SInv St) {a b : TT} (ha : shp a = true) (hb : shp b = true) : (∀ x, stA (undoL (uniQ St a b).2.st (uniQ St a b).2.set) x = stA St x) ∧ (undoL (uniQ St a b).2.st (uniQ St a b).2.set).length ≤ 2000 := by
  obtain ⟨hi, h2, h3⟩ := uniQ_ext h ha hb
  refine ⟨fun x => ?_, ?_⟩
  · rw [undo_stA _ _ (fun v hv => (hi.set v hv).1)]
    split
    · rename_i hx; exact (h.zok x (h2 x hx).1).symm
    · rename_i hx; exact h3 x hx
  · rw [undoL_len]
    obtain ⟨rk, hr⟩ := hi.ok
    exact hr.len
theorem uniG_inv {St : List TT} (h : SInv St) (a b : TT) : SInv (uniG St a b).2 ∧ ((uniG St a b).1 ≠ 0 → ∀ x, stA (uniG St a b).2 x = stA St x) := by
  unfold uniG
  split
  · rename_i hg
    have ha := good_shp hg.1
    have hb := good_shp hg.2
    have hu := undo_same h ha hb
    split
    · split
      · exact ⟨h.same hu.2 hu.1, fun _ => hu.1⟩
      · exact ⟨⟨(uniQ_ext h ha hb).1.ok, (uniQ_ext h ha hb).1.zok⟩, fun e => absurd rfl e⟩
    · exact ⟨h.same hu.2 hu.1, fun _ => hu.1⟩
  · exact ⟨h, fun _ _ => rfl⟩
/-- a substitution in memory between calls: all of it lies from B on, and none of it in blocks of Pr. -/
def SubS (w : World) (Pr : Nat → Prop) (B sb : Nat) (n : Int) (St : List TT) : Prop := ∃ (K : Nat → Prop) (rv : Value) (xs : List Value), SubW w K (fun b => K b ∨ Pr b) B sb n St rv xs ∧ ∀ b, K b → ¬ Pr b
theorem SubS.later {w w' : World} {Pr : Nat → Prop} {B sb : Nat} {n : Int} {St : List TT} (h : SubS w Pr B sb n St) (hb : Below w.heap.size w w') : SubS w' Pr B sb n St := by
  obtain ⟨K, rv, xs, h, hd⟩ := h
  exact ⟨K, rv, xs, h.later hb, hd⟩
theorem UM.s {w : World} {K Pr : Nat → Prop} {B ub sb : Nat} {n : Int} {u : US} {rv sv : Value} {xs : List Value} (h : UM w K (fun b => K b ∨ Pr b) B ub sb n u rv sv xs) (hd : ∀ b, K b → ¬ Pr b) : SubS w Pr B sb n u.st :=
  ⟨K, rv, xs, h.sub, hd⟩
/-- other blocks are kept from it. -/
theorem SubS.swap {w w' : World} {Pr Pr' : Nat → Prop} {B sb : Nat} {n : Int} {St : List TT} (h : SubS w Pr B sb n St) (f : Frm w w' Pr) (h1 : ∀ b, Pr' b → b < w'.heap.size ∧ (Pr b ∨ w.heap.size ≤ b)) : SubS w' Pr' B sb n St := by
  obtain ⟨K, rv, xs, h, hd⟩ := h
  have hn : ∀ b, b < w.heap.size → ¬ Pr b → ¬ Pr' b := fun b hb hp e => (h1 b e).2.elim hp (fun h => by omega)
  have h2 := h.frm f hd (fun e => h.nsb (.inr e)) (fun b hb e => h.nrv b hb (.inr e))
  refine ⟨K, rv, xs, ⟨h2.sbc, h2.row, h2.kids, fun e => e.elim (fun e => h.nsb (.inl e)) (hn sb h.slt (fun e => h.nsb (.inr e))), fun b hb e => e.elim (fun e => h.nrv b hb (.inl e)) (hn b (h.row.lt b hb).2 (fun e => h.nrv b hb (.inr e))), h2.lo, fun b e => e.elim (fun e => h2.kb b (.inl e)) (fun e => (h1 b e).1), fun _ h => .inl h⟩, fun b hb => hn b (h.kb b (.inl hb)) (hd b hb)⟩
/-- what Unify leaves. -/
def UgPost (Pr : Nat → Prop) (B sb : Nat) (n : Int) (w : World) (q : Int × List TT) (e : Ending) (w' : World) : Prop := e = .returned (.int .i64 q.1) ∧ SubS w' Pr B sb n q.2 ∧ Frm w w' (Tn Pr B)
theorem SubW.unifier {w wU w2 : World} {K Pr : Nat → Prop} {B sb ub : Nat} {n : Int} {St : List TT} {rv : Value} {xs : List Value} (h : SubW w K (fun b => K b ∨ Pr b) B sb n St rv xs) (hB : B ≤ ub) (hub : w.heap.size ≤ ub) (hw : Below w.heap.size w wU) (hU : wU.heap[ub]? = some (.cells #[.pointer (some ⟨sb, 0, none⟩), .slice none 0 0] UniY (0, 0))) (h2 : Below wU.heap.size wU w2) :
    UM w2 (fun b => K b ∨ (ub < b ∧ b < w2.heap.size)) (fun b => (K b ∨ (ub < b ∧ b < w2.heap.size)) ∨ Pr b) B ub sb n ⟨St, []⟩ rv (.slice none 0 0) xs := by
  have hs2 := h2.size
  have hul := (Array.getElem?_eq_some_iff.1 hU).1
  have hsl := h.slt
  have h3 := h.later (hw.trans (h2.mono hw.size))
  refine ⟨⟨h3.sbc, h3.row, h3.kids.move (fun b _ hb => ⟨rfl, .inl hb⟩) (Nat.le_refl _), fun e => ?_, fun b hb e => ?_, h3.lo, fun b hb => ?_, fun _ h => .inl h⟩, (h2.block ub hul).trans hU, World.ownsRow_nil _ _ _ _, fun e => ?_, fun b hb => (by cases hb), hB⟩
  · rcases e with (e | e) | e
    · exact h.nsb (.inl e)
    · omega
    · exact h.nsb (.inr e)
  · rcases e with (e | e) | e
    · exact h.nrv b hb (.inl e)
    · have := (h.row.lt b hb).2; omega
    · exact h.nrv b hb (.inr e)
  · rcases hb with (hb | hb) | hb
    · exact h3.kb b (.inl hb)
    · exact hb.2
    · exact h3.kb b (.inr hb)
  · rcases e with (e | e) | e
    · have := h.kb ub (.inl e); omega
    · omega
    · have := h.kb ub (.inr e); omega
end Go.Proofs.YtifopogkbjhkjaaGreatDoor
namespace Go.Proofs.YtifopogkbjhkjaaGreatDoor
open DR
open Go.ChangeShapes Go.WideShapes Go.ChangeAt Go.RowKit Go.WideMaps
set_option linter.unusedVariables false
set_option linter.unusedSimpArgs false
theorem set_cell {w : World} {K Pr : Nat → Prop} {B ub sb c k : Nat} {n : Int} {u : US} {rv : Value} {A : Option Addr} {xs : List Value} (h : UM w K Pr B ub sb n u rv (.slice A u.set.length c) xs) (hk : k < u.set.length) : ∃ g, A = some ⟨g, 0, none⟩ ∧ w.cell? ⟨g, k, none⟩ = some (.int .i64 u.set[k]) := by
  rcases h.srow.2 with ⟨e, e2⟩ | ⟨g, cap, cur, e, e2, e3, e4, e5, e6, e7⟩
  · omega
  · injection e with e _ _
    subst e
    refine ⟨g, rfl, ?_⟩
    have := h.srow.cellAt k (by omega)
    rw [this]
    simp [hk]
theorem big_mono {d d' : Nat} (h : d ≤ d') : ∀ V : TT, bigT d V = false → bigT d' V = false := by
  induction d generalizing d' with
  | zero => intro V h; cases h
  | succ d ih =>
    intro V hb
    obtain ⟨d', rfl⟩ : ∃ e, d' = e + 1 := ⟨d' - 1, by omega⟩
    unfold bigT at hb ⊢
    simp only [Bool.or_eq_false_iff] at hb ⊢
    refine ⟨hb.1, ?_⟩
    rw [List.any_eq_false] at hb ⊢
    intro x hx
    have h1 := hb.2 x hx
    rw [Bool.not_eq_true] at h1 ⊢
    exact ih (by omega) x h1
open Classical in
set_option maxRecDepth 100000 in
set_option maxHeartbeats 16000000 in
theorem unifyS {Pr : Nat → Prop} {B sb : Nat} {n : Int} {St : List TT} {a b : TT} {va vb : Value} {w : World} (hst : SInv St) (hS : SubS w Pr B sb n St) (hB : B ≤ w.heap.size) (hba : bigT 7 a = false) (hbb : bigT 7 b = false) (hia : TIn w any0 a va) (hib : TIn w any0 b vb) :
    Calls Tryz.prog 9 #[.pointer (some ⟨sb, 0, none⟩), va, vb] w (UgPost Pr B sb n w (uniG St a b)) := by
  obtain ⟨Aa, ca, hva, hAa⟩ := hia
  obtain ⟨Ab, cb, hvb, hAb⟩ := hib
  subst hva hvb
  have GA := Lib.hid (fun W (hW : Below w.heap.size w W) => good_any (v := tv a Aa ca) (Nat.le_refl 7) hba ⟨Aa, ca, rfl, hAa.later hW⟩)
  have GB := Lib.hid (fun W (hW : Below w.heap.size w W) => good_any (v := tv b Ab cb) (Nat.le_refl 7) hbb ⟨Ab, cb, rfl, hAb.later hW⟩)
  have CA := Lib.hid (fun W (hW : Below w.heap.size w W) => tclone_any 7 a (tv a Aa ca) W hba ⟨Aa, ca, rfl, hAa.later hW⟩)
  have CB := Lib.hid (fun W (hW : Below w.heap.size w W) => tclone_any 7 b (tv b Ab cb) W hbb ⟨Ab, cb, rfl, hAb.later hW⟩)
  have HS := Lib.hid hS
  have HBB := Lib.hid hB
  have HST := Lib.hid hst
  obtain ⟨Q, hQ⟩ : ∃ Q, Q = uniG St a b := ⟨_, rfl⟩
  rw [← hQ]
  have HQ := Lib.hid hQ
  unfold tv at GA GB CA CB ⊢
  obtain ⟨wB, hwB⟩ : ∃ z, z = (w.alloc (.cells #[.int .i64 a.k, .string a.nm, .int .i64 a.vr, .slice Aa a.args.length ca] 24)).alloc (.cells #[.int .i64 b.k, .string b.nm, .int .i64 b.vr, .slice Ab b.args.length cb] 24) := ⟨_, rfl⟩
  have BX := two_box (w := w) (.cells #[.int .i64 a.k, .string a.nm, .int .i64 a.vr, .slice Aa a.args.length ca] 24) (.cells #[.int .i64 b.k, .string b.nm, .int .i64 b.vr, .slice Ab b.args.length cb] 24)
  have BB := Lib.hid (show Below w.heap.size w wB by rw [hwB]; exact bt (below_alloc w _) (below_alloc _ _))
  have HZ := Lib.hid (show wB.heap.size = w.heap.size + 2 by rw [hwB]; simp)
  rw [← hwB] at BX
  have HX := Lib.hid BX.1
  have HY := Lib.hid BX.2
  have HWB := Lib.hid hwB
  obtain ⟨x0, x1, x2, x3⟩ := cells4 BX.1
  clear BX hwB hst hS hB hba hbb hAa hAb hQ
  by_cases ga : goodT a = true
  case neg =>
    have ga' : goodT a = false := by simpa using ga
    have EQ := Lib.hid (show Q = (1, St) by rw [HQ.out]; unfold uniG; rw [if_neg (fun e => ga e.1)])
    rw [ga'] at GA
    clear ga ga' CA CB GB
    go_enter Tryz.func9, Tryz.ntmps9
    go_wp2_with fail
    try rw [← HWB.out]
    refine (GA.out _ BB.out).mono ?_; rintro e w1 ⟨rfl, hb1⟩
    have B1 := Lib.hid (bt BB.out hb1)
    clear hb1 x0 x1 x2 x3
    go_wp2
    go_ret
    rw [EQ.out]
    exact ⟨rfl, HS.out.later B1.out, Frm.of_below B1.out (Nat.le_refl _) _⟩
  rw [ga] at GA
  by_cases gb : goodT b = true
  case neg =>
    have gb' : goodT b = false := by simpa using gb
    have EQ := Lib.hid (show Q = (1, St) by rw [HQ.out]; unfold uniG; rw [if_neg (fun e => gb e.2)])
    rw [gb'] at GB
    clear ga gb gb' CA CB
    go_enter Tryz.func9, Tryz.ntmps9
    go_wp2_with fail
    try rw [← HWB.out]
    refine (GA.out _ BB.out).mono ?_; rintro e w1 ⟨rfl, hb1⟩
    have B1 := Lib.hid (bt BB.out hb1)
    obtain ⟨y0, y1, y2, y3⟩ := cells4 ((hb1.block (w.heap.size + 1) (by have := HZ.out; omega)).trans HY.out)
    clear hb1 x0 x1 x2 x3 GA
    go_wp2_with fail
    refine (GB.out _ B1.out).mono ?_; rintro e w2 ⟨rfl, hb2⟩
    have B2 := Lib.hid (bt B1.out hb2)
    clear hb2 GB y0 y1 y2 y3
    go_wp2
    go_ret
    rw [EQ.out]
    exact ⟨rfl, HS.out.later B2.out, Frm.of_below B2.out (Nat.le_refl _) _⟩
  rw [gb] at GB
  have HQ2 := Lib.hid (show Q = if (uniQ St a b).1 = 0 then if (uniQ St a b).2.set ≠ [] ∧ Great (uniQ St a b).2.st then (2, undoL (uniQ St a b).2.st (uniQ St a b).2.set) else (0, (uniQ St a b).2.st) else ((uniQ St a b).1, undoL (uniQ St a b).2.st (uniQ St a b).2.set) by
    rw [HQ.out]; unfold uniG; rw [if_pos ⟨ga, gb⟩])
  have HGA := Lib.hid ga
  have HGB := Lib.hid gb
  have HINV := Lib.hid (uniQ_ext HST.out (good_shp ga) (good_shp gb)).1
  clear ga gb HQ
  go_enter Tryz.func9, Tryz.ntmps9
  go_wp2_with fail
  try rw [← HWB.out]
  refine (GA.out _ BB.out).mono ?_; rintro e w1 ⟨rfl, hb1⟩
  have B1 := Lib.hid (bt BB.out hb1)
  have X1 := Lib.hid ((hb1.block w.heap.size (by have := HZ.out; omega)).trans HX.out)
  have Y1 := Lib.hid ((hb1.block (w.heap.size + 1) (by have := HZ.out; omega)).trans HY.out)
  have S1 := Lib.hid (show w.heap.size + 2 ≤ w1.heap.size by have := hb1.size; have := HZ.out; omega)
  obtain ⟨y0, y1, y2, y3⟩ := cells4 Y1.out
  clear hb1 x0 x1 x2 x3 GA HX HY
  go_wp2_with fail
  refine (GB.out _ B1.out).mono ?_; rintro e w2 ⟨rfl, hb2⟩
  have B2 := Lib.hid (bt B1.out hb2)
  have X2 := Lib.hid ((hb2.block w.heap.size (by have := S1.out; omega)).trans X1.out)
  have Y2 := Lib.hid ((hb2.block (w.heap.size + 1) (by have := S1.out; omega)).trans Y1.out)
  have S2 := Lib.hid (show w.heap.size + 2 ≤ w2.heap.size by have := hb2.size; have := S1.out; omega)
  clear hb2 GB y0 y1 y2 y3 X1 Y1
  obtain ⟨ub, hub⟩ : ∃ z, z = w2.heap.size := ⟨_, rfl⟩
  obtain ⟨wU, hwU⟩ : ∃ z, z = w2.alloc (.cells #[.pointer (some ⟨sb, 0, none⟩), .slice none 0 0] 67) := ⟨_, rfl⟩
  have BU := Lib.hid (show Below w.heap.size w wU by rw [hwU]; exact bt B2.out (below_alloc _ _))
  have XU := Lib.hid (show wU.heap[w.heap.size]? = some (.cells #[.int .i64 a.k, .string a.nm, .int .i64 a.vr, .slice Aa a.args.length ca] 24 (0, 0)) by rw [hwU]; exact ((below_alloc w2 _).block w.heap.size (by have := S2.out; omega)).trans X2.out)
  have YU := Lib.hid (show wU.heap[w.heap.size + 1]? = some (.cells #[.int .i64 b.k, .string b.nm, .int .i64 b.vr, .slice Ab b.args.length cb] 24 (0, 0)) by rw [hwU]; exact ((below_alloc w2 _).block (w.heap.size + 1) (by have := S2.out; omega)).trans Y2.out)
  have ZU := Lib.hid (show wU.heap[ub]? = some (.cells #[.pointer (some ⟨sb, 0, none⟩), .slice none 0 0] UniY (0, 0)) by rw [hub, hwU]; exact heap_alloc_new w2 _)
  have SU := Lib.hid (show w.heap.size + 2 ≤ ub ∧ wU.heap.size = ub + 1 by rw [hub, hwU]; exact ⟨S2.out, by simp⟩)
  have HUB := Lib.hid hub
  have HWU := Lib.hid hwU
  clear hub hwU
  go_wp2_with fail
  try rw [← HWU.out]
  try rw [← HUB.out]
  refine wp_region_D [4] (fun w' => Below wU.heap.size wU w') (by kernel_rfl) (bdr wU) (fun hHeld => ?_)
  refine WDs 0 ⟨some 21, .load 24 (.tmp 4), 24, _, #[], none⟩ ?va0 ?hya0 hHeld ?_
  case hya0 => (intro wz hSw; (try dsimp only at hSw); obtain ⟨z0, z1, z2, z3⟩ := cells4 ((hSw.block w.heap.size (by have := SU.out; omega)).trans XU.out); go_simp; try with_reducible rfl)
  (try simp only [putz])
  refine WDs 2 ⟨some 23, .load 24 (.tmp 5), 24, _, #[], none⟩ ?va2 ?hya2 hHeld ?_
  case hya2 => (intro wz hSw; (try dsimp only at hSw); obtain ⟨z0, z1, z2, z3⟩ := cells4 ((hSw.block (w.heap.size + 1) (by have := SU.out; omega)).trans YU.out); go_simp; try with_reducible rfl)
  (try simp only [putz])
  have hHs0 := hHeld.size
  refine WD_ready (rs := [1]) (by kernel_rfl) (by simp) ?_
  refine AllD.cons (o := _) rfl (fun K hK => ?_) AllD.nil
  rw [if_pos (by rfl)]
  go_simp
  refine (CA.out _ (bt BU.out hHeld)).mono ?_; rintro e w3 ⟨A1, c1, rfl, hr1, hb3⟩
  unfold tv
  try go_wp2_with fail
  refine hK.out _ _ (bt hHeld hb3) (fun hHeld => ?_)
  clear hK K
  (try simp only [putz])
  have R1 := Lib.hid (hr1.weak (P' := (wU.heap.size ≤ ·)) (fun q _ h => Nat.le_trans hHs0 h))
  clear hr1 hb3 hHs0
  have hHs0 := hHeld.size
  refine WD_ready (rs := [3]) (by kernel_rfl) (by simp) ?_
  refine AllD.cons (o := _) rfl (fun K hK => ?_) AllD.nil
  rw [if_pos (by rfl)]
  go_simp
  refine (CB.out _ (bt BU.out hHeld)).mono ?_; rintro e w4 ⟨A2, c2, rfl, hr2, hb4⟩
  unfold tv
  try go_wp2_with fail
  refine hK.out _ _ (bt hHeld hb4) (fun hHeld => ?_)
  clear hK K
  (try simp only [putz])
  have R2 := Lib.hid (hr2.weak (P' := (wU.heap.size ≤ ·)) (fun q _ h => Nat.le_trans hHs0 h))
  have R1b := Lib.hid (R1.out.later hb4)
  have B4 := Lib.hid hHeld
  clear hr2 hb4 hHs0 hHeld R1 CA CB
  obtain ⟨K, rv, xs, hW, hDis⟩ := HS.out
  obtain ⟨K2, hK2⟩ : ∃ P : Nat → Prop, P = fun q => K q ∨ (ub < q ∧ q < w4.heap.size) := ⟨_, rfl⟩
  have UU := Lib.hid (show UM w4 K2 (fun q => K2 q ∨ Pr q) B ub sb n ⟨St, []⟩ rv (.slice none 0 0) xs by rw [hK2]; exact hW.unifier (by have := SU.out; have := HBB.out; omega) (by have := SU.out; omega) BU.out ZU.out B4.out)
  have HD2 := Lib.hid (show ∀ q, K2 q → ¬ Pr q by rw [hK2]; intro q hq hp; rcases hq with hq | hq; exact hDis q hq hp; have := hW.kb q (.inr hp); have := SU.out; omega)
  obtain ⟨P2, hP2⟩ : ∃ P : Nat → Prop, P = fun q => K2 q ∨ Pr q := ⟨_, rfl⟩
  rw [← hP2] at UU
  have HTP := Lib.hid (show ∀ q, Tn P2 B q → Tn Pr B q by rw [hP2]; exact fun q hq => ⟨hq.1, fun e => hq.2 (.inr e)⟩)
  have HP2 := Lib.hid hP2
  have T1 := Lib.hid (show TRow w4 K2 A1 a.args by rw [hK2]; exact R1b.out.moveP (fun q hq h => ⟨hq, rfl, .inr ⟨by have := SU.out; omega, hq⟩⟩))
  have T2 := Lib.hid (show TRow w4 K2 A2 b.args by rw [hK2]; exact R2.out.moveP (fun q hq h => ⟨hq, rfl, .inr ⟨by have := SU.out; omega, hq⟩⟩))
  have HB4 := Lib.hid (show B ≤ w4.heap.size by have := B4.out.size; have := SU.out; have := HBB.out; omega)
  have UN := Lib.hid (unify_any (2001 * 502) K2 P2 ⟨St, []⟩ a b (tv a A1 c1) (tv b A2 c2) rv _ xs w4 (mu_lt _ _) HST.out.u (good_shp HGA.out) (good_shp HGB.out) UU.out HB4.out ⟨A1, c1, rfl, T1.out⟩ ⟨A2, c2, rfl, T2.out⟩)
  obtain ⟨⟨ei, uq⟩, hq⟩ : ∃ q, q = uniQ St a b := ⟨_, rfl⟩
  rw [← hq] at HQ2 HINV
  have UN2 : Hid (Calls Tryz.prog 26 #[.pointer (some ⟨ub, 0, none⟩), tv a A1 c1, tv b A2 c2] w4 fun e w' => e = .returned (.int .i64 ei) ∧ (∃ rv sv xs, UM w' K2 P2 B ub sb n uq rv sv xs) ∧ Frm w4 w' (Tn P2 B)) := Lib.hid (by have h := UN.out; rw [show uniF (2001 * 502) ⟨St, []⟩ a b = (ei, uq) from hq.symm] at h; exact h)
  unfold tv at UN2
  clear hq UN hW hK2 hDis hP2 R1b R2 T1 T2
  refine WD_ready (rs := [4]) (by kernel_rfl) (by simp) ?_
  refine AllD.last (o := _) rfl (by kernel_rfl) (fun K hK => ?_) AllD.nil
  rw [if_pos (by rfl)]
  go_simp
  refine UN2.out.mono ?_; rintro e w5 ⟨rfl, hu5, f5⟩
  try go_wp2_with fail
  refine hK.out _ _ ?_
  clear hK K
  (try simp only [putz])
  have F5 := Lib.hid f5
  obtain ⟨rv5, sv5, xs5, hu5⟩ := hu5
  have U5 := Lib.hid hu5
  clear hu5 f5 UN2
  refine WD_takeAny (i := 5) (oi := ⟨some 8, .assign (.tmp 25), 42, _, #[⟨4, .data⟩, ⟨4, .chain⟩, ⟨0, .phase⟩, ⟨1, .phase⟩, ⟨2, .phase⟩, ⟨3, .phase⟩, ⟨4, .phase⟩], none⟩) (v := ?va5) rfl (by kernel_rfl) (by kernel_rfl) (by kernel_rfl) (by kernel_rfl) (fun _ _ _ h => h) (Or.inl ⟨by rfl, ?hya5⟩) ?_
  case hya5 => (intro wz _; go_simp; try with_reducible rfl)
  (try simp only [putz])
  refine WD_done (by kernel_rfl) ?_ _
  have HBW5 := Lib.hid (show Frm w w5 (Tn Pr B) from (Frm.of_below (bt BU.out B4.out) (Nat.le_refl _) _).trans (F5.out.mono (fun q _ hq => HTP.out q hq)))
  have HMS := Lib.hid (fun (W : World) (u : US) (rv sv : Value) (xs : List Value) (h : UM W K2 P2 B ub sb n u rv sv xs) => (show SubS W Pr B sb n u.st by rw [HP2.out] at h; exact h.s HD2.out))
  have HB5 := Lib.hid (show B ≤ w5.heap.size by have := F5.out.size; have := HB4.out; omega)
  have HSET := Lib.hid (show ∀ v ∈ uq.set, 0 ≤ v ∧ v < (uq.st.length : Int) from HINV.out.set)
  have HCN := Lib.hid (show uq.set.length ≤ 2000 by have : uq.set.length + ubn uq.st ≤ 2000 := HINV.out.cnt; omega)
  have HQ3 := Lib.hid (show Q = if ei = 0 then if uq.set ≠ [] ∧ Great uq.st then (2, undoL uq.st uq.set) else (0, uq.st) else (ei, undoL uq.st uq.set) from HQ2.out)
  clear HQ2 XU YU ZU X2 Y2 B4 BU
  by_cases he : ei = 0
  case neg =>
    have EQ := Lib.hid (show Q = (ei, undoL uq.st uq.set) by rw [HQ3.out, if_neg he])
    have q0 : (ei == 0) = false := beq_eq_false_iff_ne.2 he
    have q1 : (ei != 0) = true := by simp [bne, q0]
    clear he HQ3
    obtain ⟨N, hN⟩ : ∃ N, N = uq.set.length := ⟨_, rfl⟩
    obtain ⟨sA, sc, rfl⟩ := vform U5.out.srow
    have NH := Lib.hid hN
    have hN2 : N ≤ 2000 := by have := HCN.out; omega
    have u1 := (sub_cell U5.out.ubc).2
    rw [← hN] at u1
    clear hN
    have BW5 := HBW5.out
    as_aux_lemma =>
    go_wp2
    go_loopw [43] (fun i wr => ∃ (k : Nat) (xs : List Value), k ≤ N ∧ i = .int .i64 k ∧ Hid (UM wr K2 P2 B ub sb n ⟨undoL uq.st (uq.set.take k), uq.set⟩ rv5 (.slice sA uq.set.length sc) xs) ∧ Hid (Frm w5 wr (Tn P2 B))) (fun i _ => N - (intOf i).toNat)
    case atStart => exact ⟨0, _, by omega, by first | rfl | trivial, Lib.hid (by rw [List.take_zero]; exact U5.out), Lib.hid (Frm.refl _ _)⟩
    case round =>
      obtain ⟨k, xs', hk, rfl, HM, HF⟩ := hrel
      by_cases hlt : k < N
      · have hlti : (k : Int) < (N : Int) := by omega
        have hks : k < uq.set.length := by rw [← NH.out]; exact hlt
        have hvs := HSET.out uq.set[k] (List.getElem_mem hks)
        have HTK := Lib.hid (undoL_take uq.st uq.set k hks)
        obtain ⟨v, hv⟩ : ∃ v : Nat, uq.set[k] = v := ⟨uq.set[k].toNat, by omega⟩
        have hcell := set_cell HM.out hks
        obtain ⟨gs, rfl, hcell⟩ := hcell
        rw [show (US.set ⟨undoL uq.st (uq.set.take k), uq.set⟩)[k] = uq.set[k] from rfl] at hcell
        rw [hv] at hcell hvs HTK
        rw [Int.toNat_natCast] at HTK
        have hvl : v < (undoL uq.st (uq.set.take k)).length := by rw [undoL_len]; omega
        obtain ⟨L, hL⟩ : ∃ L, L = (undoL uq.st (uq.set.take k)).length := ⟨_, rfl⟩
        obtain ⟨rA, rc, hrv, -⟩ := HM.out.sub.trow
        rw [show (US.st ⟨undoL uq.st (uq.set.take k), uq.set⟩).length = L from hL.symm] at hrv
        have ROW := Lib.hid HM.out.sub.row
        rw [show (US.st ⟨undoL uq.st (uq.set.take k), uq.set⟩).length = L from hL.symm] at ROW
        subst hrv
        rw [← hL] at hvl
        obtain ⟨g, rfl⟩ : ∃ g, rA = some ⟨g, 0, none⟩ := by
          rcases ROW.out.2 with ⟨e, e2⟩ | ⟨g, cap, cur, e, _⟩
          · omega
          · injection e with e; exact ⟨g, e⟩
        have s1 := (sub_cell HM.out.sub.sbc).2
        have hvli : (v : Int) < (L : Int) := by omega
        obtain ⟨⟨z0, o0⟩, f0⟩ := own_cell ROW.out rfl (show v * 4 < L * 4 by omega)
        obtain ⟨⟨z1, o1⟩, f1⟩ := own_cell ROW.out rfl (show v * 4 + 1 < L * 4 by omega)
        obtain ⟨⟨z2, o2⟩, f2⟩ := own_cell ROW.out rfl (show v * 4 + 2 < L * 4 by omega)
        obtain ⟨⟨z3, o3⟩, f3⟩ := own_cell ROW.out rfl (show v * 4 + 3 < L * 4 by omega)
        have PP := HM.out.put (t := zeroT) (A := none) (c := 0) (cap := rc) (g := g) v (by rw [← hL]; exact hvl) (.inl rfl) (by rw [← hL]) (v * 4) rfl
        rw [show US.mk ((US.st ⟨undoL uq.st (uq.set.take k), uq.set⟩).set v zeroT) (US.set ⟨undoL uq.st (uq.set.take k), uq.set⟩) = ⟨undoL uq.st (uq.set.take (k + 1)), uq.set⟩ by show US.mk ((undoL uq.st (uq.set.take k)).set v zeroT) uq.set = _; rw [HTK.out]] at PP
        have UP := Lib.hid PP.1
        have FP := Lib.hid (HF.out.trans (HM.out.fine2 PP.2))
        clear PP hv hL HTK
        go_wp2
        go_roundw
        case rel => exact ⟨k + 1, _, by omega, by go_num, UP, FP⟩
        case measure => simp [intOf]; omega
      · obtain rfl : k = N := by omega
        have hge : ¬ (k : Int) < (k : Int) := by omega
        have HM2 := Lib.hid (show UM wr K2 P2 B ub sb n ⟨undoL uq.st uq.set, uq.set⟩ rv5 (.slice sA uq.set.length sc) xs' by have h := HM.out; rw [List.take_of_length_le (by rw [NH.out]; exact Nat.le_refl _)] at h; exact h)
        go_wp2
        go_ret
        rw [EQ.out]
        exact ⟨rfl, HMS.out _ _ _ _ _ HM2.out, BW5.trans (HF.out.mono (fun q _ hq => HTP.out q hq))⟩
  subst he
  have HQ4 := Lib.hid (HQ3.out.trans (if_pos rfl))
  have GR := Lib.hid (fun W (hW : Below w5.heap.size w5 W) => (HINV.out.ok).elim (fun rk hr => great_ok hr (U5.out.later hW).sub.read))
  obtain ⟨sA5, sc5, hsv⟩ := vform U5.out.srow
  have u1 := (sub_cell U5.out.ubc).2
  rw [hsv] at u1
  by_cases hs : uq.set = []
  · have EQ := Lib.hid (show Q = (0, uq.st) by rw [HQ4.out, if_neg (fun e => e.1 hs)])
    rw [hs] at u1
    have hu1 : w5.cell? ⟨ub, 1, none⟩ = some (.slice sA5 0 sc5) := u1
    clear u1 hs hsv HQ3 HQ4 GR
    as_aux_lemma =>
    go_wp2
    go_ret
    rw [EQ.out]
    exact ⟨rfl, HMS.out _ _ _ _ _ U5.out, HBW5.out⟩
  have hN0 : 0 < uq.set.length := by
    rcases h : uq.set with _ | ⟨x, l⟩
    · exact absurd h hs
    · simp
  have hN0i : (0 : Int) < (uq.set.length : Int) := by omega
  have dN : decide ((0 : Int) < (uq.set.length : Int)) = true := decide_eq_true hN0i
  by_cases hg : Great uq.st
  · have EQ := Lib.hid (show Q = (2, undoL uq.st uq.set) by rw [HQ4.out, if_pos ⟨hs, hg⟩])
    rw [decide_eq_true hg] at GR
    clear hs hg HQ3 HQ4 hsv
    go_wp2_with fail
    refine (GR.out _ (Below.refl _ _)).mono ?_; rintro e w6 ⟨rfl, hb6⟩
    have U5 := Lib.hid (U5.out.later hb6)
    have HBW5 := Lib.hid (HBW5.out.trans (Frm.of_below hb6 (Nat.le_refl _) _))
    have HB5 := Lib.hid (show B ≤ w6.heap.size by have := hb6.size; have := HB5.out; omega)
    clear hb6 GR u1
    obtain ⟨N, hN⟩ : ∃ N, N = uq.set.length := ⟨_, rfl⟩
    obtain ⟨sA, sc, rfl⟩ := vform U5.out.srow
    have NH := Lib.hid hN
    have hN2 : N ≤ 2000 := by have := HCN.out; omega
    have u1 := (sub_cell U5.out.ubc).2
    rw [← hN] at u1
    clear hN
    have BW5 := HBW5.out
    as_aux_lemma =>
    go_wp2
    go_loopw [43] (fun i wr => ∃ (k : Nat) (xs : List Value), k ≤ N ∧ i = .int .i64 k ∧ Hid (UM wr K2 P2 B ub sb n ⟨undoL uq.st (uq.set.take k), uq.set⟩ rv5 (.slice sA uq.set.length sc) xs) ∧ Hid (Frm w6 wr (Tn P2 B))) (fun i _ => N - (intOf i).toNat)
    case atStart => exact ⟨0, _, by omega, by first | rfl | trivial, Lib.hid (by rw [List.take_zero]; exact U5.out), Lib.hid (Frm.refl _ _)⟩
    case round =>
      obtain ⟨k, xs', hk, rfl, HM, HF⟩ := hrel
      by_cases hlt : k < N
      · have hlti : (k : Int) < (N : Int) := by omega
        have hks : k < uq.set.length := by rw [← NH.out]; exact hlt
        have hvs := HSET.out uq.set[k] (List.getElem_mem hks)
        have HTK := Lib.hid (undoL_take uq.st uq.set k hks)
        obtain ⟨v, hv⟩ : ∃ v : Nat, uq.set[k] = v := ⟨uq.set[k].toNat, by omega⟩
        have hcell := set_cell HM.out hks
        obtain ⟨gs, rfl, hcell⟩ := hcell
        rw [show (US.set ⟨undoL uq.st (uq.set.take k), uq.set⟩)[k] = uq.set[k] from rfl] at hcell
        rw [hv] at hcell hvs HTK
        rw [Int.toNat_natCast] at HTK
        have hvl : v < (undoL uq.st (uq.set.take k)).length := by rw [undoL_len]; omega
        obtain ⟨L, hL⟩ : ∃ L, L = (undoL uq.st (uq.set.take k)).length := ⟨_, rfl⟩
        obtain ⟨rA, rc, hrv, -⟩ := HM.out.sub.trow
        rw [show (US.st ⟨undoL uq.st (uq.set.take k), uq.set⟩).length = L from hL.symm] at hrv
        have ROW := Lib.hid HM.out.sub.row
        rw [show (US.st ⟨undoL uq.st (uq.set.take k), uq.set⟩).length = L from hL.symm] at ROW
        subst hrv
        rw [← hL] at hvl
        obtain ⟨g, rfl⟩ : ∃ g, rA = some ⟨g, 0, none⟩ := by
          rcases ROW.out.2 with ⟨e, e2⟩ | ⟨g, cap, cur, e, _⟩
          · omega
          · injection e with e; exact ⟨g, e⟩
        have s1 := (sub_cell HM.out.sub.sbc).2
        have hvli : (v : Int) < (L : Int) := by omega
        obtain ⟨⟨z0, o0⟩, f0⟩ := own_cell ROW.out rfl (show v * 4 < L * 4 by omega)
        obtain ⟨⟨z1, o1⟩, f1⟩ := own_cell ROW.out rfl (show v * 4 + 1 < L * 4 by omega)
        obtain ⟨⟨z2, o2⟩, f2⟩ := own_cell ROW.out rfl (show v * 4 + 2 < L * 4 by omega)
        obtain ⟨⟨z3, o3⟩, f3⟩ := own_cell ROW.out rfl (show v * 4 + 3 < L * 4 by omega)
        have PP := HM.out.put (t := zeroT) (A := none) (c := 0) (cap := rc) (g := g) v (by rw [← hL]; exact hvl) (.inl rfl) (by rw [← hL]) (v * 4) rfl
        rw [show US.mk ((US.st ⟨undoL uq.st (uq.set.take k), uq.set⟩).set v zeroT) (US.set ⟨undoL uq.st (uq.set.take k), uq.set⟩) = ⟨undoL uq.st (uq.set.take (k + 1)), uq.set⟩ by show US.mk ((undoL uq.st (uq.set.take k)).set v zeroT) uq.set = _; rw [HTK.out]] at PP
        have UP := Lib.hid PP.1
        have FP := Lib.hid (HF.out.trans (HM.out.fine2 PP.2))
        clear PP hv hL HTK
        go_wp2
        go_roundw
        case rel => exact ⟨k + 1, _, by omega, by go_num, UP, FP⟩
        case measure => simp [intOf]; omega
      · obtain rfl : k = N := by omega
        have hge : ¬ (k : Int) < (k : Int) := by omega
        have HM2 := Lib.hid (show UM wr K2 P2 B ub sb n ⟨undoL uq.st uq.set, uq.set⟩ rv5 (.slice sA uq.set.length sc) xs' by have h := HM.out; rw [List.take_of_length_le (by rw [NH.out]; exact Nat.le_refl _)] at h; exact h)
        go_wp2
        go_ret
        rw [EQ.out]
        exact ⟨rfl, HMS.out _ _ _ _ _ HM2.out, BW5.trans (HF.out.mono (fun q _ hq => HTP.out q hq))⟩
  · have EQ := Lib.hid (show Q = (0, uq.st) by rw [HQ4.out, if_neg (fun e => hg e.2)])
    rw [decide_eq_false hg] at GR
    clear hs hg HQ3 HQ4 hsv
    as_aux_lemma =>
    go_wp2_with fail
    refine (GR.out _ (Below.refl _ _)).mono ?_; rintro e w6 ⟨rfl, hb6⟩
    have U6 := Lib.hid (U5.out.later hb6)
    have B6 := Lib.hid (HBW5.out.trans (Frm.of_below hb6 (Nat.le_refl _) _))
    clear hb6 GR u1
    go_wp2
    go_ret
    rw [EQ.out]
    exact ⟨rfl, HMS.out _ _ _ _ _ U6.out, B6.out⟩
end Go.Proofs.YtifopogkbjhkjaaGreatDoor
namespace Go.Proofs.YtifopogkbjhkjaaGreatDoor
open DR
open Go.ChangeShapes Go.WideShapes Go.ChangeAt Go.RowKit Go.WideMaps
set_option linter.unusedVariables false
set_option linter.unusedSimpArgs false
/-- the result's four cells, written one by one. -/
abbrev set4 (w : World) (R : Nat) (a b c d : Value) : World := (((w.setCell ⟨R, 0, none⟩ a).setCell ⟨R, 1, none⟩ b).setCell ⟨R, 2, none⟩ c).setCell ⟨R, 3, none⟩ d
theorem set4_cells {w : World} {R : Nat} {y0 y1 y2 y3 : Value} (a b c d : Value) (h : w.heap[R]? = some (.cells #[y0, y1, y2, y3] TT24 (0, 0))) :
    (set4 w R a b c d).cell? ⟨R, 0, none⟩ = some a ∧ (set4 w R a b c d).cell? ⟨R, 1, none⟩ = some b ∧ (set4 w R a b c d).cell? ⟨R, 2, none⟩ = some c ∧ (set4 w R a b c d).cell? ⟨R, 3, none⟩ = some d := by
  have hf : (set4 w R a b c d).heap[R]? = some (.cells #[a, b, c, d] TT24 (0, 0)) := by simp [World.setCell, Array.getElem?_modify, h]
  refine ⟨?_, ?_, ?_, ?_⟩ <;> simp [World.cell?, hf]
theorem set4_keep (w : World) (R : Nat) (a b c d : Value) : ∀ k, k ≠ R → (set4 w R a b c d).heap[k]? = w.heap[k]? := fun k hk => by
  rw [Below.heap_setCell _ _ _ _ hk, Below.heap_setCell _ _ _ _ hk, Below.heap_setCell _ _ _ _ hk, Below.heap_setCell _ _ _ _ hk]
theorem set4_size (w : World) (R : Nat) (a b c d : Value) : (set4 w R a b c d).heap.size = w.heap.size := by simp [World.setCell]
theorem set4_below {B : Nat} {w0 w : World} {R : Nat} (a b c d : Value) (h : Below B w0 w) (hR : B ≤ R) : Below B w0 (set4 w R a b c d) :=
  (((h.setCell hR _).setCell hR _).setCell hR _).setCell hR _
theorem set4_ret {w wr : World} {R : Nat} {T : TT} {A : Option Addr} {P : Nat → Prop} {a b c d : Value} (hb : Below w.heap.size w wr) (hR : w.heap.size ≤ R) (hrow : TRow wr P A T.args) (hP : ∀ k, P k → w.heap.size ≤ k ∧ k ≠ R) :
    TRow (set4 wr R a b c d) (w.heap.size ≤ ·) A T.args ∧ Below w.heap.size w (set4 wr R a b c d) :=
  ⟨hrow.move (fun k _ hp => ⟨set4_keep wr R a b c d k (hP k hp).2, (hP k hp).1⟩) (by rw [set4_size]; exact Nat.le_refl _), set4_below a b c d hb hR⟩
/-- what the result's block is before it is written. -/
theorem zero_cells {w : World} {R : Nat} {y0 y1 y2 y3 : Value} (h : w.heap[R]? = some (.cells #[y0, y1, y2, y3] TT24 (0, 0))) :
    (w.cell? ⟨R, 0, none⟩ = some y0 ∧ w.cell? ⟨R, 1, none⟩ = some y1 ∧ w.cell? ⟨R, 2, none⟩ = some y2 ∧ w.cell? ⟨R, 3, none⟩ = some y3) ∧ w.frozen? ⟨R, 0, none⟩ = false ∧ w.frozen? ⟨R, 1, none⟩ = false ∧ w.frozen? ⟨R, 2, none⟩ = false ∧ w.frozen? ⟨R, 3, none⟩ = false := by
  refine ⟨⟨?_, ?_, ?_, ?_⟩, ?_, ?_, ?_, ?_⟩ <;> simp [World.cell?, World.frozen?, h]
set_option maxRecDepth 100000 in
/-- a type with all its variables replaced, R followed at each, by fuel. -/
def apuF (R : TT → TT) : Nat → TT → TT
  | 0, t => t
  | d + 1, t => .mk (R t).k (R t).nm (R t).vr ((R t).args.map (apuF R d))
theorem ap_deep {St : List TT} {rk : Int → Nat} (hst : StOk St rk) : ∀ t, shp t = true → ∃ N d0, ∀ d, d0 ≤ d → apuF (resF St) d t = N := by
  refine res_ind hst ?_
  intro t hsh ih
  have h1 : ∀ l : List TT, (∀ a ∈ l, ∃ N d0, ∀ d, d0 ≤ d → apuF (resF St) d a = N) → ∃ N D, ∀ d, D ≤ d → l.map (apuF (resF St) d) = N := by
    intro l
    induction l with
    | nil => intro _; exact ⟨[], 0, fun _ _ => rfl⟩
    | cons a r il =>
      intro h
      obtain ⟨N1, D1, h1⟩ := h a (by simp)
      obtain ⟨N2, D2, h2⟩ := il (fun b hb => h b (List.mem_cons_of_mem _ hb))
      exact ⟨N1 :: N2, max D1 D2, fun d hd => by rw [List.map_cons, h1 d (by omega), h2 d (by omega)]⟩
  obtain ⟨N, D, hD⟩ := h1 _ ih
  refine ⟨.mk (resF St t).k (resF St t).nm (resF St t).vr N, D + 1, fun d hd => ?_⟩
  obtain ⟨d', rfl⟩ : ∃ d', d = d' + 1 := ⟨d - 1, by omega⟩
  rw [apuF, hD d' (by omega)]
open Classical in
/-- a type with all its variables replaced. -/
noncomputable def apvF (St : List TT) (t : TT) : TT := if h : ∃ N d0, ∀ d, d0 ≤ d → apuF (resF St) d t = N then Classical.choose h else t
theorem app_deep {St : List TT} {rk : Int → Nat} (hst : StOk St rk) {t : TT} (hsh : shp t = true) : ∃ d0, ∀ d, d0 ≤ d → apuF (resF St) d t = apvF St t := by
  have h := ap_deep hst t hsh
  unfold apvF
  rw [dif_pos h]
  exact Classical.choose_spec h
theorem app_eq {St : List TT} {rk : Int → Nat} (hst : StOk St rk) {t : TT} (hsh : shp t = true) : apvF St t = .mk (resF St t).k (resF St t).nm (resF St t).vr ((resF St t).args.map (apvF St)) := by
  obtain ⟨d0, h0⟩ := app_deep hst hsh
  obtain ⟨D, hD⟩ := all_deep (p := fun a d => apuF (resF St) d a = apvF St a) (resF St t).args (fun a ha => app_deep hst (res_args hst hsh a ha))
  rw [← h0 (max d0 D + 1) (by omega), apuF]
  congr 1
  exact List.map_congr_left (fun a ha => hD a ha (max d0 D) (by omega))
set_option maxRecDepth 100000 in
set_option maxHeartbeats 8000000 in
theorem full_ok {St : List TT} {rk : Int → Nat} (hst : StOk St rk) {sb : Nat} {n : Int} : ∀ V : TT, shp V = true → ∀ (v : Value) (w : World), TIn w any0 V v → SubR w sb n St →
    Calls Tryz.prog 59 #[.pointer (some ⟨sb, 0, none⟩), v] w (CpPost w (apvF St V)) := by
  refine res_ind hst ?_
  intro V hsh ih v w ⟨A, c, hv, hA⟩ hsub
  obtain ⟨i0, hi0, hz0, hz1, hz2⟩ := info_parts infoT
  subst hv
  have hl2 := (shp_head (res_shp hst (resF_res hst V) hsh)).2.1
  have HAE := Lib.hid (app_eq hst hsh)
  have RS := Lib.hid (fun W (hW : Below w.heap.size w W) => resolve_ok hst (P := (· < w.heap.size)) (c := c) hsh ((hA.weak fun b hb _ => hb).later hW) (hsub.low.later hW))
  have HI := Lib.hid ih
  obtain ⟨T, hT⟩ : ∃ T, T = resF St V := ⟨_, rfl⟩
  obtain ⟨RF, hRF⟩ : ∃ RF, RF = apvF St := ⟨_, rfl⟩
  rw [← hT] at HAE RS HI hl2
  rw [← hRF] at HAE HI ⊢
  obtain ⟨args, ha⟩ : ∃ l, l = T.args := ⟨_, rfl⟩
  have HAR := Lib.hid ha
  unfold tv at RS ⊢
  rw [← ha] at HAE RS HI hl2
  obtain ⟨wA, hwA⟩ : ∃ z, z = (w.alloc (.cells #[.int .i64 V.k, .string V.nm, .int .i64 V.vr, .slice A V.args.length c] 24)).alloc (.cells #[.int .i64 0, .string ⟨#[]⟩, .int .i64 0, .slice none 0 0] 24) := ⟨_, rfl⟩
  have hba : Below w.heap.size w wA := by rw [hwA]; exact bt (below_alloc w _) (below_alloc _ _)
  have hza : wA.heap.size = w.heap.size + 2 := by rw [hwA]; simp
  have BXA := two_box (w := w) (.cells #[.int .i64 V.k, .string V.nm, .int .i64 V.vr, .slice A V.args.length c] 24) (.cells #[.int .i64 0, .string ⟨#[]⟩, .int .i64 0, .slice none 0 0] 24)
  rw [← hwA] at BXA
  obtain ⟨x0, x1, x2, x3⟩ := cell4 BXA.1
  have HBA := Lib.hid hba; have HZA := Lib.hid hza; have BXA := Lib.hid BXA; have HSUB := Lib.hid hsub
  have HWA := Lib.hid hwA
  clear ih ha hA hba hza hsub hsh hwA hst hT hRF
  go_enter Tryz.func59, Tryz.ntmps59
  go_wp2_with fail
  rw [← HWA.out]
  go_wp2_with fail
  refine (RS.out _ HBA.out).mono ?_; rintro e w1 ⟨A1, c1, rfl, hr1, hb1⟩
  have hr1 := hr1.later hb1
  have hx1 : w1.heap[w.heap.size]? = some (.cells #[.int .i64 V.k, .string V.nm, .int .i64 V.vr, .slice A V.args.length c] 24 (0, 0)) := (hb1.block _ (by rw [HZA.out]; omega)).trans BXA.out.1
  have hx2 : w1.heap[w.heap.size + 1]? = some (.cells #[.int .i64 0, .string ⟨#[]⟩, .int .i64 0, .slice none 0 0] 24 (0, 0)) := (hb1.block _ (by rw [HZA.out]; omega)).trans BXA.out.2
  obtain ⟨⟨e0, e1, e2, e3⟩, g0, g1, g2, g3⟩ := zero_cells hx1
  obtain ⟨wB, hwB⟩ : ∃ z, z = ((((w1.setCell ⟨w.heap.size, 0, none⟩ (.int .i64 T.k)).setCell ⟨w.heap.size, 1, none⟩ (.string T.nm)).setCell ⟨w.heap.size, 2, none⟩ (.int .i64 T.vr)).setCell ⟨w.heap.size, 3, none⟩ (.slice A1 args.length c1)) := ⟨_, rfl⟩
  have HB : Hid (Below w.heap.size w wB) := Lib.hid (by rw [hwB]; exact set4_below _ _ _ _ (bt HBA.out hb1) (Nat.le_refl _))
  have HZ : Hid (w.heap.size + 2 ≤ wB.heap.size) := Lib.hid (by rw [hwB]; refine Nat.le_trans ?_ (Nat.le_of_eq (set4_size w1 w.heap.size _ _ _ _).symm); have := hb1.size; rw [HZA.out] at this; exact this)
  have BX : Hid (wB.heap[w.heap.size]? = some (.cells #[.int .i64 T.k, .string T.nm, .int .i64 T.vr, .slice A1 args.length c1] 24 (0, 0)) ∧ wB.heap[w.heap.size + 1]? = some (.cells #[.int .i64 0, .string ⟨#[]⟩, .int .i64 0, .slice none 0 0] 24 (0, 0))) := Lib.hid (by
    rw [hwB]
    exact ⟨by simp [World.setCell, Array.getElem?_modify, hx1], (set4_keep w1 w.heap.size _ _ _ _ _ (by omega)).trans hx2⟩)
  have HA : Hid (TRow wB any0 A1 args) := Lib.hid (by
    have f : Frm w1 wB (· = w.heap.size) := by rw [hwB]; exact frm4 w1 w.heap.size _ _ _ _
    exact hr1.move (P' := any0) (fun b hb (hp : b < w.heap.size) => ⟨f.block b hb (by show ¬ b = w.heap.size; omega), trivial⟩) f.size)
  obtain ⟨u0, u1, u2, u3⟩ := cell4 BX.out.1
  have HWB := Lib.hid hwB
  clear hb1 hx1 hx2 hwB RS x0 x1 x2 x3
  go_wp2
  rw [← HWB.out]
  clear e0 e1 e2 e3 g0 g1 g2 g3
  go_loopw [5, 14] (fun vv i wr => ∃ (k : Nat) (v : Value) (xs : List Value), v = vv ∧ k ≤ args.length ∧ i = .int .i64 k ∧ Hid (CpS wB wr v k ((args.take k).map RF) xs)) (fun _ i _ => args.length - (intOf i).toNat)
  case atStart => exact ⟨0, _, [], rfl, by omega, rfl, Lib.hid (by rw [List.take_zero]; exact cp_start wB)⟩
  case round =>
    obtain ⟨k, v, xs, rfl, hk, rfl, HS⟩ := hrel
    by_cases hlt : k < args.length
    · have hlti : (k : Int) < (args.length : Int) := by omega
      obtain ⟨b, o, rfl, hb, hr⟩ := HA.out.at (by omega)
      have hBr : Below w.heap.size w wr := bt HB.out HS.out.bel
      obtain ⟨A', c', x0, x1, x2, x3, hin⟩ := hr wr HS.out.bel k hlt
      have CALL : Hid (∀ W, Below wr.heap.size wr W → Calls Tryz.prog 59 #[.pointer (some ⟨sb, 0, none⟩), .agg #[.int .i64 args[k].k, .string args[k].nm, .int .i64 args[k].vr, .slice A' args[k].args.length c']] W (CpPost W (RF args[k]))) := Lib.hid (fun W hW => HI.out args[k] (List.getElem_mem hlt) _ W (hin.later hW) (HSUB.out.later (bt hBr hW)))
      have HT : Hid ((args.take (k + 1)).map RF = (args.take k).map RF ++ [RF args[k]]) := Lib.hid (by rw [List.take_succ_eq_append_getElem hlt, List.map_append]; rfl)
      obtain ⟨G, hG⟩ : ∃ G, G = RF args[k] := ⟨_, rfl⟩
      rw [← hG] at CALL HT
      obtain ⟨Ar, cr, rfl⟩ := vform HS.out.own
      have hs0 := HS.out.bel.size
      clear hr hin hb HI hBr hG
      go_wp2_with fail
      refine (CALL.out _ (below_alloc wr _)).mono ?_; rintro e w2 ⟨A2, c2, rfl, hr2, hb2⟩
      have hsz1 : (wr.alloc (.cells #[.int .i64 args[k].k, .string args[k].nm, .int .i64 args[k].vr, .slice A' args[k].args.length c'] 24)).heap.size = wr.heap.size + 1 := by simp
      have B2 := Lib.hid (bt (below_alloc wr (.cells #[.int .i64 args[k].k, .string args[k].nm, .int .i64 args[k].vr, .slice A' args[k].args.length c'] 24)) hb2)
      have R2 : Hid (TRow w2 (wr.heap.size ≤ ·) A2 G.args) := Lib.hid (hr2.weak (fun b _ h => by rw [hsz1] at h; omega))
      have OW2 := Lib.hid (own_bl HS.out.own B2.out)
      have hs2 := B2.out.size
      clear hr2 hb2 CALL x0 x1 x2 x3 hsz1
      unfold tv
      go_wp2_with (at_builtin; refine wpList_append_lies _ rfl (.tmp 18) (.tmp 22) 22 rfl wB.heap.size TT24 i0 (.agg #[.int .i64 0, .string .empty, .int .i64 0, .slice none 0 0]) 4 56 Tryz.underlying22 hi0 hz0 hz1 hz2 rfl (by decide) (.slice Ar k cr) k xs rfl (OW2.out.alloc _) ⟨w2.heap.size, 0, none⟩ 1 1 (kidT G A2 c2) rfl rfl (kid_news (by have := heap_alloc_new w2 (.cells #[.int .i64 G.k, .string G.nm, .int .i64 G.vr, .slice A2 G.args.length c2] 24); simpa using this)) (kid_one _ _ _) (by omega) (by unfold maxLen; omega) (by omega) (by simp; omega) (w2.heap.size + 1) (by simp) ?_; intro g cap w4 own4 gr4 at4 hlt4)
      have ST4 : Hid (CpS wB w4 (.slice (some ⟨g, 0, none⟩) (k + 1) cap) (k + 1) ((args.take (k + 1)).map RF) (xs ++ kidT G A2 c2)) := Lib.hid (by
        rw [HT.out]
        exact cp_step HS.out B2.out R2.out _ own4 gr4 (by
          rcases at4 with e | e
          · exact .inl e.symm
          · right; rw [e]; simp [Value.ownBlock]))
      clear own4 gr4 at4 OW2 R2 B2
      go_wp2
      go_roundw
      case rel => exact ⟨k + 1, _, _, rfl, by omega, by go_num, ST4⟩
      case measure => simp [intOf]; omega
    · obtain rfl : k = args.length := by omega
      have hge : ¬ (args.length : Int) < (args.length : Int) := by omega
      obtain ⟨A', c', rfl, hrow⟩ := cp_fin HS.out
      rw [List.take_length] at hrow
      have HROW := Lib.hid hrow
      have hbx : wr.heap[w.heap.size]? = some (.cells #[.int .i64 T.k, .string T.nm, .int .i64 T.vr, .slice A1 args.length c1] 24 (0, 0)) := (HS.out.bel.block w.heap.size (by have := HZ.out; omega)).trans BX.out.1
      have hrs : wr.heap[w.heap.size + 1]? = some (.cells #[.int .i64 0, .string ⟨#[]⟩, .int .i64 0, .slice none 0 0] 24 (0, 0)) := (HS.out.bel.block (w.heap.size + 1) (by have := HZ.out; omega)).trans BX.out.2
      obtain ⟨z0, z1, z2, z3⟩ := cell4 hbx
      have y0 : wr.cell? ⟨w.heap.size + 1, 0, none⟩ = some (.int .i64 0) := by simp [World.cell?, hrs]
      have y1 : wr.cell? ⟨w.heap.size + 1, 1, none⟩ = some (.string ⟨#[]⟩) := by simp [World.cell?, hrs]
      have y2 : wr.cell? ⟨w.heap.size + 1, 2, none⟩ = some (.int .i64 0) := by simp [World.cell?, hrs]
      have y3 : wr.cell? ⟨w.heap.size + 1, 3, none⟩ = some (.slice none 0 0) := by simp [World.cell?, hrs]
      have f0 : ∀ j, wr.frozen? ⟨w.heap.size, j, none⟩ = false := fun j => by simp [World.frozen?, hbx]
      have f1 : ∀ j, wr.frozen? ⟨w.heap.size + 1, j, none⟩ = false := fun j => by simp [World.frozen?, hrs]
      have g3 := f0 3
      have k0 := f1 0; have k1 := f1 1; have k2 := f1 2; have k3 := f1 3
      have HBX := Lib.hid hbx
      have HRS := Lib.hid hrs
      clear hrow hbx hrs f0 f1
      have BWR := Lib.hid (bt HB.out (HS.out.bel.mono (by have := HZ.out; omega)))
      have SZ := HS.out.bel.size
      have hsz2 := HZ.out
      go_wp2
      obtain ⟨wf, hwf⟩ : ∃ wf, wf = (((((wr.setCell ⟨w.heap.size, 3, none⟩ (.slice A' args.length c')).setCell ⟨w.heap.size + 1, 0, none⟩ (.int .i64 T.k)).setCell ⟨w.heap.size + 1, 1, none⟩ (.string T.nm)).setCell ⟨w.heap.size + 1, 2, none⟩ (.int .i64 T.vr)).setCell ⟨w.heap.size + 1, 3, none⟩ (.slice A' args.length c')) := ⟨_, rfl⟩
      rw [← hwf]
      have hf : wf.heap[w.heap.size + 1]? = some (.cells #[.int .i64 T.k, .string T.nm, .int .i64 T.vr, .slice A' args.length c'] 24 (0, 0)) := by rw [hwf]; simp [World.setCell, Array.getElem?_modify, HRS.out]
      have HK : Hid (∀ b, wB.heap.size ≤ b → wf.heap[b]? = wr.heap[b]?) := Lib.hid (fun b hb => by
        rw [hwf, Below.heap_setCell _ _ _ _ (by show b ≠ w.heap.size + 1; omega), Below.heap_setCell _ _ _ _ (by show b ≠ w.heap.size + 1; omega), Below.heap_setCell _ _ _ _ (by show b ≠ w.heap.size + 1; omega), Below.heap_setCell _ _ _ _ (by show b ≠ w.heap.size + 1; omega), Below.heap_setCell _ _ _ _ (by show b ≠ w.heap.size; omega)])
      have HBF : Hid (Below w.heap.size w wf) := Lib.hid (by
        rw [hwf]
        exact ((((BWR.out.setCell (Nat.le_refl _) _).setCell (Nat.le_succ _) _).setCell (Nat.le_succ _) _).setCell (Nat.le_succ _) _).setCell (Nat.le_succ _) _)
      have HSZF : Hid (wf.heap.size = wr.heap.size) := Lib.hid (by rw [hwf]; simp [World.setCell])
      have t0 : wf.cell? ⟨w.heap.size + 1, 0, none⟩ = some (.int .i64 T.k) := by simp [World.cell?, hf]
      have t1 : wf.cell? ⟨w.heap.size + 1, 1, none⟩ = some (.string T.nm) := by simp [World.cell?, hf]
      have t2 : wf.cell? ⟨w.heap.size + 1, 2, none⟩ = some (.int .i64 T.vr) := by simp [World.cell?, hf]
      have t3 : wf.cell? ⟨w.heap.size + 1, 3, none⟩ = some (.slice A' args.length c') := by simp [World.cell?, hf]
      clear hf hwf y0 y1 y2 y3 z0 z1 z2 z3 g3 k0 k1 k2 k3
      (try simp only [Exit.inBlock, Exit.then])
      refine bodyPost_ret (by simp [results, Tryz.results59, go_sem, t0, t1, t2, t3]; try rfl) rfl ?_
      refine ⟨A', c', (by rw [HAE.out]; unfold tv; simp [TT.k, TT.nm, TT.vr, TT.args]), ?_, HBF.out⟩
      rw [HAE.out]
      exact HROW.out.move (fun b hb hp => ⟨HK.out b hp, Nat.le_trans (by omega) hp⟩) (by have := HSZF.out; omega)
end Go.Proofs.YtifopogkbjhkjaaGreatDoor
