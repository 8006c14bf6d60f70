import Derived.Test.YtdkfimejabanlaaDoorYj
namespace Go.Proofs.YtdkfimejabanlaaDoor
open Go.ChangeShapes Go.WideShapes Go.ChangeAt Go.RowKit Go.WideMaps
set_option linter.unusedVariables false
set_option linter.unusedSimpArgs false
abbrev UniY : TypeId := 65
theorem obj_ne {a b : Array Value} {t t' : TypeId} {fr fr' : Nat × Nat} (h : some (Obj.cells a t fr) = some (Obj.cells b t' fr')) (hn : t ≠ t') : False := by
  injection h with h; injection h with _ h; exact hn h
/-- blocks that may turn: those from B on that are not kept. -/
def Tn (Pr : Nat → Prop) (B : Nat) : Nat → Prop := fun b => B ≤ b ∧ ¬ Pr b
/-- a substitution in memory, to be written: what it holds lies in blocks of K. -/
structure SubW (w : World) (K Pr : Nat → Prop) (B sb : Nat) (n : Int) (St : List TT) (rv : Value) (xs : List Value) : Prop where
  sbc : w.heap[sb]? = some (.cells #[.int .i64 n, rv] SubY (0, 0))
  row : w.ownsRow B TT24 4 rv St.length xs
  kids : KidsT w K St xs
  nsb : ¬ Pr sb
  nrv : ∀ b, rv.ownBlock = some b → ¬ Pr b
  lo : B ≤ sb
  kb : ∀ b, Pr b → b < w.heap.size
  kp : ∀ b, K b → Pr b
theorem SubW.slt {w : World} {K Pr : Nat → Prop} {B sb : Nat} {n : Int} {St : List TT} {rv : Value} {xs : List Value} (h : SubW w K Pr B sb n St rv xs) : sb < w.heap.size := (Array.getElem?_eq_some_iff.1 h.sbc).1
theorem SubW.frm {w w' : World} {K Pr R : Nat → Prop} {B sb : Nat} {n : Int} {St : List TT} {rv : Value} {xs : List Value} (h : SubW w K Pr B sb n St rv xs) (f : Frm w w' R) (h1 : ∀ b, K b → ¬ R b) (h2 : ¬ R sb) (h3 : ∀ b, rv.ownBlock = some b → ¬ R b) : SubW w' K Pr B sb n St rv xs :=
  ⟨(f.block sb h.slt h2).trans h.sbc, own_frm h.row f h3, h.kids.move (fun b hb hk => ⟨f.block b hb (h1 b hk), hk⟩) f.size, h.nsb, h.nrv, h.lo, fun b hk => Nat.lt_of_lt_of_le (h.kb b hk) f.size, h.kp⟩
theorem SubW.later {w w' : World} {K Pr : Nat → Prop} {B sb : Nat} {n : Int} {St : List TT} {rv : Value} {xs : List Value} (h : SubW w K Pr B sb n St rv xs) (hb : Below w.heap.size w w') : SubW w' K Pr B sb n St rv xs :=
  h.frm (Frm.of_below hb (Nat.le_refl _) (fun _ => False)) (fun _ _ h => h) (fun h => h) (fun _ _ h => h)
theorem SubW.rne {w : World} {K Pr : Nat → Prop} {B sb : Nat} {n : Int} {St : List TT} {rv : Value} {xs : List Value} (h : SubW w K Pr B sb n St rv xs) : ∀ b, rv.ownBlock = some b → b ≠ sb := fun b hb e => by
  obtain ⟨cur, hc⟩ := own_type h.row hb
  rw [e, h.sbc] at hc
  exact obj_ne hc (by decide)
/-- to be read. -/
theorem SubW.trow {w : World} {K Pr : Nat → Prop} {B sb : Nat} {n : Int} {St : List TT} {rv : Value} {xs : List Value} (h : SubW w K Pr B sb n St rv xs) : ∃ A c, rv = .slice A St.length c ∧ (St.length = 0 ∨ ∃ g, A = some ⟨g, 0, none⟩ ∧ g < w.heap.size ∧ okTL w K St g 0) := by
  rcases h.row.2 with ⟨q1, q2⟩ | ⟨g, cap, cur, q1, q2, q3, q4, q5, q6, q7⟩
  · exact ⟨none, 0, by rw [q1, q2], .inl q2⟩
  · refine ⟨_, _, q1, .inr ⟨g, rfl, (Array.getElem?_eq_some_iff.1 q3).1, ?_⟩⟩
    refine KidsT.row h.kids (fun j hj => ?_)
    rw [Nat.zero_add]
    have hown := h.row
    rw [q1] at hown
    exact (hown.cellAt j (by rw [← hown.1]; exact hj)).trans (List.getElem?_eq_getElem hj)
theorem okTL_weak {w : World} {P P' : Nat → Prop} (hp : ∀ b, P b → P' b) {l : List TT} {b o : Nat} (h : okTL w P l b o) : okTL w P' l b o := by
  by_cases hl : l.length = 0
  · have := List.eq_nil_of_length_eq_zero hl
    subst this
    rw [okTL]; trivial
  · have hx : TRow w P' (some ⟨b, o, none⟩) l ∨ True := .inr trivial
    clear hx
    revert b o
    refine TT.rec_1 (motive_1 := fun v => ∀ b o, okT w P v b o → okT w P' v b o) (motive_2 := fun l => ∀ {b o}, okTL w P l b o → okTL w P' l b o) ?_ ?_ ?_ l
    · intro k nm vr args ih b o h
      rw [okT] at h ⊢
      obtain ⟨c0, c1, c2, A, c, c3, h4⟩ := h
      refine ⟨c0, c1, c2, A, c, c3, ?_⟩
      rcases h4 with h4 | ⟨b', o', h4, h5, h6, h7⟩
      · exact .inl h4
      · exact .inr ⟨b', o', h4, h5, hp _ h6, ih h7⟩
    · intro b o h; rw [okTL]; trivial
    · intro v l iv il b o h
      rw [okTL] at h ⊢
      exact ⟨iv _ _ h.1, il h.2⟩
theorem SubW.read {w : World} {K Pr : Nat → Prop} {B sb : Nat} {n : Int} {St : List TT} {rv : Value} {xs : List Value} (h : SubW w K Pr B sb n St rv xs) : SubR w sb n St := by
  obtain ⟨A, c, h1, h2⟩ := h.trow
  refine ⟨A, c, by rw [← h1]; exact h.sbc, ?_⟩
  rcases h2 with h2 | ⟨g, h2, h3, h4⟩
  · exact .inl h2
  · exact .inr ⟨g, 0, h2, h3, trivial, okTL_weak (fun _ _ => trivial) h4⟩
/-- one more place that holds nothing. -/
theorem SubW.push {w wa w4 : World} {K Pr : Nat → Prop} {B sb : Nat} {n : Int} {St : List TT} {rv v' : Value} {xs : List Value} (h : SubW w K Pr B sb n St rv xs) (hB : B ≤ w.heap.size) (hw : Below w.heap.size w wa) (own4 : w4.ownsRow B TT24 4 v' (St.length + 1) (xs ++ kidT zeroT none 0)) (gr4 : wa.grownBy w4 rv.ownBlock) (at4 : v'.ownBlock = rv.ownBlock ∨ v'.ownBlock = some wa.heap.size) :
    SubW (w4.setCell ⟨sb, 1, none⟩ v') K Pr B sb n (St ++ [zeroT]) v' (xs ++ kidT zeroT none 0) ∧ Frm w (w4.setCell ⟨sb, 1, none⟩ v') (fun b => b = sb ∨ rv.ownBlock = some b) := by
  have hv : ∀ b, rv.ownBlock = some b → B ≤ b ∧ b < w.heap.size := fun b hb => h.row.lt b hb
  have hs := hw.size
  have h4s := gr4.size
  have hsb := h.slt
  have hne := h.rne
  have hvk : ∀ b, v'.ownBlock = some b → ¬ Pr b ∧ b ≠ sb := fun b hb => by
    rcases at4 with e | e
    · rw [e] at hb; exact ⟨h.nrv b hb, hne b hb⟩
    · rw [e] at hb; injection hb with hb
      exact ⟨fun hk => by have := h.kb b hk; omega, by omega⟩
  have f1 : Frm w w4 (fun b => rv.ownBlock = some b) := (Frm.of_below hw (Nat.le_refl _) _).trans (Frm.of_grown gr4 (fun k hk => hk))
  have f2 : Frm w4 (w4.setCell ⟨sb, 1, none⟩ v') (· = sb) := frm_set (R := (· = sb)) 1 v' rfl
  have f3 : Frm w (w4.setCell ⟨sb, 1, none⟩ v') (fun b => b = sb ∨ rv.ownBlock = some b) := (f1.mono (fun k _ hk => .inr hk)).trans' f2 (fun i _ hi => .inl hi)
  have hk4 : ∀ b, K b → ¬ (b = sb ∨ rv.ownBlock = some b) := fun b hk hh => by
    rcases hh with e | e
    · exact h.nsb (e ▸ h.kp b hk)
    · exact h.nrv b e (h.kp b hk)
  have c4 : w4.heap[sb]? = some (.cells #[.int .i64 n, rv] SubY (0, 0)) := (f1.block sb hsb (fun e => hne sb e rfl)).trans h.sbc
  refine ⟨⟨by simp [World.setCell, Array.getElem?_modify, c4], ?_, ?_, h.nsb, fun b hb => (hvk b hb).1, h.lo, fun b hk => Nat.lt_of_lt_of_le (h.kb b hk) f3.size, h.kp⟩, f3⟩
  · rw [List.length_append, List.length_singleton]
    exact own_frm own4 f2 (fun b hb e => (hvk b hb).2 e)
  · refine KidsT.snoc (.inl rfl) ?_
    exact h.kids.move (fun b hb hk => ⟨f3.block b hb (hk4 b hk), hk⟩) f3.size
/-- four cells of a row. -/
def setK (xs : List Value) (x : Nat) (t : TT) (A : Option Addr) (c : Nat) : List Value := (((xs.set (x * 4) (.int .i64 t.k)).set (x * 4 + 1) (.string t.nm)).set (x * 4 + 2) (.int .i64 t.vr)).set (x * 4 + 3) (.slice A t.args.length c)
theorem KidsT.put {w : World} {P : Nat → Prop} {t : TT} {A : Option Addr} {c : Nat} (hr : TRow w P A t.args) : ∀ {l : List TT} {xs : List Value} {x : Nat}, x < l.length → KidsT w P l xs → KidsT w P (l.set x t) (setK xs x t A c)
  | v :: l, xs, 0, _, ⟨A', c', ys, h1, h3, h4⟩ => by
    subst h1
    exact ⟨A, c, ys, by simp [setK, kidT], hr, h4⟩
  | v :: l, xs, x + 1, hx, ⟨A', c', ys, h1, h3, h4⟩ => by
    subst h1
    refine ⟨A', c', setK ys x t A c, ?_, h3, KidsT.put hr (by simpa using hx) h4⟩
    unfold setK kidT
    rw [show (x + 1) * 4 = x * 4 + 4 by omega]
    simp [List.set_cons_succ]
theorem own_set {w : World} {B e s n g : Nat} {v : Value} {xs : List Value} (h : w.ownsRow B e s v n xs) (hg : v.ownBlock = some g) (i : Nat) (y : Value) : (w.setCell ⟨g, i, none⟩ y).ownsRow B e s v n (xs.set i y) := by
  refine ⟨by rw [List.length_set]; exact h.1, ?_⟩
  rcases h.2 with ⟨rfl, _⟩ | ⟨g', cap, cur, rfl, e2, e3, e4, e5, e6, e7⟩
  · cases hg
  · simp only [Value.ownBlock] at hg
    injection hg with hg
    subst hg
    refine .inr ⟨g', cap, cur.setIfInBounds i y, rfl, e2, by simp [World.setCell, Array.getElem?_modify, e3], e4, e5, by simpa using e6, ?_⟩
    rw [Array.toList_setIfInBounds, List.take_set, e7]
/-- v stands for t now. -/
theorem SubW.put {w : World} {K Pr : Nat → Prop} {B sb g cap : Nat} {n : Int} {St : List TT} {rv : Value} {xs : List Value} {t : TT} {A : Option Addr} {c : Nat} (h : SubW w K Pr B sb n St rv xs) (x : Nat) (hx : x < St.length) (hr : TRow w K A t.args) (hg : rv = .slice (some ⟨g, 0, none⟩) St.length cap) (p : Nat) (hp : p = x * 4) :
    SubW ((((w.setCell ⟨g, p, none⟩ (.int .i64 t.k)).setCell ⟨g, p + 1, none⟩ (.string t.nm)).setCell ⟨g, p + 2, none⟩ (.int .i64 t.vr)).setCell ⟨g, p + 3, none⟩ (.slice A t.args.length c)) K Pr B sb n (St.set x t) rv (setK xs x t A c) ∧ Frm w ((((w.setCell ⟨g, p, none⟩ (.int .i64 t.k)).setCell ⟨g, p + 1, none⟩ (.string t.nm)).setCell ⟨g, p + 2, none⟩ (.int .i64 t.vr)).setCell ⟨g, p + 3, none⟩ (.slice A t.args.length c)) (fun b => rv.ownBlock = some b) := by
  subst hp
  have hob : rv.ownBlock = some g := by rw [hg]; rfl
  have f : Frm w ((((w.setCell ⟨g, x * 4, none⟩ (.int .i64 t.k)).setCell ⟨g, x * 4 + 1, none⟩ (.string t.nm)).setCell ⟨g, x * 4 + 2, none⟩ (.int .i64 t.vr)).setCell ⟨g, x * 4 + 3, none⟩ (.slice A t.args.length c)) (fun b => rv.ownBlock = some b) :=
    (frm_set (R := (fun b => rv.ownBlock = some b)) _ _ hob).trans ((frm_set _ _ hob).trans ((frm_set _ _ hob).trans (frm_set _ _ hob)))
  have hk : ∀ b, K b → ¬ rv.ownBlock = some b := fun b hk e => h.nrv b e (h.kp b hk)
  refine ⟨⟨(f.block sb h.slt (fun e => h.rne sb e rfl)).trans h.sbc, ?_, ?_, h.nsb, h.nrv, h.lo, fun b hk => Nat.lt_of_lt_of_le (h.kb b hk) f.size, h.kp⟩, f⟩
  · rw [List.length_set]
    exact own_set (own_set (own_set (own_set h.row hob _ _) hob _ _) hob _ _) hob _ _
  · exact KidsT.put (hr.move (fun b hb hp => ⟨f.block b hb (hk b hp), hp⟩) f.size) hx (h.kids.move (fun b hb hp => ⟨f.block b hb (hk b hp), hp⟩) f.size)
/-- the one that unifies, and its substitution. -/
structure UM (w : World) (K Pr : Nat → Prop) (B ub sb : Nat) (n : Int) (u : US) (rv sv : Value) (xs : List Value) : Prop where
  sub : SubW w K Pr B sb n u.st rv xs
  ubc : w.heap[ub]? = some (.cells #[.pointer (some ⟨sb, 0, none⟩), sv] UniY (0, 0))
  srow : w.ownsRow B 3 1 sv u.set.length (u.set.map (fun x => Value.int .i64 x))
  nub : ¬ Pr ub
  nsv : ∀ b, sv.ownBlock = some b → ¬ Pr b
  lou : B ≤ ub
theorem UM.ult {w : World} {K Pr : Nat → Prop} {B ub sb : Nat} {n : Int} {u : US} {rv sv : Value} {xs : List Value} (h : UM w K Pr B ub sb n u rv sv xs) : ub < w.heap.size := (Array.getElem?_eq_some_iff.1 h.ubc).1
theorem UM.later {w w' : World} {K Pr : Nat → Prop} {B ub sb : Nat} {n : Int} {u : US} {rv sv : Value} {xs : List Value} (h : UM w K Pr B ub sb n u rv sv xs) (hb : Below w.heap.size w w') : UM w' K Pr B ub sb n u rv sv xs :=
  ⟨h.sub.later hb, (hb.block ub h.ult).trans h.ubc, own_bl h.srow hb, h.nub, h.nsv, h.lou⟩
theorem UM.uread {w : World} {K Pr : Nat → Prop} {B ub sb : Nat} {n : Int} {u : US} {rv sv : Value} {xs : List Value} (h : UM w K Pr B ub sb n u rv sv xs) : UniR w ub sb n u.st := ⟨⟨_, h.ubc⟩, h.sub.read⟩
/-- all these blocks are different: by their elements. -/
theorem UM.apart {w : World} {K Pr : Nat → Prop} {B ub sb : Nat} {n : Int} {u : US} {rv sv : Value} {xs : List Value} (h : UM w K Pr B ub sb n u rv sv xs) : sb ≠ ub ∧ (∀ b, rv.ownBlock = some b → b ≠ ub ∧ sv.ownBlock ≠ some b) ∧ ∀ b, sv.ownBlock = some b → b ≠ ub ∧ b ≠ sb := by
  refine ⟨fun e => ?_, fun b hb => ⟨fun e => ?_, fun e => ?_⟩, fun b hb => ⟨fun e => ?_, fun e => ?_⟩⟩
  · have h1 := h.sub.sbc; rw [e, h.ubc] at h1; exact obj_ne h1 (by decide)
  · obtain ⟨cur, hc⟩ := own_type h.sub.row hb; rw [e, h.ubc] at hc; exact obj_ne hc (by decide)
  · obtain ⟨cur, hc⟩ := own_type h.sub.row hb; obtain ⟨cur', hc'⟩ := own_type h.srow e; rw [hc] at hc'; exact obj_ne hc' (by decide)
  · obtain ⟨cur, hc⟩ := own_type h.srow hb; rw [e, h.ubc] at hc; exact obj_ne hc (by decide)
  · obtain ⟨cur, hc⟩ := own_type h.srow hb; rw [e, h.sub.sbc] at hc; exact obj_ne hc (by decide)
theorem UM.tn {w : World} {K Pr : Nat → Prop} {B ub sb : Nat} {n : Int} {u : US} {rv sv : Value} {xs : List Value} (h : UM w K Pr B ub sb n u rv sv xs) : Tn Pr B sb ∧ Tn Pr B ub ∧ (∀ b, rv.ownBlock = some b → Tn Pr B b) ∧ ∀ b, sv.ownBlock = some b → Tn Pr B b :=
  ⟨⟨h.sub.lo, h.sub.nsb⟩, ⟨h.lou, h.nub⟩, fun b hb => ⟨(h.sub.row.lt b hb).1, h.sub.nrv b hb⟩, fun b hb => ⟨(h.srow.lt b hb).1, h.nsv b hb⟩⟩
theorem UM.push {w wa w4 : World} {K Pr : Nat → Prop} {B ub sb : Nat} {n : Int} {u : US} {rv sv v' : Value} {xs : List Value} (h : UM w K Pr B ub sb n u rv sv xs) (hB : B ≤ w.heap.size) (hw : Below w.heap.size w wa) (own4 : w4.ownsRow B TT24 4 v' (u.st.length + 1) (xs ++ kidT zeroT none 0)) (gr4 : wa.grownBy w4 rv.ownBlock) (at4 : v'.ownBlock = rv.ownBlock ∨ v'.ownBlock = some wa.heap.size) :
    UM (w4.setCell ⟨sb, 1, none⟩ v') K Pr B ub sb n ⟨u.st ++ [zeroT], u.set⟩ v' sv (xs ++ kidT zeroT none 0) ∧ Frm w (w4.setCell ⟨sb, 1, none⟩ v') (fun b => b = sb ∨ rv.ownBlock = some b) := by
  obtain ⟨h1, f⟩ := h.sub.push hB hw own4 gr4 at4
  obtain ⟨a1, a2, a3⟩ := h.apart
  refine ⟨⟨h1, (f.block ub h.ult (fun e => ?_)).trans h.ubc, own_frm h.srow f (fun b hb e => ?_), h.nub, h.nsv, h.lou⟩, f⟩
  · rcases e with e | e
    · exact a1 e.symm
    · exact (a2 ub e).1 rfl
  · rcases e with e | e
    · exact (a3 b hb).2 e
    · exact (a2 b e).2 hb
theorem UM.fine {w w' : World} {K Pr : Nat → Prop} {B ub sb : Nat} {n : Int} {u : US} {rv sv : Value} {xs : List Value} (h : UM w K Pr B ub sb n u rv sv xs) (f : Frm w w' (fun b => b = sb ∨ rv.ownBlock = some b)) : Frm w w' (Tn Pr B) := f.mono (fun b hb e => by
  rcases e with e | e
  · exact e ▸ h.tn.1
  · exact h.tn.2.2.1 b e)
theorem UM.put {w : World} {K Pr : Nat → Prop} {B ub sb g cap : Nat} {n : Int} {u : US} {rv sv : Value} {xs : List Value} {t : TT} {A : Option Addr} {c : Nat} (h : UM w K Pr B ub sb n u rv sv xs) (x : Nat) (hx : x < u.st.length) (hr : TRow w K A t.args) (hg : rv = .slice (some ⟨g, 0, none⟩) u.st.length cap) (p : Nat) (hp : p = x * 4) :
    UM ((((w.setCell ⟨g, p, none⟩ (.int .i64 t.k)).setCell ⟨g, p + 1, none⟩ (.string t.nm)).setCell ⟨g, p + 2, none⟩ (.int .i64 t.vr)).setCell ⟨g, p + 3, none⟩ (.slice A t.args.length c)) K Pr B ub sb n ⟨u.st.set x t, u.set⟩ rv sv (setK xs x t A c) ∧ Frm w ((((w.setCell ⟨g, p, none⟩ (.int .i64 t.k)).setCell ⟨g, p + 1, none⟩ (.string t.nm)).setCell ⟨g, p + 2, none⟩ (.int .i64 t.vr)).setCell ⟨g, p + 3, none⟩ (.slice A t.args.length c)) (fun b => rv.ownBlock = some b) := by
  obtain ⟨h1, f⟩ := h.sub.put x hx hr hg p hp
  obtain ⟨a1, a2, a3⟩ := h.apart
  exact ⟨⟨h1, (f.block ub h.ult (fun e => (a2 ub e).1 rfl)).trans h.ubc, own_frm h.srow f (fun b hb e => (a2 b e).2 hb), h.nub, h.nsv, h.lou⟩, f⟩
theorem UM.fine2 {w w' : World} {K Pr : Nat → Prop} {B ub sb : Nat} {n : Int} {u : US} {rv sv : Value} {xs : List Value} (h : UM w K Pr B ub sb n u rv sv xs) (f : Frm w w' (fun b => rv.ownBlock = some b)) : Frm w w' (Tn Pr B) := f.mono (fun b hb e => h.tn.2.2.1 b e)
theorem UM.note {w wa w4 : World} {K Pr : Nat → Prop} {B ub sb : Nat} {n v : Int} {u : US} {rv sv v' : Value} {xs : List Value} (h : UM w K Pr B ub sb n u rv sv xs) (hw : Below w.heap.size w wa) (own4 : w4.ownsRow B 3 1 v' (u.set.length + 1) (u.set.map (fun x => Value.int .i64 x) ++ [.int .i64 v])) (gr4 : wa.grownBy w4 sv.ownBlock) (at4 : v'.ownBlock = sv.ownBlock ∨ v'.ownBlock = some wa.heap.size) :
    UM (w4.setCell ⟨ub, 1, none⟩ v') K Pr B ub sb n ⟨u.st, u.set ++ [v]⟩ rv v' xs ∧ Frm w (w4.setCell ⟨ub, 1, none⟩ v') (Tn Pr B) := by
  obtain ⟨a1, a2, a3⟩ := h.apart
  have hs := hw.size
  have hul := h.ult
  have f1 : Frm w w4 (fun b => sv.ownBlock = some b) := (Frm.of_below hw (Nat.le_refl _) _).trans (Frm.of_grown gr4 (fun k hk => hk))
  have f2 : Frm w4 (w4.setCell ⟨ub, 1, none⟩ v') (· = ub) := frm_set (R := (· = ub)) 1 v' rfl
  have f3 : Frm w (w4.setCell ⟨ub, 1, none⟩ v') (fun b => b = ub ∨ sv.ownBlock = some b) := (f1.mono (fun k _ hk => .inr hk)).trans' f2 (fun i _ hi => .inl hi)
  have c4 : w4.heap[ub]? = some (.cells #[.pointer (some ⟨sb, 0, none⟩), sv] UniY (0, 0)) := (f1.block ub hul (fun e => (a3 ub e).1 rfl)).trans h.ubc
  have hvk : ∀ b, v'.ownBlock = some b → ¬ Pr b ∧ b ≠ ub := fun b hb => by
    rcases at4 with e | e
    · rw [e] at hb; exact ⟨h.nsv b hb, (a3 b hb).1⟩
    · rw [e] at hb; injection hb with hb
      exact ⟨fun hk => by have := h.sub.kb b hk; omega, by omega⟩
  refine ⟨⟨h.sub.frm f3 (fun b hk e => ?_) (fun e => ?_) (fun b hb e => ?_), by simp [World.setCell, Array.getElem?_modify, c4], ?_, h.nub, fun b hb => (hvk b hb).1, h.lou⟩, f3.mono (fun b hb e => ?_)⟩
  · rcases e with e | e
    · exact h.nub (e ▸ h.sub.kp b hk)
    · exact h.nsv b e (h.sub.kp b hk)
  · rcases e with e | e
    · exact a1 e
    · exact (a3 sb e).2 rfl
  · rcases e with e | e
    · exact (a2 b hb).1 e
    · exact (a2 b hb).2 e
  · show World.ownsRow _ B _ 1 v' (u.set ++ [v]).length ((u.set ++ [v]).map _)
    rw [List.length_append, List.length_singleton, List.map_append]
    exact own_frm own4 f2 (fun b hb e => (hvk b hb).2 e)
  · rcases e with e | e
    · exact e ▸ h.tn.2.1
    · exact h.tn.2.2.2 b e
/-- a type that is kept. -/
theorem TRow.tn {w w' : World} {K Pr : Nat → Prop} {B : Nat} {A : Option Addr} {l : List TT} (h : TRow w K A l) (hp : ∀ b, K b → Pr b) (f : Frm w w' (Tn Pr B)) : TRow w' K A l := h.move (fun b hb hk => ⟨f.block b hb (fun e => e.2 (hp b hk)), hk⟩) f.size
theorem TIn.tn {w w' : World} {K Pr : Nat → Prop} {B : Nat} {V : TT} {v : Value} (h : TIn w K V v) (hp : ∀ b, K b → Pr b) (f : Frm w w' (Tn Pr B)) : TIn w' K V v := by
  obtain ⟨A, c, h1, h2⟩ := h
  exact ⟨A, c, h1, h2.tn hp f⟩
/-- more blocks are kept. -/
theorem UM.more {w : World} {K Pr Pr' : Nat → Prop} {B ub sb : Nat} {n : Int} {u : US} {rv sv : Value} {xs : List Value} (h : UM w K Pr B ub sb n u rv sv xs) (h1 : ∀ b, Pr b → Pr' b) (h2 : ∀ b, Pr' b → b < w.heap.size) (h3 : ¬ Pr' sb ∧ ¬ Pr' ub ∧ (∀ b, rv.ownBlock = some b → ¬ Pr' b) ∧ ∀ b, sv.ownBlock = some b → ¬ Pr' b) : UM w K Pr' B ub sb n u rv sv xs :=
  ⟨⟨h.sub.sbc, h.sub.row, h.sub.kids, h3.1, h3.2.2.1, h.sub.lo, h2, fun b hb => h1 b (h.sub.kp b hb)⟩, h.ubc, h.srow, h3.2.1, h3.2.2.2, h.lou⟩
theorem UM.less {w : World} {K Pr Pr' : Nat → Prop} {B ub sb : Nat} {n : Int} {u : US} {rv sv : Value} {xs : List Value} (h : UM w K Pr' B ub sb n u rv sv xs) (h1 : ∀ b, Pr b → Pr' b) (h2 : ∀ b, K b → Pr b) : UM w K Pr B ub sb n u rv sv xs :=
  ⟨⟨h.sub.sbc, h.sub.row, h.sub.kids, fun e => h.sub.nsb (h1 _ e), fun b hb e => h.sub.nrv b hb (h1 b e), h.sub.lo, fun b hb => h.sub.kb b (h1 b hb), h2⟩, h.ubc, h.srow, fun e => h.nub (h1 _ e), fun b hb e => h.nsv b hb (h1 b e), h.lou⟩
end Go.Proofs.YtdkfimejabanlaaDoor
