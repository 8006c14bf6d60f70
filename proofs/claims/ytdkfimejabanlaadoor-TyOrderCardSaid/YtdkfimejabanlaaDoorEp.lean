import Derived.Test.YtdkfimejabanlaaDoorEq8
import Derived.Below
namespace Go.Proofs.YtdkfimejabanlaaDoor
open Go Go.RowKit
set_option linter.unusedVariables false
set_option linter.unusedSimpArgs false
noncomputable section
variable {ds : List Deferred}
/-- a program's tables. -/
def eqOkP (P : Program) (t : TypeId) : Bool := ite' (P.stoodInHeld t) false (Bool.not (P.eqGuardType P.depth t))
def eqOkL (P : Program) : List Bool := (List.range P.types.size).map (eqOkP P)
def cxV (P : Program) (g : Nat) (tabs : List (Nat × List Value)) (orc : Tr (List (List Value × Value))) (orv : Tr (List VO)) (bw : Tr (TypeId × TypeId)) : Cx := ⟨Tr.lay P.types.toList 0 .nil, Tr.lay P.funcs.toList 0 .nil, g, Tr.lay (eqOkL P) 0 .nil, orc, tabs, orv, bw⟩
def cxO (P : Program) (g : Nat) (tabs : List (Nat × List Value)) (orc : Tr (List (List Value × Value))) : Cx := cxV P g tabs orc .nil .nil
def cxOf (P : Program) (g : Nat) : Cx := cxO P g [] .nil
def bodyOk (b : Option Code) : Bool := Option.rec (motive := fun _ => Bool) true (fun c => ndCode c) b
def namesOk (P : Program) : Bool := P.funcs.toList.all fun fn => !(fn.name == "runtime.NumGoroutine") && bodyOk fn.body
theorem fits_V {P : Program} (g : Nat) (tabs : List (Nat × List Value)) (orc : Tr (List (List Value × Value))) (orv : Tr (List VO)) (bw : Tr (TypeId × TypeId)) (hB : BwOk P (cxV P g tabs orc orv bw)) (hn : namesOk P = true) : Fits P (cxV P g tabs orc orv bw) := by
  refine ⟨fun f q hq h0 => ?_, fun t i h => ?_, fun f fn h => ?_, fun t h => ?_⟩
  · rcases hB f q hq with ⟨h1, _⟩ | ⟨_, h1⟩
    · exact absurd h0 h1
    · exact h1
  · change (Tr.lay P.types.toList 0 .nil).get t = some i at h
    rw [Tr.get_lay] at h
    split at h
    · rename_i hh
      have h2 : P.types[t]? = some i := by simpa using h
      show P.toTables.info? t = some i
      unfold Tables.info?
      rw [if_pos (Array.getElem?_eq_some_iff.1 h2).1]
      exact h2
    · cases h
  · change (Tr.lay P.funcs.toList 0 .nil).get f = some fn at h
    rw [Tr.get_lay] at h
    split at h
    · have h2 : P.funcs[f]? = some fn := by simpa using h
      refine ⟨h2, ?_⟩
      have h3 := List.all_eq_true.1 hn fn (by
        have := Array.mem_of_getElem? h2
        simpa using this)
      rw [Bool.and_eq_true] at h3
      simpa using h3.1
    · cases h
  · change (Tr.lay (eqOkL P) 0 .nil).get t = some true at h
    rw [Tr.get_lay] at h
    split at h
    · have h2 : (eqOkL P)[t]? = some true := by simpa using h
      unfold eqOkL at h2
      rw [List.getElem?_map] at h2
      cases hr : (List.range P.types.size)[t]? with
      | none => rw [hr] at h2; cases h2
      | some t2 =>
        have ht : t2 = t := by
          have h4 := List.getElem?_eq_some_iff.1 hr
          obtain ⟨h5, h6⟩ := h4
          rw [List.getElem_range] at h6
          exact h6.symm
        subst ht
        rw [hr] at h2
        simp only [Option.map_some, Option.some.injEq] at h2
        unfold eqOkP at h2
        cases h7 : P.stoodInHeld t2 with
        | true => rw [h7] at h2; cases h2
        | false =>
          rw [h7, ite'_false] at h2
          refine ⟨rfl, ?_⟩
          cases h8 : P.eqGuardType P.depth t2 with
          | true => rw [h8] at h2; cases h2
          | false => rfl
    · cases h
theorem nd_V {P : Program} (g : Nat) (tabs : List (Nat × List Value)) (orc : Tr (List (List Value × Value))) (orv : Tr (List VO)) (bw : Tr (TypeId × TypeId)) (hn : namesOk P = true) : ∀ f fn c, (cxV P g tabs orc orv bw).fn.get f = some fn → fn.body = some c → ndCode c = true := fun f fn c h hb => by
  change (Tr.lay P.funcs.toList 0 .nil).get f = some fn at h
  rw [Tr.get_lay] at h
  split at h
  · have h2 : P.funcs[f]? = some fn := by simpa using h
    have h3 := List.all_eq_true.1 hn fn (by
      have := Array.mem_of_getElem? h2
      simpa using this)
    rw [Bool.and_eq_true] at h3
    have h4 := h3.2
    rw [hb] at h4
    exact h4
  · cases h
theorem fits_O {P : Program} (g : Nat) (tabs : List (Nat × List Value)) (orc : Tr (List (List Value × Value))) (hn : namesOk P = true) : Fits P (cxO P g tabs orc) := fits_V g tabs orc .nil .nil (fun f q h => by cases h) hn
theorem noOv {P : Program} (g : Nat) (tabs : List (Nat × List Value)) (orc : Tr (List (List Value × Value))) : OvOk P (cxO P g tabs orc) := fun f l h => by cases h
theorem noBw {P : Program} (g : Nat) (tabs : List (Nat × List Value)) (orc : Tr (List (List Value × Value))) : BwOk P (cxO P g tabs orc) := fun f q h => by cases h
theorem fits_of {P : Program} (g : Nat) (hn : namesOk P = true) : Fits P (cxOf P g) := fits_O g [] .nil hn
theorem orc_nil {P : Program} (g : Nat) : OrOk P (cxOf P g) := fun f l h => by cases h
def isTrue (o : Out) : Bool := match o with
  | .call (.bool true) _ => true
  | _ => false
theorem closed_ok {P : Program} (hn : namesOk P = true) (hm : P.follows .mixedOrders = true) (n : Nat) (f : FuncId) (h : isTrue (evN (cxOf P 0) n (.call f [] ⟨.nil, 0⟩)) = true) (w : World) :
    Calls P f #[] w fun e w' => e = .returned (.bool true) ∧ Below w.heap.size w w' := by
  unfold isTrue at h
  split at h
  · rename_i H' hev
    have hr : HRel ⟨fun _ => 0, fun _ => 0⟩ ⟨.nil, 0⟩ w := ⟨fun b x hx => (by cases hx), fun b x hx => (by cases hx), fun b b' x x' hx => (by cases hx)⟩
    refine (((main_ok (fits_of 0 hn) hm (fun p hp => by cases hp) (orc_nil 0) (noOv 0 [] .nil) (noBw 0 [] .nil) (nd_V 0 [] .nil .nil .nil hn) n).1 f [] _ _ _ hev).2 _ [] w .nil hr (fun g hg => absurd hg (Nat.not_lt_zero _))).mono fun e w' hh => ?_
    obtain ⟨E', v', rfl, g, r, _⟩ := hh
    exact ⟨by rw [r.bool], g.os, g.tape, g.output, g.size, fun i hi => g.frame i hi (fun b x hx => by cases hx)⟩
  · cases h
/-- the closures of slices.Backward, and their types. -/
def bwT (l : List (FuncId × TypeId × TypeId)) : Tr (TypeId × TypeId) := List.rec (motive := fun _ => Tr (TypeId × TypeId)) .nil (fun p _ ih => ih.put p.1 (some p.2)) l
theorem bwT_ok {P : Program} : ∀ {l : List (FuncId × TypeId × TypeId)}, (∀ p ∈ l, BwAt P p.1 p.2) → ∀ f q, (bwT l).get f = some q → BwAt P f q
  | [], _ => fun f q h => by cases h
  | p :: l, h => fun f q hf => by
    change ((bwT l).put p.1 (some p.2)).get f = some q at hf
    rw [Tr.get_put] at hf
    split at hf
    · rename_i e; subst e; cases hf
      exact h p (List.mem_cons_self ..)
    · exact bwT_ok (fun q hq => h q (List.mem_cons_of_mem _ hq)) f q hf
/-! ### package-level tables that are only read -/
theorem closed_rom {P : Program} (hn : namesOk P = true) (hm : P.follows .mixedOrders = true) (n : Nat) (f : FuncId) (g : Nat) (tabs : List (Nat × List Value)) (h : isTrue (evN (cxOf P g) n (.call f [] ⟨romT tabs, g⟩)) = true)
    (hg : ∀ p ∈ tabs, p.1 < g ∧ plainL p.2 = true) (w : World) (hw : ∀ p ∈ tabs, ∃ e fz, w.heap[p.1]? = some (.cells p.2.toArray e fz)) :
    Calls P f #[] w fun e w' => e = .returned (.bool true) ∧ Below w.heap.size w w' := by
  unfold isTrue at h
  split at h
  · rename_i H' hev
    have hr : HRel ⟨fun b => b, fun _ => 0⟩ ⟨romT tabs, g⟩ w := ⟨fun b x hx => by
        obtain ⟨l, h1, _⟩ := romT_get hx
        exact (hg _ h1).1, fun b x hx => by
        obtain ⟨l, h1, h2⟩ := romT_get hx
        subst h2
        obtain ⟨e, fz, h3⟩ := hw _ h1
        refine ⟨l.toArray, e, fz, h3, fun i v hv => ?_⟩
        exact map_rows (plainL_ok (hg _ h1).2) i v hv, fun b b' x x' _ _ he => he⟩
    refine (((main_ok (fits_of g hn) hm (fun p hp => by cases hp) (orc_nil g) (noOv g [] .nil) (noBw g [] .nil) (nd_V g [] .nil .nil .nil hn) n).1 f [] _ _ _ hev).2 _ [] w .nil hr (fun g' hg' => ⟨rfl, hg'⟩)).mono fun e w' hh => ?_
    obtain ⟨E', v', rfl, gd, r, _⟩ := hh
    exact ⟨by rw [r.bool], gd.os, gd.tape, gd.output, gd.size, fun i hi => gd.frame i hi (fun b x hx hwx => by
      obtain ⟨l, _, h2⟩ := romT_get hx
      subst h2; cases hwx)⟩
  · cases h
/-! ### calls that are known, and what is run with them -/
def orcT (l : List (FuncId × List (List Value × Value))) : Tr (List (List Value × Value)) := List.rec (motive := fun _ => Tr (List (List Value × Value))) .nil (fun p _ ih => ih.put p.1 (some p.2)) l
theorem orcT_ok {P : Program} (g : Nat) (tabs : List (Nat × List Value)) : ∀ {l : List (FuncId × List (List Value × Value))}, (∀ p ∈ l, ∀ q ∈ p.2, OrcOk P g tabs p.1 q.1 q.2) → OrOk P (cxO P g tabs (orcT l))
  | [], _ => fun f l h => by cases h
  | p :: l, h => fun f l2 hf => by
    change ((orcT l).put p.1 (some p.2)).get f = some l2 at hf
    rw [Tr.get_put] at hf
    split at hf
    · rename_i e; subst e; cases hf
      exact fun args v hm => h p (List.mem_cons_self ..) _ hm
    · exact orcT_ok g tabs (fun q hq => h q (List.mem_cons_of_mem _ hq)) f l2 hf
/-- the outcome is this. -/
def isRes (o : Out) (v : Value) : Bool := match o with
  | .call u _ => (match u with
    | .tuple us => (match v with
      | .tuple vs => valsEq us.toList vs.toList
      | _ => false)
    | u => valEq u v)
  | _ => false
theorem isRes_ok {o : Out} {v : Value} (h : isRes o v = true) : ∃ H', o = .call v H' := by
  unfold isRes at h
  split at h
  · split at h
    · split at h
      · rename_i us _ vs
        rw [show us = vs from Array.toList_inj.1 (valsEq_eq h)]
        exact ⟨_, rfl⟩
      · cases h
    · rw [valEq_eq h]; exact ⟨_, rfl⟩
  · cases h
def tabsOk (g : Nat) (tabs : List (Nat × List Value)) : Bool := tabs.all fun p => decide (p.1 < g) && plainL p.2
theorem tabsOk_ok {g : Nat} {tabs : List (Nat × List Value)} (h : tabsOk g tabs = true) : ∀ p ∈ tabs, p.1 < g ∧ plainL p.2 = true := fun p hp => by
  have := List.all_eq_true.1 h p hp
  simpa using this
theorem known_call {P : Program} (hn : namesOk P = true) (hm : P.follows .mixedOrders = true) (g : Nat) (tabs : List (Nat × List Value)) (ht : tabsOk g tabs = true) (orc : Tr (List (List Value × Value))) (hO : OrOk P (cxO P g tabs orc)) (n : Nat) (f : FuncId) (args : List Value) (v : Value) (ha : constL args = true) (hv : resOk v = true)
    (h : isRes (evN (cxO P g tabs orc) n (.call f args ⟨romT tabs, g⟩)) v = true) : OrcOk P g tabs f args v := by
  obtain ⟨H', hev⟩ := isRes_ok h
  obtain ⟨hfn, hc⟩ := (main_ok (fits_O g tabs orc hn) hm (fun p hp => tabsOk_ok ht p hp) hO (noOv g tabs orc) (noBw g tabs orc) (nd_V g tabs orc .nil .nil hn) n).1 f args _ _ _ hev
  refine ⟨hfn, ha, hv, fun E w hr hg => ?_⟩
  refine (hc E args w (constL_ok ha) hr (fun g' hg' => ⟨hg g' hg', hg'⟩)).mono fun e w' hh => ?_
  obtain ⟨E', v', rfl, gd, r, _⟩ := hh
  exact ⟨by rw [resOk_eq hv r], gd.os, gd.tape, gd.output, gd.size, fun i hi => gd.frame i hi (fun b x hx hwx => by
      obtain ⟨l, _, h2⟩ := romT_get hx
      subst h2; cases hwx)⟩
theorem OrcOk.closed {P : Program} {g : Nat} {tabs : List (Nat × List Value)} (ht : tabsOk g tabs = true) {f : FuncId} {args : List Value} {v : Value} (h : OrcOk P g tabs f args v) (w : World) (hw : ∀ p ∈ tabs, ∃ e fz, w.heap[p.1]? = some (.cells p.2.toArray e fz)) :
    Calls P f args.toArray w fun e w' => e = .returned v ∧ Below w.heap.size w w' := by
  have hg := tabsOk_ok ht
  refine h.call ⟨fun b => b, fun _ => 0⟩ w ⟨fun b x hx => ?_, fun b x hx => ?_, fun b b' x x' _ _ he => he⟩ fun _ _ => rfl
  · obtain ⟨l, h1, _⟩ := romT_get hx
    exact (hg _ h1).1
  · obtain ⟨l, h1, h2⟩ := romT_get hx
    subst h2
    obtain ⟨e, fz, h3⟩ := hw _ h1
    exact ⟨l.toArray, e, fz, h3, fun i v hv => map_rows (plainL_ok (hg _ h1).2) i v hv⟩
/-! ### the same with answers that hold memory -/
theorem known_callV {P : Program} (hn : namesOk P = true) (hm : P.follows .mixedOrders = true) (g : Nat) (tabs : List (Nat × List Value)) (ht : tabsOk g tabs = true) (orc : Tr (List (List Value × Value))) (orv : Tr (List VO)) (bw : Tr (TypeId × TypeId)) (hB : BwOk P (cxV P g tabs orc orv bw)) (hO : OrOk P (cxV P g tabs orc orv bw)) (hV : OvOk P (cxV P g tabs orc orv bw)) (n : Nat) (f : FuncId) (args : List Value) (v : Value) (ha : constL args = true) (hv : resOk v = true)
    (h : isRes (evN (cxV P g tabs orc orv bw) n (.call f args ⟨romT tabs, g⟩)) v = true) : OrcOk P g tabs f args v := by
  obtain ⟨H', hev⟩ := isRes_ok h
  obtain ⟨hfn, hc⟩ := (main_ok (fits_V g tabs orc orv bw hB hn) hm (fun p hp => tabsOk_ok ht p hp) hO hV hB (nd_V g tabs orc orv bw hn) n).1 f args _ _ _ hev
  refine ⟨hfn, ha, hv, fun E w hr hg => ?_⟩
  refine (hc E args w (constL_ok ha) hr (fun g' hg' => ⟨hg g' hg', hg'⟩)).mono fun e w' hh => ?_
  obtain ⟨E', v', rfl, gd, r, _⟩ := hh
  exact ⟨by rw [resOk_eq hv r], gd.os, gd.tape, gd.output, gd.size, fun i hi => gd.frame i hi (fun b x hx hwx => by
      obtain ⟨l, _, h2⟩ := romT_get hx
      subst h2; cases hwx)⟩
def eqD (a b : Value) : Bool := match a with
  | .tuple us => (match b with
    | .tuple vs => eq1L us.toList vs.toList
    | _ => false)
  | a => eq1 a b
theorem eqD_eq {a b : Value} (h : eqD a b = true) : a = b := by
  unfold eqD at h
  split at h
  · split at h
    · rename_i us _ vs
      rw [show us = vs from Array.toList_inj.1 (eq1L_eq h)]
    · cases h
  · exact eq1_eq h
def rowOk (lo hi : Nat) (r : VRow) (x : Option Blk) : Bool := match x with
  | some (.row c n e o) => andB (Nat.ble lo r.b) (andB (Nat.ble (Nat.succ r.b) hi) (andB (refs1L lo r.l) (andB (Nat.beq n r.l.length) (andB (Nat.beq e r.e) (andB (ite' o r.o (Bool.not r.o)) (romLe c r.l 0))))))
  | _ => false
def rowsOk (H : Hp) (lo hi : Nat) (bs : List VRow) : Bool := List.rec (motive := fun _ => Bool) true (fun r _ ih => ite' (rowOk lo hi r (H.b.get r.b)) ih false) bs
theorem rowsOk_mem {H : Hp} {lo hi : Nat} : ∀ {bs : List VRow}, rowsOk H lo hi bs = true → ∀ r ∈ bs, ∃ c, H.b.get r.b = some (.row c r.l.length r.e r.o) ∧ lo ≤ r.b ∧ r.b < hi ∧ refs1L lo r.l = true ∧ ∀ j v, r.l[j]? = some v → c.get j = some v
  | [], _, r, hr => by cases hr
  | q :: bs, h, r, hr => by
    obtain ⟨h1, h2⟩ := ite'_true_eq (show ite' (rowOk lo hi q (H.b.get q.b)) (rowsOk H lo hi bs) false = true from h)
    rcases List.mem_cons.1 hr with e | e
    · subst e
      unfold rowOk at h1
      split at h1
      · rename_i c n e' o' hx
        obtain ⟨k1, b⟩ := andB_iff.1 h1
        obtain ⟨k2, b⟩ := andB_iff.1 b
        obtain ⟨k3, b⟩ := andB_iff.1 b
        obtain ⟨k4, b⟩ := andB_iff.1 b
        obtain ⟨k5, b⟩ := andB_iff.1 b
        obtain ⟨k6, k7⟩ := andB_iff.1 b
        have e4 := Nat.eq_of_beq_eq_true k4
        have e5 := Nat.eq_of_beq_eq_true k5
        have e6 : o' = r.o := by
          cases o' <;> cases hro : r.o <;> rw [hro] at k6 <;> first | rfl | cases k6
        subst e4 e5 e6
        exact ⟨c, hx, Nat.le_of_ble_eq_true k1, Nat.le_of_ble_eq_true k2, k3, fun j v hj => by have := romLe_ok k7 j v hj; rwa [Nat.zero_add] at this⟩
      · cases h1
    · exact rowsOk_mem h2 r e
def isVal (o : Out) (q : VO) : Bool := match o with
  | .call u H => andB (eqD u q.v) (andB (Nat.ble H.next q.hi) (andB (refsB q.lo q.v) (andB (Nat.ble q.lo q.hi) (rowsOk H q.lo q.hi q.bs))))
  | _ => false
theorem known_val {P : Program} (hn : namesOk P = true) (hm : P.follows .mixedOrders = true) (g : Nat) (tabs : List (Nat × List Value)) (ht : tabsOk g tabs = true) (orc : Tr (List (List Value × Value))) (orv : Tr (List VO)) (bw : Tr (TypeId × TypeId)) (hB : BwOk P (cxV P g tabs orc orv bw)) (hO : OrOk P (cxV P g tabs orc orv bw)) (hV : OvOk P (cxV P g tabs orc orv bw)) (n : Nat) (f : FuncId) (q : VO) (ha : constL q.args = true) (hg0 : g ≤ q.lo)
    (h : isVal (evN (cxV P g tabs orc orv bw) n (.call f q.args ⟨romT tabs, q.lo⟩)) q = true) : VOk P g tabs f q := by
  unfold isVal at h
  split at h
  · rename_i u H' hev
    obtain ⟨k1, b⟩ := andB_iff.1 h
    obtain ⟨k2, b⟩ := andB_iff.1 b
    obtain ⟨k3, b⟩ := andB_iff.1 b
    obtain ⟨k4, k5⟩ := andB_iff.1 b
    have e := eqD_eq k1
    subst e
    have hrows := rowsOk_mem k5
    have hhi := Nat.le_of_ble_eq_true k2
    obtain ⟨hfn, hc⟩ := (main_ok (fits_V g tabs orc orv bw hB hn) hm (fun p hp => tabsOk_ok ht p hp) hO hV hB (nd_V g tabs orc orv bw hn) n).1 f q.args _ _ _ hev
    refine ⟨hfn, ha, Nat.le_of_ble_eq_true k4, k3, fun r hr => by
      obtain ⟨c, _, h1, h2, h3, _⟩ := hrows r hr
      exact ⟨h1, h2, h3⟩, fun E w hr hg => ?_⟩
    have hr2 : HRel E ⟨romT tabs, q.lo⟩ w := ⟨fun b x hx => Nat.lt_of_lt_of_le (hr.lt b x hx) hg0, fun b x hx => (hr.rel b x hx).mono (Agree.refl _ _) hg0 (hr.lt b x hx), hr.inj⟩
    refine (hc E q.args w (constL_ok ha) hr2 (fun g' hg' => ⟨hg g' hg', Nat.lt_of_lt_of_le hg' hg0⟩)).mono fun e w' hh => ?_
    obtain ⟨E', v', rfl, gd, r, hr3⟩ := hh
    refine ⟨E', v', rfl, r.mono (Agree.refl _ _) hhi, ⟨gd.os, gd.tape, gd.output, gd.size, fun i hi => gd.frame i hi (fun b x hx hwx => by
      obtain ⟨l, _, h2⟩ := romT_get hx
      subst h2; cases hwx)⟩, fun r1 hm1 => ?_, fun r1 hm1 r2 hm2 he => ?_⟩
    · obtain ⟨c, g1, _, _, _, g2⟩ := hrows r1 hm1
      refine ⟨?_, ?_⟩
      · obtain ⟨cs, fz, q1, q2, q3, q4, q5⟩ := hr3.rel _ _ g1
        refine ⟨cs, fz, q1, q2, q3, q4, fun i v hi hv => ?_⟩
        rw [Tr.get_lay] at hv
        split at hv
        · obtain ⟨v2, e1, r2⟩ := q5 i v hi (g2 i v (by simpa using hv))
          exact ⟨v2, e1, r2.mono (Agree.refl _ _) hhi⟩
        · cases hv
      · rcases gd.dom _ _ g1 with ⟨b0, x0, h0, h1, _⟩ | h1
        · obtain ⟨l, _, h2⟩ := romT_get h0
          subst h2
          cases h1 rfl
        · exact h1
    · obtain ⟨c, g1, _⟩ := hrows r1 hm1
      obtain ⟨c2, g2, _⟩ := hrows r2 hm2
      exact hr3.inj _ _ _ _ g1 g2 he
  · cases h
end
end Go.Proofs.YtdkfimejabanlaaDoor
