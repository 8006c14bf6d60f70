import Derived.Test.YtknpgmbniohcnaaBq
import Derived.Test.YtknpgmbniohcnaaLw
import Derived.Maps.Own
import Derived.Maps.OwnSet
import Derived.Maps.Views
namespace Go.Proofs.Ytknpgmbniohcnaa
open Go.ChangeShapes Go.WideShapes Go.ChangeAt Go.RowKit Go.WideMaps
set_option linter.unusedVariables false
/-- a heap that acts have made. -/
structure LvI (w wr : World) (H B : Nat) (m : Hm) : Prop where
  full : Full m
  room : m.room = 2000
  le : (m.ws.length : Int) ≤ m.room
  hp : HpAt wr B H 0 m
  bel : Below w.heap.size w wr
  ge : w.heap.size ≤ H ∧ w.heap.size ≤ B
theorem LvI.make {w wr w' : World} {H B : Nat} {m : Hm} {k t : Int} {xs : List Int} (h : LvI w wr H B m) (hx : ∀ x ∈ xs, U64 x) (hp : HpAt w' B H 0 (makeM m k t xs)) (f : Frm wr w' (HR wr H 0)) : LvI w w' H B (makeM m k t xs) :=
  ⟨full_make h.full hx, (make_room _ _ _ _).1.trans h.room, make_len h.le, hp, h.bel.trans (frm_ge h.hp f h.ge.1 h.ge.2 h.bel.size), h.ge⟩
theorem set_same (m : Hm) (p i x : Int) : (setM m p i x).room = m.room ∧ (setM m p i x).ws.length = m.ws.length := by
  unfold setM; split <;> simp [Hm.setW]
theorem LvI.set {w wr w' : World} {H B : Nat} {m : Hm} {p i x : Int} (h : LvI w wr H B m) (hp0 : U64 p) (hx : U64 x) (hp : HpAt w' B H 0 (setM m p i x)) (f : Frm wr w' (HR wr H 0)) : LvI w w' H B (setM m p i x) :=
  ⟨full_set h.full hp0 hx, (set_same _ _ _ _).1.trans h.room, by rw [(set_same _ _ _ _).1, (set_same _ _ _ _).2]; exact h.le, hp, h.bel.trans (frm_ge h.hp f h.ge.1 h.ge.2 h.bel.size), h.ge⟩
theorem LvI.start {w wA w3 w4 : World} {H B H2 : Nat} {m : Hm} (h : LvI w wA H B m) (b3 : Below wA.heap.size wA w3) (h2 : w3.heap.size ≤ H2) (hq : HpAt w4 w3.heap.size H2 0 m) (b4 : Below w3.heap.size w3 w4) : PQ w w4 H B H2 w3.heap.size m m := by
  have h3 := b3.size
  have h0 := h.bel.size
  refine ⟨(h.hp.below b3).below b4, hq, fun k k1 k2 => ?_, h.bel.trans ((bt b3 b4).mono h.bel.size), h.ge.1, h.ge.2, by omega, by omega⟩
  have k3 := HR_lt h.hp (bt b3 b4) k1
  rcases hq.ge k2 with e | e <;> omega
/-- two rows of words that grow, apart from each other, in memory of their own. -/
structure AB (wQ w : World) (va vb : Value) (na : Nat) (la : List Int) (nb : Nat) (lb : List Int) : Prop where
  bel : Below wQ.heap.size wQ w
  oa : w.ownsRow wQ.heap.size 28 1 va na (wd la)
  ob : w.ownsRow wQ.heap.size 28 1 vb nb (wd lb)
  ne : ∀ k, va.ownBlock = some k → vb.ownBlock = some k → False
theorem ab_start (wQ : World) : AB wQ wQ (.slice none 0 0) (.slice none 0 0) 0 [] 0 [] := ⟨Below.refl _ _, World.ownsRow_nil _ _ _ _, World.ownsRow_nil _ _ _ _, fun k h => by cases h⟩
theorem news1u {w : World} {b : Nat} {x : Int} (h : w.cell? ⟨b, 0, none⟩ = some (.int .u64 x)) : ∀ j u, [Value.int .u64 x][j]? = some u → w.cell? ((⟨b, 0, none⟩ : Addr).add j) = some u := by
  intro j u hu
  cases j with
  | zero => simp at hu; subst hu; rw [Go.WideShapes.add_plain]; exact h
  | succ j => simp at hu
theorem one1u (x : Int) : ∀ u ∈ [Value.int .u64 x], u.oneCell' = true := fun u hu => by simp only [List.mem_singleton] at hu; subst hu; rfl
section
variable {wQ w w' : World} {va vb v' : Value} {na nb : Nat} {la lb : List Int} {x : Int}
theorem AB.swap (h : AB wQ w va vb na la nb lb) : AB wQ w vb va nb lb na la := ⟨h.bel, h.ob, h.oa, fun k a b => h.ne k b a⟩
theorem AB.below (h : AB wQ w va vb na la nb lb) (hb : Below w.heap.size w w') : AB wQ w' va vb na la nb lb :=
  ⟨h.bel.trans (hb.mono h.bel.size), own_below h.oa hb, own_below h.ob hb, h.ne⟩
theorem AB.size (h : AB wQ w va vb na la nb lb) : wQ.heap.size ≤ w.heap.size := h.bel.size
/-- what turns one block of its own that is no block of the rows. -/
theorem AB.turn (h : AB wQ w va vb na la nb lb) {M : Nat} (hg : w.grownBy w' (some M)) (hM : wQ.heap.size ≤ M) (na' : va.ownBlock ≠ some M) (nb' : vb.ownBlock ≠ some M) : AB wQ w' va vb na la nb lb :=
  ⟨h.bel.trans ((Frm.of_grown (R := fun j => some M = some j) hg (fun j hj => hj)).below (fun j hj => by injection hj with hj; omega) h.bel.size),
   own_frm h.oa (Frm.of_grown (R := fun j => some M = some j) hg (fun j hj => hj)) (fun k hk hr => na' (hk.trans hr.symm)),
   own_frm h.ob (Frm.of_grown (R := fun j => some M = some j) hg (fun j hj => hj)) (fun k hk hr => nb' (hk.trans hr.symm)), h.ne⟩
theorem AB.growA (h : AB wQ w va vb na la nb lb) (own : w'.ownsRow wQ.heap.size 28 1 v' (na + 1) (wd la ++ [.int .u64 x])) (gr : w.grownBy w' va.ownBlock) (at_ : v'.ownBlock = va.ownBlock ∨ v'.ownBlock = some w.heap.size) : AB wQ w' v' vb (na + 1) (la ++ [x]) nb lb := by
  have f : Frm w w' (fun j => va.ownBlock = some j) := Frm.of_grown (R := fun j => va.ownBlock = some j) gr (fun j hj => hj)
  refine ⟨h.bel.trans (f.below (fun j hj => own_block_ge h.oa j hj) h.bel.size), by rw [wd_app]; exact own, own_frm h.ob f (fun k hk hr => h.ne k hr hk), fun k ha hb => ?_⟩
  rcases at_ with e | e
  · exact h.ne k (e ▸ ha) hb
  · rw [e] at ha
    injection ha with ha
    have := (h.ob.lt k hb).2
    omega
theorem AB.growB (h : AB wQ w va vb na la nb lb) (own : w'.ownsRow wQ.heap.size 28 1 v' (nb + 1) (wd lb ++ [.int .u64 x])) (gr : w.grownBy w' vb.ownBlock) (at_ : v'.ownBlock = vb.ownBlock ∨ v'.ownBlock = some w.heap.size) : AB wQ w' va v' na la (nb + 1) (lb ++ [x]) :=
  (h.swap.growA own gr at_).swap
theorem AB.fA (h : AB wQ w va vb na la nb lb) : ∃ A c, va = .slice A na c := by
  rcases h.oa.2 with ⟨e, e0⟩ | ⟨g, cap, cur, e, _⟩
  · subst e0; exact ⟨none, 0, e⟩
  · exact ⟨_, cap, e⟩
theorem AB.fB (h : AB wQ w va vb na la nb lb) : ∃ A c, vb = .slice A nb c := h.swap.fA
theorem AB.lenA (h : AB wQ w va vb na la nb lb) : la.length = na := by have := h.oa.1; rw [wd_len] at this; omega
theorem AB.lenB (h : AB wQ w va vb na la nb lb) : lb.length = nb := h.swap.lenA
theorem AB.atA (h : AB wQ w va vb na la nb lb) {i : Nat} (hi : i < na) : ∃ g c, va = .slice (some ⟨g, 0, none⟩) na c ∧ w.cell? ⟨g, i, none⟩ = some (.int .u64 (la.getD i 0)) := by
  have hl := h.lenA
  rcases h.oa.2 with ⟨_, e⟩ | ⟨g, cap, cur, e, _⟩
  · omega
  · subst e
    have hi2 : i < la.length := by omega
    exact ⟨g, cap, rfl, by rw [getD_at hi2]; exact (h.oa.cellAt i (by omega)).trans (wd_at la i hi2)⟩
theorem AB.atB (h : AB wQ w va vb na la nb lb) {i : Nat} (hi : i < nb) : ∃ g c, vb = .slice (some ⟨g, 0, none⟩) nb c ∧ w.cell? ⟨g, i, none⟩ = some (.int .u64 (lb.getD i 0)) := h.swap.atA hi
theorem AB.ltA (h : AB wQ w va vb na la nb lb) : va.ownBlock = some w.heap.size → False := fun e => by have := (h.oa.lt _ e).2; omega
theorem AB.ltB (h : AB wQ w va vb na la nb lb) : vb.ownBlock = some w.heap.size → False := h.swap.ltA
end
/-! ### the map of what was seen -/
theorem found_inj {F : Hm} {x y : Int} (x0 : U64 x) (y0 : U64 y) (hx : findB F x = true) (hy : findB F y = true) (h : (atV x).toNat = (atV y).toNat) : x = y := by
  have key : ∀ z, findB F z = true → atP z ∧ atV z = z / 2 := fun z hz => by
    have hb := (findB_lt hz).1
    have hp : atP z := by
      unfold atB at hb; exact of_decide_eq_true hb
    exact ⟨hp, if_pos hp⟩
  obtain ⟨p1, e1⟩ := key x hx
  obtain ⟨p2, e2⟩ := key y hy
  unfold atP at p1 p2
  unfold U64 at x0 y0
  omega
theorem law28 : Maps.Keyed Try.prog 28 := Maps.int_keyed Try.underlying28
theorem zero28 (w : World) : (zeroValue 28).run Try.prog w = .ok (.int .u64 0) w := by kernel_rfl
theorem wf_word {x : Int} (h : U64 x) : (Lit.int .u64 x).wf = true := by
  unfold U64 at h
  simp [Lit.wf, IntKind.min, IntKind.max, IntKind.signed, IntKind.bits]
  omega
def seenB (F : Hm) (mk : List Int) (x : Int) : Bool := findB F x && decide (mk.getD (atV x).toNat 0 ≠ 0)
def MpI (w : World) (M n : Nat) (F : Hm) (mv mk : List Int) : Prop := ∃ D : DataW Unit, w.ownsMap Try.prog 28 (plainElem Try.prog 28) M n D ∧ Maps.IsMap D ∧ (∀ x, U64 x → Maps.has D (.int .u64 x) = seenB F mk x) ∧ ∀ x, U64 x → seenB F mk x = true → D.atKey (.int .u64 x) (.lit (.int .u64 0)) = .lit (.int .u64 (fwd F mv x))
theorem MpI.keep {w w' : World} {M n : Nat} {F : Hm} {mv mk : List Int} (h : MpI w M n F mv mk) (hb : w'.heap[M]? = w.heap[M]?) : MpI w' M n F mv mk := by
  obtain ⟨D, ⟨es, clock, hb1, r⟩, h2⟩ := h
  exact ⟨D, ⟨es, clock, hb.trans hb1, r⟩, h2⟩
theorem MpI.lt {w : World} {M n : Nat} {F : Hm} {mv mk : List Int} (h : MpI w M n F mv mk) : M < w.heap.size := by
  obtain ⟨D, h1, _⟩ := h; exact h1.lt
theorem mpi_made (w : World) (F : Hm) (mv : List Int) : MpI (w.alloc (.map #[] 0)) w.heap.size 0 F mv (List.replicate F.ws.length 0) := by
  have h0 : ∀ x, seenB F (List.replicate F.ws.length 0) x = false := fun x => by
    unfold seenB
    have : (List.replicate F.ws.length (0 : Int)).getD (atV x).toNat 0 = 0 := by
      rw [List.getD_eq_getElem?_getD, List.getElem?_replicate]; split <;> rfl
    rw [this]; simp
  exact ⟨.map [], World.ownsMap_made _ _ _ _, Maps.isMap_empty, fun x _ => (h0 x).symm, fun x _ hx => by rw [h0] at hx; cases hx⟩
theorem mpi_put {F : Hm} {mv mk : List Int} {D : DataW Unit} {x : Int} (hl : mk.length = F.ws.length) (x0 : U64 x) (hf : findB F x = true) (hD : Maps.IsMap D) (h1 : ∀ y, U64 y → Maps.has D (.int .u64 y) = seenB F mk y) (h2 : ∀ y, U64 y → seenB F mk y = true → D.atKey (.int .u64 y) (.lit (.int .u64 0)) = .lit (.int .u64 (fwd F mv y))) :
    Maps.IsMap (D.put (.int .u64 x) (.lit (.int .u64 (fwd F mv x)))) ∧ (∀ y, U64 y → Maps.has (D.put (.int .u64 x) (.lit (.int .u64 (fwd F mv x)))) (.int .u64 y) = seenB F (mk.set (atV x).toNat 1) y) ∧ ∀ y, U64 y → seenB F (mk.set (atV x).toNat 1) y = true → (D.put (.int .u64 x) (.lit (.int .u64 (fwd F mv x)))).atKey (.int .u64 y) (.lit (.int .u64 0)) = .lit (.int .u64 (fwd F mv y)) := by
  obtain ⟨f1, f2, f3, f4⟩ := findB_lt hf
  have hs : ∀ y, U64 y → y ≠ x → seenB F (mk.set (atV x).toNat 1) y = seenB F mk y := fun y y0 hy => by
    unfold seenB
    cases hfy : findB F y with
    | false => rfl
    | true => rw [getD_set_ne _ _ _ _ (fun e => hy (found_inj y0 x0 hfy hf e))]
  have hx : seenB F (mk.set (atV x).toNat 1) x = true := by
    unfold seenB
    rw [hf, getD_set_same _ _ _ (by rw [hl]; exact f3)]; rfl
  have hk : WideAt.IsKeyLit (.int .u64 x) := trivial
  refine ⟨hD.put _ _, fun y y0 => ?_, fun y y0 hy => ?_⟩
  · by_cases e : y = x
    · subst e; rw [Maps.has_put_same hD hk, hx]
    · rw [Maps.has_put_other (fun h => e (by injection h)), h1 y y0, hs y y0 e]
  · by_cases e : y = x
    · subst e; exact Maps.atKey_put_same hD hk _ _
    · rw [Maps.atKey_put_other (fun h => e (by injection h))]
      exact h2 y y0 (by rw [← hs y y0 e]; exact hy)
theorem AB.neM {wQ w : World} {va vb : Value} {na nb : Nat} {la lb : List Int} (h : AB wQ w va vb na la nb lb) {M n : Nat} {F : Hm} {mv mk : List Int} (hm : MpI w M n F mv mk) : va.ownBlock ≠ some M ∧ vb.ownBlock ≠ some M := by
  obtain ⟨D, ⟨es, clock, hb1, _⟩, _⟩ := hm
  have key : ∀ {v : Value} {k : Nat} {l : List Value}, w.ownsRow wQ.heap.size 28 1 v k l → v.ownBlock ≠ some M := fun {v k l} ho he => by
    rcases ho.2 with ⟨rfl, _⟩ | ⟨g, cap, cur, rfl, _, hg, _⟩
    · simp [Value.ownBlock] at he
    · simp [Value.ownBlock] at he
      subst he
      rw [hb1] at hg
      cases hg
  exact ⟨key h.oa, key h.ob⟩
theorem MpI.grown {w w' : World} {r : Option Nat} {M n : Nat} {F : Hm} {mv mk : List Int} (h : MpI w M n F mv mk) (gr : w.grownBy w' r) (ne : r ≠ some M) : MpI w' M n F mv mk :=
  h.keep (gr.block M h.lt (fun e => ne e.symm))
theorem MpI.below {w w' : World} {M n : Nat} {F : Hm} {mv mk : List Int} (h : MpI w M n F mv mk) (hb : Below w.heap.size w w') : MpI w' M n F mv mk := h.keep (hb.block M h.lt)
/-- 'm[k] = v' at the operation. -/
theorem wp_map_put {P : Program} {o : Oper} {a : Act} {w : World} {K : Act → World → Prop} {Q : Exit → Act → World → Prop} (m x v : Operand) (t : TypeId) (hop : o.op = Op.mapUpdate t m x v)
    (k e : TypeId) (Ky : Maps.Keyed P k) (ht : P.underlying t = some (.map k e)) (R : Value → Option (DataW Unit × List MemPlace)) (b n : Nat) (D : DataW Unit)
    (hm : a.eval m = .map (some b)) (hown : w.ownsMap P k R b n D) (hn : n < maxLen) (key val : Value) (kl : Lit) (hx : a.eval x = key) (hv : a.eval v = val) (hkey : keyOf P k key = some kl)
    (d : DataW Unit) (ps : List MemPlace) (hval : R val = some (d, ps))
    (hK : ∀ w', w'.ownsMap P k R b (n + 1) (D.put kl d) → w.grownBy w' (some b) → K (a.put o.dst undef) w') : o.wp P a w K Q := by
  obtain ⟨w', hrun, r1, r2⟩ := hown.update Ky ht hn hkey hval
  unfold Oper.wp
  simp [execOp, hop, hm, hx, hv, hrun, Result.andThen]
  exact hK w' r1 r2
theorem bdrN (w : World) (n : Nat) : Below w.heap.size w (w.drewN n) := (Below.refl _ _).trans ⟨rfl, rfl, rfl, Nat.le_refl _, fun _ _ => rfl⟩
theorem alloc_size (w : World) (o : Obj) : (w.alloc o).heap.size = w.heap.size + 1 := by show (w.heap.push _).size = _; simp
end Go.Proofs.Ytknpgmbniohcnaa
