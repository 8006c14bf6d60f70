import Derived.Test.YtifopogkbjhkjaaGreatDoorTj
import Derived.Maps.Own
import Derived.Maps.OwnOps
import Derived.Maps.OwnSet
import Derived.Maps.Views
namespace Go.Proofs.YtifopogkbjhkjaaGreatDoor
open Go.ChangeShapes Go.WideShapes Go.ChangeAt Go.RowKit Go.WideMaps
set_option linter.unusedVariables false
structure Frm (w w' : World) (R : Nat → Prop) : Prop where
  os : w'.os = w.os
  tape : w'.tape = w.tape
  output : w'.output = w.output
  size : w.heap.size ≤ w'.heap.size
  block : ∀ i, i < w.heap.size → ¬ R i → w'.heap[i]? = w.heap[i]?
theorem Frm.refl (w : World) (R : Nat → Prop) : Frm w w R := ⟨rfl, rfl, rfl, Nat.le_refl _, fun _ _ _ => rfl⟩
theorem Frm.trans {a b c : World} {R : Nat → Prop} (h : Frm a b R) (k : Frm b c R) : Frm a c R :=
  ⟨k.os.trans h.os, k.tape.trans h.tape, k.output.trans h.output, Nat.le_trans h.size k.size, fun i hi hr => (k.block i (Nat.lt_of_lt_of_le hi h.size) hr).trans (h.block i hi hr)⟩
theorem Frm.of_below {w w' : World} {B : Nat} (h : Below B w w') (hB : w.heap.size ≤ B) (R : Nat → Prop) : Frm w w' R := ⟨h.os, h.tape, h.output, h.size, fun i hi _ => h.block i (by omega)⟩
theorem Frm.of_grown {w w' : World} {r : Option Nat} {R : Nat → Prop} (h : w.grownBy w' r) (hr : ∀ k, r = some k → R k) : Frm w w' R := ⟨h.os, h.tape, h.output, h.size, fun i hi hR => h.block i hi (fun e => hR (hr i e.symm))⟩
theorem Frm.below {w w' : World} {R : Nat → Prop} {B : Nat} (h : Frm w w' R) (hR : ∀ k, R k → B ≤ k) (hB : B ≤ w.heap.size) : Below B w w' := ⟨h.os, h.tape, h.output, h.size, fun i hi => h.block i (by omega) (fun hr => by have := hR i hr; omega)⟩
theorem Frm.mono {w w' : World} {R S : Nat → Prop} (h : Frm w w' R) (hs : ∀ k, k < w.heap.size → R k → S k) : Frm w w' S := ⟨h.os, h.tape, h.output, h.size, fun i hi hr => h.block i hi (fun r => hr (hs i hi r))⟩
theorem own_frm {w w' : World} {R : Nat → Prop} {B : Nat} {e : TypeId} {s n : Nat} {v : Value} {xs : List Value} (h : w.ownsRow B e s v n xs) (f : Frm w w' R) (hr : ∀ k, v.ownBlock = some k → ¬ R k) : w'.ownsRow B e s v n xs := by
  have hl := h.lt
  refine ⟨h.1, ?_⟩
  rcases h.2 with h2 | ⟨g, cap, cur, rfl, e2, e3, e4⟩
  · exact .inl h2
  · exact .inr ⟨g, cap, cur, rfl, e2, by rw [f.block g (hl g rfl).2 (hr g rfl)]; exact e3, e4⟩
theorem frm_set {w : World} {g : Nat} {R : Nat → Prop} (i : Nat) (v : Value) (h : R g) : Frm w (w.setCell ⟨g, i, none⟩ v) R :=
  ⟨rfl, rfl, rfl, by simp [World.setCell], fun j hj hr => by
    have : j ≠ g := fun e => hr (e ▸ h)
    simp [World.setCell, Array.getElem?_modify, Ne.symm this]⟩
theorem Frm.trans' {a b c : World} {R S : Nat → Prop} (h : Frm a b R) (k : Frm b c S) (hs : ∀ i, i < a.heap.size → S i → R i) : Frm a c R :=
  ⟨k.os.trans h.os, k.tape.trans h.tape, k.output.trans h.output, Nat.le_trans h.size k.size, fun i hi hr => (k.block i (Nat.lt_of_lt_of_le hi h.size) (fun e => hr (hs i hi e))).trans (h.block i hi hr)⟩
/-- an append at a step of a region, whatever the slice that is appended: nil, empty or not. -/
theorem step_append_sl {P : Program} {ops : Array Oper} {o : Oper} {a : Act} {w : World} {K : Act → World → Prop} {Q : Exit → Act → World → Prop} {E : Prop} (hgd : o.guard = none) (s x : Operand) (t : TypeId)
    (ho : o.op = .call { callee := .builtin .append, args := #[s, x], argTypes := #[t, t] })
    (base : Nat) (e : TypeId) (i : TypeInfo) (z : Value) (size bytes : Nat) (ht : P.underlying t = some (.slice e)) (hi : P.info? e = some i) (hz : i.zero = some z)
    (hsize : i.size = size) (hby : i.bytes = bytes) (hzs : z.cells.size = size) (hsz : 0 < size)
    (v : Value) (n : Nat) (xs : List Value) (hs : a.eval s = v) (hown : w.ownsRow base e size v n xs)
    (A : Option Addr) (m c : Nat) (news : List Value) (hx : a.eval x = .slice A m c) (hl : news.length = m * size) (hnone : A = none → m = 0 ∧ c = 0) (hnews : ∀ ad, A = some ad → ∀ j u, news[j]? = some u → w.cell? (ad.add j) = some u) (h1 : ∀ u ∈ news, u.oneCell' = true)
    (h63 : n + m ≤ maxLen) (hbytes : (n + m) * bytes ≤ 140737488355328) (hbase : base ≤ w.heap.size)
    (h : ∀ v' w', w'.ownsRow base e size v' (n + m) (xs ++ news) → w.grownBy w' v.ownBlock → (v'.ownBlock = v.ownBlock ∨ v'.ownBlock = some w.heap.size) → K (a.put o.dst v') w') :
    if Region.wanted o (yielded ops a.tmps) = true then Oper.wp P o a w K Q else E := by
  have hw : Region.wanted o (yielded ops a.tmps) = true := by simp [Region.wanted, hgd]
  rw [if_pos hw]
  cases A with
  | none =>
    obtain ⟨rfl, rfl⟩ := hnone rfl
    have hn0 : news = [] := List.eq_nil_of_length_eq_zero (by omega)
    subst hn0
    have hrun := run_append_owned_none (P := P) (w := w) base t o.type e i size ht hi v n xs hown
    unfold Oper.wp
    simp [execOp, ho, resolve, invoke, builtin, hs, hx, hrun, Result.andThen]
    exact h v w (by simpa using hown) (World.grownBy.refl w _) (.inl rfl)
  | some ad =>
    obtain ⟨v', w', hr, h2, h3, h4, h5⟩ := run_append_own_at (P := P) w base t o.type e i z size bytes ht hi hz hsize hby hzs hsz v n xs hown ad m c news hl (hnews ad rfl) h1 h63 hbytes hbase
    unfold Oper.wp execOp
    simp only [ho, resolve, invoke, builtin, Sem.run_bind, Sem.run_pure, Result.andThen_ok, List.map_toArray, List.map_cons, List.map_nil, hs, hx, hr]
    exact h v' w' h2 h3 h5
theorem own_bl {w w' : World} {B e s n : Nat} {v : Value} {xs : List Value} (h : w.ownsRow B e s v n xs) (hb : Below w.heap.size w w') : w'.ownsRow B e s v n xs := own_frm h (Frm.of_below hb (Nat.le_refl _) (fun _ => False)) (fun _ _ h => h)
theorem own_litg {W : World} {B k sz : Nat} {e : TypeId} (h : W.heap[k]? = some (.cells #[] e (0, 0))) (hB : B ≤ k) : W.ownsRow B e sz (.slice (some ⟨k, 0, none⟩) 0 0) 0 [] :=
  ⟨by simp, .inr ⟨k, 0, #[], rfl, hB, h, Nat.le_refl _, by unfold maxLen; omega, by simp, by simp⟩⟩
/-- 'm[k] = v' at the operation. -/
theorem wp_map_put {P : Program} {o : Oper} {a : Act} {w : World} {K : Act → World → Prop} {Q : Exit → Act → World → Prop} (m x v : Operand) (t : TypeId) (hop : o.op = Op.mapUpdate t m x v)
    (k e : TypeId) (Ky : Maps.Keyed P k) (ht : P.underlying t = some (.map k e)) (R : Value → Option (DataW Unit × List MemPlace)) (b n : Nat) (D : DataW Unit)
    (hm : a.eval m = .map (some b)) (hown : w.ownsMap P k R b n D) (hn : n < maxLen) (key val : Value) (kl : Lit) (hx : a.eval x = key) (hv : a.eval v = val) (hkey : keyOf P k key = some kl)
    (d : DataW Unit) (ps : List MemPlace) (hval : R val = some (d, ps))
    (hK : ∀ w', w'.ownsMap P k R b (n + 1) (D.put kl d) → w.grownBy w' (some b) → K (a.put o.dst undef) w') : o.wp P a w K Q := by
  obtain ⟨w', hrun, r1, r2⟩ := hown.update Ky ht hn hkey hval
  unfold Oper.wp
  simp [execOp, hop, hm, hx, hv, hrun, Result.andThen]
  exact hK w' r1 r2
theorem vform {w : World} {B n s : Nat} {e : TypeId} {v : Value} {xs : List Value} (h : w.ownsRow B e s v n xs) : ∃ A c, v = .slice A n c := by
  rcases h.2 with ⟨rfl, rfl⟩ | ⟨g, cap, cur, rfl, _⟩
  · exact ⟨none, 0, rfl⟩
  · exact ⟨_, _, rfl⟩
theorem own_type {w : World} {B e s n : Nat} {v : Value} {xs : List Value} (h : w.ownsRow B e s v n xs) {k : Nat} (hk : v.ownBlock = some k) : ∃ cur, w.heap[k]? = some (.cells cur e (0, 0)) := by
  rcases h.2 with ⟨rfl, _⟩ | ⟨g, cap, cur, rfl, _, h3, _⟩
  · cases hk
  · simp only [Value.ownBlock] at hk
    injection hk with hk
    subst hk
    exact ⟨cur, h3⟩
/-- types in memory are kept. -/
def KeepT (w w' : World) : Prop := ∀ (k : Nat) (cur : Array Value), w.heap[k]? = some (Obj.cells cur 24 (0, 0)) → w'.heap[k]? = some (Obj.cells cur 24 (0, 0))
theorem KeepT.refl (w : World) : KeepT w w := fun _ _ h => h
theorem KeepT.trans {a b c : World} (h : KeepT a b) (k : KeepT b c) : KeepT a c := fun i cur e => k i cur (h i cur e)
theorem KeepT.of_frm {w w' : World} {R : Nat → Prop} (f : Frm w w' R) (hR : ∀ (k : Nat) (cur : Array Value), R k → w.heap[k]? ≠ some (Obj.cells cur 24 (0, 0))) : KeepT w w' := fun k cur h =>
  (f.block k (Array.getElem?_eq_some_iff.1 h).1 (fun hr => hR k cur hr h)).trans h
theorem KeepT.below {w w' : World} (h : Below w.heap.size w w') : KeepT w w' := fun k cur e => (h.block k (Array.getElem?_eq_some_iff.1 e).1).trans e
/-! ### a map of numbers -/
abbrev TI : TypeId := 3
theorem law3 : Maps.Keyed Tryz.prog TI := Maps.int_keyed Tryz.underlying3
theorem zero3 (w : World) : (zeroValue TI).run Tryz.prog w = .ok (.int .i64 0) w := by kernel_rfl
theorem wf_int {x : Int} (h0 : -9223372036854775808 ≤ x) (h1 : x ≤ 9223372036854775807) : (Lit.int .i64 x).wf = true := by
  simp [Lit.wf, IntKind.min, IntKind.max, IntKind.signed, IntKind.bits]
  omega
/-- block M is a map of at most n entries that reads as f (0 where there is none). -/
def MN (w : World) (M n : Nat) (f : Int → Option Int) : Prop := ∃ D : DataW Unit, w.ownsMap Tryz.prog TI (plainElem Tryz.prog TI) M n D ∧ Maps.IsMap D ∧ (∀ x, Maps.has D (.int .i64 x) = (f x).isSome) ∧ ∀ x y, f x = some y → D.atKey (.int .i64 x) (.lit (.int .i64 0)) = .lit (.int .i64 y)
theorem MN.keep {w w' : World} {M n : Nat} {f : Int → Option Int} (h : MN w M n f) (hb : w'.heap[M]? = w.heap[M]?) : MN w' M n f := by
  obtain ⟨D, ⟨es, clock, hb1, r⟩, h2⟩ := h
  exact ⟨D, ⟨es, clock, hb.trans hb1, r⟩, h2⟩
theorem MN.lt {w : World} {M n : Nat} {f : Int → Option Int} (h : MN w M n f) : M < w.heap.size := by
  obtain ⟨D, h1, _⟩ := h; exact h1.lt
theorem MN.below {w w' : World} {M n : Nat} {f : Int → Option Int} (h : MN w M n f) (hb : Below w.heap.size w w') : MN w' M n f := h.keep (hb.block M h.lt)
theorem MN.frm {w w' : World} {M n : Nat} {f : Int → Option Int} {R : Nat → Prop} (h : MN w M n f) (fr : Frm w w' R) (hr : ¬ R M) : MN w' M n f := h.keep (fr.block M h.lt hr)
theorem mn_made (w : World) : MN (w.alloc (.map #[] 0)) w.heap.size 0 (fun _ => none) :=
  ⟨.map [], World.ownsMap_made _ _ _ _, Maps.isMap_empty, fun x => rfl, fun x y h => by cases h⟩
/-- it is a map's block, no row of cells. -/
theorem MN.no_row {w : World} {M n : Nat} {f : Int → Option Int} (h : MN w M n f) {cur : Array Value} {t : TypeId} {fr : Nat × Nat} : w.heap[M]? ≠ some (.cells cur t fr) := fun e => by
  obtain ⟨D, ⟨es, clock, hb1, _⟩, _⟩ := h
  rw [hb1] at e; cases e
def putF (f : Int → Option Int) (x y : Int) : Int → Option Int := fun z => if z = x then some y else f z
theorem mn_put {D : DataW Unit} {f : Int → Option Int} (x y : Int) (hD : Maps.IsMap D) (h1 : ∀ z, Maps.has D (.int .i64 z) = (f z).isSome) (h2 : ∀ z u, f z = some u → D.atKey (.int .i64 z) (.lit (.int .i64 0)) = .lit (.int .i64 u)) :
    Maps.IsMap (D.put (.int .i64 x) (.lit (.int .i64 y))) ∧ (∀ z, Maps.has (D.put (.int .i64 x) (.lit (.int .i64 y))) (.int .i64 z) = (putF f x y z).isSome) ∧ ∀ z u, putF f x y z = some u → (D.put (.int .i64 x) (.lit (.int .i64 y))).atKey (.int .i64 z) (.lit (.int .i64 0)) = .lit (.int .i64 u) := by
  have hk : WideAt.IsKeyLit (.int .i64 x) := trivial
  refine ⟨hD.put _ _, fun z => ?_, fun z u hz => ?_⟩
  · unfold putF
    by_cases e : z = x
    · subst e; rw [Maps.has_put_same hD hk, if_pos rfl]; rfl
    · rw [Maps.has_put_other (fun h => e (by injection h)), h1 z, if_neg e]
  · unfold putF at hz
    by_cases e : z = x
    · subst e
      rw [if_pos rfl] at hz
      injection hz with hz
      subst hz
      exact Maps.atKey_put_same hD hk _ _
    · rw [if_neg e] at hz
      rw [Maps.atKey_put_other (fun h => e (by injection h))]
      exact h2 z u hz
/-- what a lookup finds. -/
theorem mn_found {D : DataW Unit} {x y cc : Int} (h : D.atKey (.int .i64 x) (.lit (.int .i64 0)) = .lit (.int .i64 y)) (hc : D.atKey (.int .i64 x) (.lit (.int .i64 0)) = .lit (.int .i64 cc)) : cc = y := by
  rw [h] at hc; injection hc with hc; injection hc with _ hc; exact hc.symm
end Go.Proofs.YtifopogkbjhkjaaGreatDoor
