import Derived.Test.YtdkfimejabanlaaDoorProg
import Derived.Test.YtdkfimejabanlaaDoorRows
import Derived.WalkKit
import Derived.Handy
import Derived.Lib.Hide
import Derived.BigQuiet
import Derived.Deep.QuietTactic
import Derived.Below
import Derived.Laws.OwnMore
import Derived.OwnWalk
import Derived.Maps.AppendAt
import Derived.WalkSpells
import Derived.WalkLawsBesides
import Derived.OneCell
import Derived.Lib.SmallJoins
import Derived.Deep.RegionHeld3
import Derived.Deep.AppendLies
import Derived.RegionTactic
import Derived.ChangeAlike
import Derived.IntWalk
namespace Go.Proofs.YtdkfimejabanlaaDoor
open Go.ChangeShapes Go.WideShapes Go.ChangeAt Go.RowKit
set_option linter.unusedVariables false
/-- a temporary is written. -/
theorem putz : (∀ (a : Act) (d : Tmp) (v : Value), a.put (some d) v = { a with tmps := a.tmps.setIfInBounds d v }) ∧ (∀ (a : Act) (v : Value), a.put none v = a) ∧ (∀ (l : List Value) (i : Nat) (v : Value), l.toArray.setIfInBounds i v = (l.set i v).toArray) ∧ (∀ (x : Value) (l : List Value) (v : Value), (x :: l).set 0 v = v :: l) ∧ ∀ (x : Value) (l : List Value) (i : Nat) (v : Value), (x :: l).set (i + 1) v = x :: l.set i v :=
  ⟨fun _ _ _ => rfl, fun _ _ => rfl, fun _ _ _ => by simp, fun _ _ _ => rfl, fun _ _ _ _ => rfl⟩
theorem WHt {P : Program} {ops : Array Oper} {S : World → Prop} {md : Region.Mode} {Q : Exit → Act → World → Prop} (i : Nat) (oi : Oper) {v : Value} {n : Nat} {listed : Array Bool} {a : Act} {w : World} (hi : ops[i]? = some oi) (hc : (Region.noSelect ops && Region.free md ops listed i && (Region.ready md ops listed).contains i) = true)
    (hQ : ∀ c a w, Q (.panic c) (a.put oi.dst v) w → Q (.panic c) a w) (hy : YieldsIf P ops S oi v a) (hS : S w) (h : wpAnyH P md ops Q S n (listed.setIfInBounds i true) (a.put oi.dst v) w) : wpAnyH P md ops Q S (n + 1) listed a w := by
  rw [Bool.and_eq_true, Bool.and_eq_true] at hc
  exact wpAnyH_take hi hc.1.1 hc.1.2 hc.2 hQ hy hS h
theorem below_alloc (w : World) (o : Obj) : Below w.heap.size w (w.alloc o) := (Below.refl _ _).alloc (Nat.le_refl _) o
theorem bdr (w : World) : Below w.heap.size w w.drew := ⟨rfl, rfl, rfl, Nat.le_refl _, fun _ _ => rfl⟩
theorem bdn (w : World) (n : Nat) : Below w.heap.size w (w.drewN n) := ⟨rfl, rfl, rfl, Nat.le_refl _, fun _ _ => rfl⟩
theorem bt {w a b : World} (h : Below w.heap.size w a) (k : Below a.heap.size a b) : Below w.heap.size w b := h.trans (k.mono h.size)
/-- a type as a tree. -/
inductive TT where
  | mk (k : Int) (nm : ByteArray) (vr : Int) (args : List TT)
def TT.k : TT → Int | .mk k _ _ _ => k
def TT.nm : TT → ByteArray | .mk _ nm _ _ => nm
def TT.vr : TT → Int | .mk _ _ v _ => v
def TT.args : TT → List TT | .mk _ _ _ a => a
instance : Inhabited TT := ⟨.mk 0 .empty 0 []⟩
theorem TT.eta (t : TT) : t = .mk t.k t.nm t.vr t.args := by cases t; rfl
mutual
def okT (w : World) (P : Nat → Prop) : TT → Nat → Nat → Prop
  | .mk k nm vr args, b, o => w.cell? ⟨b, o, none⟩ = some (.int .i64 k) ∧ w.cell? ⟨b, o + 1, none⟩ = some (.string nm) ∧ w.cell? ⟨b, o + 2, none⟩ = some (.int .i64 vr) ∧ (∃ A c, w.cell? ⟨b, o + 3, none⟩ = some (.slice A args.length c) ∧ (args.length = 0 ∨ ∃ b' o', A = some ⟨b', o', none⟩ ∧ b' < w.heap.size ∧ P b' ∧ okTL w P args b' o'))
def okTL (w : World) (P : Nat → Prop) : List TT → Nat → Nat → Prop
  | [], _, _ => True
  | v :: l, b, o => okT w P v b o ∧ okTL w P l b (o + 4)
end
/-- the types behind a slice, in blocks of P. -/
def TRow (w : World) (P : Nat → Prop) (A : Option Addr) (l : List TT) : Prop := l.length = 0 ∨ ∃ b o, A = some ⟨b, o, none⟩ ∧ b < w.heap.size ∧ P b ∧ okTL w P l b o
theorem okTL_at {w : World} {P : Nat → Prop} : ∀ {l : List TT} {b o : Nat}, okTL w P l b o → ∀ i (h : i < l.length), okT w P l[i] b (o + i * 4)
  | v :: l, b, o, h, 0, _ => by rw [okTL] at h; simpa using h.1
  | v :: l, b, o, h, i + 1, hi => by
    rw [okTL] at h
    have := okTL_at h.2 i (by simpa using hi)
    rw [show o + (i + 1) * 4 = o + 4 + i * 4 by omega]; simpa using this
theorem okT_eq (w : World) (P : Nat → Prop) (t : TT) (b o : Nat) : okT w P t b o ↔ w.cell? ⟨b, o, none⟩ = some (.int .i64 t.k) ∧ w.cell? ⟨b, o + 1, none⟩ = some (.string t.nm) ∧ w.cell? ⟨b, o + 2, none⟩ = some (.int .i64 t.vr) ∧ (∃ A c, w.cell? ⟨b, o + 3, none⟩ = some (.slice A t.args.length c) ∧ TRow w P A t.args) := by
  cases t; rw [okT]; rfl
theorem TRow.moveP {w w' : World} {P P' : Nat → Prop} {A : Option Addr} {l : List TT} (hk : ∀ b, b < w.heap.size → P b → b < w'.heap.size ∧ w'.heap[b]? = w.heap[b]? ∧ P' b) (h : TRow w P A l) : TRow w' P' A l := by
  have main : ∀ l b o, b < w.heap.size → P b → okTL w P l b o → okTL w' P' l b o := by
    have hc : ∀ b o v, b < w.heap.size → P b → w.cell? ⟨b, o, none⟩ = some v → w'.cell? ⟨b, o, none⟩ = some v := fun b o v hlt hp hx => (World.cell?_of_block (hk b hlt hp).2.1).trans hx
    refine fun l => TT.rec_1 (motive_1 := fun v => ∀ b o, b < w.heap.size → P b → okT w P v b o → okT w' P' v b o) (motive_2 := fun l => ∀ b o, b < w.heap.size → P b → okTL w P l b o → okTL w' P' l b o) ?_ ?_ ?_ l
    · intro k nm vr args ih b o hb hp h
      rw [okT] at h ⊢
      obtain ⟨c0, c1, c2, ⟨A', c', cA, hA'⟩⟩ := h
      refine ⟨hc _ _ _ hb hp c0, hc _ _ _ hb hp c1, hc _ _ _ hb hp c2, ⟨A', c', hc _ _ _ hb hp cA, ?_⟩⟩
      rcases hA' with h1 | ⟨b', o', h1, h2, h3, h4⟩
      · exact .inl h1
      · exact .inr ⟨b', o', h1, (hk b' h2 h3).1, (hk b' h2 h3).2.2, ih b' o' h2 h3 h4⟩
    · intro b o _ _ h; rw [okTL]; trivial
    · intro v l iv il b o hb hp h
      rw [okTL] at h ⊢
      exact ⟨iv b o hb hp h.1, il b _ hb hp h.2⟩
  rcases h with h | ⟨b, o, h1, h2, h3, h4⟩
  · exact .inl h
  · exact .inr ⟨b, o, h1, (hk b h2 h3).1, (hk b h2 h3).2.2, main l b o h2 h3 h4⟩
theorem TRow.move {w w' : World} {P P' : Nat → Prop} {A : Option Addr} {l : List TT} (hk : ∀ b, b < w.heap.size → P b → w'.heap[b]? = w.heap[b]? ∧ P' b) (hs : w.heap.size ≤ w'.heap.size) (h : TRow w P A l) : TRow w' P' A l := h.moveP fun b hb hp => ⟨Nat.lt_of_lt_of_le hb hs, hk b hb hp⟩
theorem TRow.later {w w' : World} {P : Nat → Prop} {A : Option Addr} {l : List TT} (h : TRow w P A l) (hb : Below w.heap.size w w') : TRow w' P A l := h.move (fun b hlt hp => ⟨hb.block b hlt, hp⟩) hb.size
theorem TRow.weak {w : World} {P P' : Nat → Prop} {A : Option Addr} {l : List TT} (h : TRow w P A l) (hp : ∀ b, b < w.heap.size → P b → P' b) : TRow w P' A l := h.move (fun b hlt h1 => ⟨rfl, hp b hlt h1⟩) (Nat.le_refl _)
/-- a type by value. -/
def tv (V : TT) (A : Option Addr) (c : Nat) : Value := .agg #[.int .i64 V.k, .string V.nm, .int .i64 V.vr, .slice A V.args.length c]
def TIn (w : World) (P : Nat → Prop) (V : TT) (v : Value) : Prop := ∃ A c, v = tv V A c ∧ TRow w P A V.args
theorem TIn.later {w w' : World} {P : Nat → Prop} {V : TT} {v : Value} (h : TIn w P V v) (hb : Below w.heap.size w w') : TIn w' P V v := by
  obtain ⟨A, c, h1, h2⟩ := h
  exact ⟨A, c, h1, h2.later hb⟩
theorem TIn.weak {w : World} {P P' : Nat → Prop} {V : TT} {v : Value} (h : TIn w P V v) (hp : ∀ b, b < w.heap.size → P b → P' b) : TIn w P' V v := by
  obtain ⟨A, c, h1, h2⟩ := h
  exact ⟨A, c, h1, h2.weak hp⟩
/-- the i-th of them, in any later world. -/
theorem TRow.at {w : World} {P : Nat → Prop} {A : Option Addr} {l : List TT} (h : TRow w P A l) (hl : 0 < l.length) : ∃ b o, A = some ⟨b, o, none⟩ ∧ b < w.heap.size ∧ ∀ W, Below w.heap.size w W → ∀ i (hi : i < l.length), ∃ A' c', W.cell? ⟨b, o + i * 4, none⟩ = some (.int .i64 l[i].k) ∧ W.cell? ⟨b, o + i * 4 + 1, none⟩ = some (.string l[i].nm) ∧ W.cell? ⟨b, o + i * 4 + 2, none⟩ = some (.int .i64 l[i].vr) ∧ W.cell? ⟨b, o + i * 4 + 3, none⟩ = some (.slice A' l[i].args.length c') ∧ TIn W P l[i] (tv l[i] A' c') := by
  rcases h with h | ⟨b, o, h1, h2, h3, h4⟩
  · omega
  refine ⟨b, o, h1, h2, fun W hW i hi => ?_⟩
  obtain ⟨c0, c1, c2, A', c', c3, hr⟩ := (okT_eq _ _ _ _ _).1 (okTL_at h4 i hi)
  exact ⟨A', c', (hW.cell (p := ⟨b, _, none⟩) h2).trans c0, (hW.cell (p := ⟨b, _, none⟩) h2).trans c1, (hW.cell (p := ⟨b, _, none⟩) h2).trans c2, (hW.cell (p := ⟨b, _, none⟩) h2).trans c3, A', c', rfl, hr.later hW⟩
def any0 : Nat → Prop := fun _ => True
/-- small: depth, names, arguments. -/
def bigT : Nat → TT → Bool
  | 0, _ => true
  | d + 1, V => decide (4 < V.args.length) || decide (60 < V.nm.size) || V.args.any (bigT d)
theorem bigT_parts {d : Nat} {V : TT} (h : bigT (d + 1) V = false) : V.args.length ≤ 4 ∧ V.nm.size ≤ 60 ∧ ∀ a ∈ V.args, bigT d a = false := by
  unfold bigT at h
  simp only [Bool.or_eq_false_iff, decide_eq_false_iff_not] at h
  obtain ⟨⟨h1, h2⟩, h3⟩ := h
  exact ⟨by omega, by omega, fun a ha => by
    cases hx : bigT d a
    · rfl
    · rw [List.any_eq_true.2 ⟨a, ha, hx⟩] at h3; cases h3⟩
mutual
def nodes : TT → Nat
  | .mk _ _ _ args => 1 + nodesL args
def nodesL : List TT → Nat
  | [] => 0
  | v :: l => nodes v + nodesL l
end
theorem nodes_eq (V : TT) : nodes V = 1 + nodesL V.args := by cases V; rw [nodes]; rfl
theorem nodesL_take (l : List TT) (k : Nat) (h : k < l.length) : nodesL (l.take (k + 1)) = nodesL (l.take k) + nodes l[k] := by
  induction l generalizing k with
  | nil => simp at h
  | cons a l ih =>
    cases k with
    | zero => simp [nodesL]
    | succ k =>
      simp only [List.take_succ_cons, nodesL, List.getElem_cons_succ]
      rw [ih k (by simpa using h)]; omega
theorem nodesL_take_le (l : List TT) (k : Nat) : nodesL (l.take k) ≤ nodesL l := by
  induction l generalizing k with
  | nil => simp
  | cons a l ih =>
    cases k with
    | zero => simp [nodesL]
    | succ k => simp only [List.take_succ_cons, nodesL]; have := ih k; omega
theorem nodes_small : ∀ (d : Nat) (V : TT), bigT d V = false → 3 * nodes V + 1 ≤ 4 ^ d
  | 0, V, h => by cases h
  | d + 1, V, h => by
    obtain ⟨h1, _, h3⟩ := bigT_parts h
    have key : ∀ l : List TT, (∀ a ∈ l, bigT d a = false) → 3 * nodesL l + l.length ≤ l.length * 4 ^ d := by
      intro l
      induction l with
      | nil => intro _; simp [nodesL]
      | cons a l ih =>
        intro hl
        have e1 := nodes_small d a (hl a (by simp))
        have e2 := ih (fun b hb => hl b (by simp [hb]))
        simp only [nodesL, List.length_cons, Nat.add_mul]
        omega
    have e := key V.args h3
    rw [nodes_eq, Nat.pow_succ]
    have e3 : 1 ≤ 4 ^ d := Nat.one_le_pow _ _ (by omega)
    generalize 4 ^ d = q at e e3
    generalize V.args.length = n at e h1
    have hn : n = 0 ∨ n = 1 ∨ n = 2 ∨ n = 3 ∨ n = 4 := by omega
    rcases hn with rfl | rfl | rfl | rfl | rfl <;> omega
end Go.Proofs.YtdkfimejabanlaaDoor
