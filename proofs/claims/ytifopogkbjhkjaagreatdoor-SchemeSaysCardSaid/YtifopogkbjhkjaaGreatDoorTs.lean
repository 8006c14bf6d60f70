import Derived.Test.YtifopogkbjhkjaaGreatDoorProg
import Derived.Test.YtifopogkbjhkjaaGreatDoorRows
import Derived.WalkKit
import Derived.Handy
import Derived.Lib.Hide
import Derived.BigQuiet
import Derived.Deep.QuietTactic
import Derived.Below
import Derived.Laws.OwnMore
import Derived.OwnWalk
import Derived.Maps.AppendAt
import Derived.WalkSpells
import Derived.WalkLawsBesides
import Derived.OneCell
import Derived.Lib.SmallJoins
import Derived.Deep.RegionHeld3
import Derived.Deep.AppendLies
import Derived.RegionTactic
import Derived.ChangeAlike
import Derived.IntWalk
namespace Go.Proofs.YtifopogkbjhkjaaGreatDoor
open Go.ChangeShapes Go.WideShapes Go.ChangeAt Go.RowKit
set_option linter.unusedVariables false
/-- a temporary is written. -/
theorem putz : (∀ (a : Act) (d : Tmp) (v : Value), a.put (some d) v = { a with tmps := a.tmps.setIfInBounds d v }) ∧ (∀ (a : Act) (v : Value), a.put none v = a) ∧ (∀ (l : List Value) (i : Nat) (v : Value), l.toArray.setIfInBounds i v = (l.set i v).toArray) ∧ (∀ (x : Value) (l : List Value) (v : Value), (x :: l).set 0 v = v :: l) ∧ ∀ (x : Value) (l : List Value) (i : Nat) (v : Value), (x :: l).set (i + 1) v = x :: l.set i v :=
  ⟨fun _ _ _ => rfl, fun _ _ => rfl, fun _ _ _ => by simp, fun _ _ _ => rfl, fun _ _ _ _ => rfl⟩
theorem WHt {P : Program} {ops : Array Oper} {S : World → Prop} {md : Region.Mode} {Q : Exit → Act → World → Prop} (i : Nat) (oi : Oper) {v : Value} {n : Nat} {listed : Array Bool} {a : Act} {w : World} (hi : ops[i]? = some oi) (hc : (Region.noSelect ops && Region.free md ops listed i && (Region.ready md ops listed).contains i) = true)
    (hQ : ∀ c a w, Q (.panic c) (a.put oi.dst v) w → Q (.panic c) a w) (hy : YieldsIf P ops S oi v a) (hS : S w) (h : wpAnyH P md ops Q S n (listed.setIfInBounds i true) (a.put oi.dst v) w) : wpAnyH P md ops Q S (n + 1) listed a w := by
  rw [Bool.and_eq_true, Bool.and_eq_true] at hc
  exact wpAnyH_take hi hc.1.1 hc.1.2 hc.2 hQ hy hS h
theorem WHs {P : Program} {ops : Array Oper} {S : World → Prop} {md : Region.Mode} {Q : Exit → Act → World → Prop} (i : Nat) (oi : Oper) (v : Value) {n : Nat} {listed : Array Bool} {a : Act} {w : World} (hy : ∀ w, S w → Sem.run P (execOp a.eval oi) w = Result.ok (Next.value v) w) (hS : S w)
    (h : wpAnyH P md ops Q S n (listed.setIfInBounds i true) (a.put oi.dst v) w) (hi : ops[i]? = some oi := by rfl) (hw : Region.wanted oi (yielded ops a.tmps) = true := by rfl)
    (hc : (Region.noSelect ops && Region.free md ops listed i && (Region.ready md ops listed).contains i) = true := by kernel_rfl)
    (hQ : ∀ c a w, Q (.panic c) (a.put oi.dst v) w → Q (.panic c) a w := by exact fun _ _ _ h => h) : wpAnyH P md ops Q S (n + 1) listed a w := WHt i oi hi hc hQ (.inl ⟨hw, hy⟩) hS h
theorem WHk {P : Program} {ops : Array Oper} {S : World → Prop} {md : Region.Mode} {Q : Exit → Act → World → Prop} (i : Nat) (oi : Oper) {n : Nat} {listed : Array Bool} {a : Act} {w : World} (hS : S w)
    (h : wpAnyH P md ops Q S n (listed.setIfInBounds i true) (a.put oi.dst undef) w) (hi : ops[i]? = some oi := by rfl) (hw : Region.wanted oi (yielded ops a.tmps) = false := by rfl)
    (hc : (Region.noSelect ops && Region.free md ops listed i && (Region.ready md ops listed).contains i) = true := by kernel_rfl)
    (hQ : ∀ c a w, Q (.panic c) (a.put oi.dst undef) w → Q (.panic c) a w := by exact fun _ _ _ h => h) : wpAnyH P md ops Q S (n + 1) listed a w := WHt i oi hi hc hQ (.inr ⟨hw, rfl⟩) hS h
theorem below_alloc (w : World) (o : Obj) : Below w.heap.size w (w.alloc o) := (Below.refl _ _).alloc (Nat.le_refl _) o
theorem bdr (w : World) : Below w.heap.size w w.drew := ⟨rfl, rfl, rfl, Nat.le_refl _, fun _ _ => rfl⟩
theorem bdn (w : World) (n : Nat) : Below w.heap.size w (w.drewN n) := ⟨rfl, rfl, rfl, Nat.le_refl _, fun _ _ => rfl⟩
theorem bt {w a b : World} (h : Below w.heap.size w a) (k : Below a.heap.size a b) : Below w.heap.size w b := h.trans (k.mono h.size)
/-- a type as a tree. -/
inductive TT where
  | mk (k : Int) (nm : ByteArray) (vr : Int) (args : List TT)
def TT.k : TT → Int | .mk k _ _ _ => k
def TT.nm : TT → ByteArray | .mk _ nm _ _ => nm
def TT.vr : TT → Int | .mk _ _ v _ => v
def TT.args : TT → List TT | .mk _ _ _ a => a
instance : Inhabited TT := ⟨.mk 0 .empty 0 []⟩
theorem TT.eta (t : TT) : t = .mk t.k t.nm t.vr t.args := by cases t; rfl
mutual
def okT (w : World) (P : Nat → Prop) : TT → Nat → Nat → Prop
  | .mk k nm vr args, b, o => w.cell? ⟨b, o, none⟩ = some (.int .i64 k) ∧ w.cell? ⟨b, o + 1, none⟩ = some (.string nm) ∧ w.cell? ⟨b, o + 2, none⟩ = some (.int .i64 vr) ∧ (∃ A c, w.cell? ⟨b, o + 3, none⟩ = some (.slice A args.length c) ∧ (args.length = 0 ∨ ∃ b' o', A = some ⟨b', o', none⟩ ∧ b' < w.heap.size ∧ P b' ∧ okTL w P args b' o'))
def okTL (w : World) (P : Nat → Prop) : List TT → Nat → Nat → Prop
  | [], _, _ => True
  | v :: l, b, o => okT w P v b o ∧ okTL w P l b (o + 4)
end
/-- the types behind a slice, in blocks of P. -/
def TRow (w : World) (P : Nat → Prop) (A : Option Addr) (l : List TT) : Prop := l.length = 0 ∨ ∃ b o, A = some ⟨b, o, none⟩ ∧ b < w.heap.size ∧ P b ∧ okTL w P l b o
theorem okTL_at {w : World} {P : Nat → Prop} : ∀ {l : List TT} {b o : Nat}, okTL w P l b o → ∀ i (h : i < l.length), okT w P l[i] b (o + i * 4)
  | v :: l, b, o, h, 0, _ => by rw [okTL] at h; simpa using h.1
  | v :: l, b, o, h, i + 1, hi => by
    rw [okTL] at h
    have := okTL_at h.2 i (by simpa using hi)
    rw [show o + (i + 1) * 4 = o + 4 + i * 4 by omega]; simpa using this
theorem okT_eq (w : World) (P : Nat → Prop) (t : TT) (b o : Nat) : okT w P t b o ↔ w.cell? ⟨b, o, none⟩ = some (.int .i64 t.k) ∧ w.cell? ⟨b, o + 1, none⟩ = some (.string t.nm) ∧ w.cell? ⟨b, o + 2, none⟩ = some (.int .i64 t.vr) ∧ (∃ A c, w.cell? ⟨b, o + 3, none⟩ = some (.slice A t.args.length c) ∧ TRow w P A t.args) := by
  cases t; rw [okT]; rfl
theorem TRow.moveP {w w' : World} {P P' : Nat → Prop} {A : Option Addr} {l : List TT} (hk : ∀ b, b < w.heap.size → P b → b < w'.heap.size ∧ w'.heap[b]? = w.heap[b]? ∧ P' b) (h : TRow w P A l) : TRow w' P' A l := by
  have main : ∀ l b o, b < w.heap.size → P b → okTL w P l b o → okTL w' P' l b o := by
    have hc : ∀ b o v, b < w.heap.size → P b → w.cell? ⟨b, o, none⟩ = some v → w'.cell? ⟨b, o, none⟩ = some v := fun b o v hlt hp hx => (World.cell?_of_block (hk b hlt hp).2.1).trans hx
    refine fun l => TT.rec_1 (motive_1 := fun v => ∀ b o, b < w.heap.size → P b → okT w P v b o → okT w' P' v b o) (motive_2 := fun l => ∀ b o, b < w.heap.size → P b → okTL w P l b o → okTL w' P' l b o) ?_ ?_ ?_ l
    · intro k nm vr args ih b o hb hp h
      rw [okT] at h ⊢
      obtain ⟨c0, c1, c2, ⟨A', c', cA, hA'⟩⟩ := h
      refine ⟨hc _ _ _ hb hp c0, hc _ _ _ hb hp c1, hc _ _ _ hb hp c2, ⟨A', c', hc _ _ _ hb hp cA, ?_⟩⟩
      rcases hA' with h1 | ⟨b', o', h1, h2, h3, h4⟩
      · exact .inl h1
      · exact .inr ⟨b', o', h1, (hk b' h2 h3).1, (hk b' h2 h3).2.2, ih b' o' h2 h3 h4⟩
    · intro b o _ _ h; rw [okTL]; trivial
    · intro v l iv il b o hb hp h
      rw [okTL] at h ⊢
      exact ⟨iv b o hb hp h.1, il b _ hb hp h.2⟩
  rcases h with h | ⟨b, o, h1, h2, h3, h4⟩
  · exact .inl h
  · exact .inr ⟨b, o, h1, (hk b h2 h3).1, (hk b h2 h3).2.2, main l b o h2 h3 h4⟩
theorem TRow.move {w w' : World} {P P' : Nat → Prop} {A : Option Addr} {l : List TT} (hk : ∀ b, b < w.heap.size → P b → w'.heap[b]? = w.heap[b]? ∧ P' b) (hs : w.heap.size ≤ w'.heap.size) (h : TRow w P A l) : TRow w' P' A l := h.moveP fun b hb hp => ⟨Nat.lt_of_lt_of_le hb hs, hk b hb hp⟩
theorem TRow.later {w w' : World} {P : Nat → Prop} {A : Option Addr} {l : List TT} (h : TRow w P A l) (hb : Below w.heap.size w w') : TRow w' P A l := h.move (fun b hlt hp => ⟨hb.block b hlt, hp⟩) hb.size
theorem TRow.weak {w : World} {P P' : Nat → Prop} {A : Option Addr} {l : List TT} (h : TRow w P A l) (hp : ∀ b, b < w.heap.size → P b → P' b) : TRow w P' A l := h.move (fun b hlt h1 => ⟨rfl, hp b hlt h1⟩) (Nat.le_refl _)
/-- a type by value. -/
def tv (V : TT) (A : Option Addr) (c : Nat) : Value := .agg #[.int .i64 V.k, .string V.nm, .int .i64 V.vr, .slice A V.args.length c]
def TIn (w : World) (P : Nat → Prop) (V : TT) (v : Value) : Prop := ∃ A c, v = tv V A c ∧ TRow w P A V.args
theorem TIn.later {w w' : World} {P : Nat → Prop} {V : TT} {v : Value} (h : TIn w P V v) (hb : Below w.heap.size w w') : TIn w' P V v := by
  obtain ⟨A, c, h1, h2⟩ := h
  exact ⟨A, c, h1, h2.later hb⟩
theorem TIn.weak {w : World} {P P' : Nat → Prop} {V : TT} {v : Value} (h : TIn w P V v) (hp : ∀ b, b < w.heap.size → P b → P' b) : TIn w P' V v := by
  obtain ⟨A, c, h1, h2⟩ := h
  exact ⟨A, c, h1, h2.weak hp⟩
/-- the i-th of them, in any later world. -/
theorem TRow.at {w : World} {P : Nat → Prop} {A : Option Addr} {l : List TT} (h : TRow w P A l) (hl : 0 < l.length) : ∃ b o, A = some ⟨b, o, none⟩ ∧ b < w.heap.size ∧ ∀ W, Below w.heap.size w W → ∀ i (hi : i < l.length), ∃ A' c', W.cell? ⟨b, o + i * 4, none⟩ = some (.int .i64 l[i].k) ∧ W.cell? ⟨b, o + i * 4 + 1, none⟩ = some (.string l[i].nm) ∧ W.cell? ⟨b, o + i * 4 + 2, none⟩ = some (.int .i64 l[i].vr) ∧ W.cell? ⟨b, o + i * 4 + 3, none⟩ = some (.slice A' l[i].args.length c') ∧ TIn W P l[i] (tv l[i] A' c') := by
  rcases h with h | ⟨b, o, h1, h2, h3, h4⟩
  · omega
  refine ⟨b, o, h1, h2, fun W hW i hi => ?_⟩
  obtain ⟨c0, c1, c2, A', c', c3, hr⟩ := (okT_eq _ _ _ _ _).1 (okTL_at h4 i hi)
  exact ⟨A', c', (hW.cell (p := ⟨b, _, none⟩) h2).trans c0, (hW.cell (p := ⟨b, _, none⟩) h2).trans c1, (hW.cell (p := ⟨b, _, none⟩) h2).trans c2, (hW.cell (p := ⟨b, _, none⟩) h2).trans c3, A', c', rfl, hr.later hW⟩
def any0 : Nat → Prop := fun _ => True
/-- small: depth, names, arguments. -/
def bigT : Nat → TT → Bool
  | 0, _ => true
  | d + 1, V => decide (4 < V.args.length) || decide (60 < V.nm.size) || V.args.any (bigT d)
theorem bigT_parts {d : Nat} {V : TT} (h : bigT (d + 1) V = false) : V.args.length ≤ 4 ∧ V.nm.size ≤ 60 ∧ ∀ a ∈ V.args, bigT d a = false := by
  unfold bigT at h
  simp only [Bool.or_eq_false_iff, decide_eq_false_iff_not] at h
  obtain ⟨⟨h1, h2⟩, h3⟩ := h
  exact ⟨by omega, by omega, fun a ha => by
    cases hx : bigT d a
    · rfl
    · rw [List.any_eq_true.2 ⟨a, ha, hx⟩] at h3; cases h3⟩
mutual
def nodes : TT → Nat
  | .mk _ _ _ args => 1 + nodesL args
def nodesL : List TT → Nat
  | [] => 0
  | v :: l => nodes v + nodesL l
end
theorem nodes_eq (V : TT) : nodes V = 1 + nodesL V.args := by cases V; rw [nodes]; rfl
theorem nodesL_take (l : List TT) (k : Nat) (h : k < l.length) : nodesL (l.take (k + 1)) = nodesL (l.take k) + nodes l[k] := by
  induction l generalizing k with
  | nil => simp at h
  | cons a l ih =>
    cases k with
    | zero => simp [nodesL]
    | succ k =>
      simp only [List.take_succ_cons, nodesL, List.getElem_cons_succ]
      rw [ih k (by simpa using h)]; omega
theorem nodesL_take_le (l : List TT) (k : Nat) : nodesL (l.take k) ≤ nodesL l := by
  induction l generalizing k with
  | nil => simp
  | cons a l ih =>
    cases k with
    | zero => simp [nodesL]
    | succ k => simp only [List.take_succ_cons, nodesL]; have := ih k; omega
theorem nodes_small : ∀ (d : Nat) (V : TT), bigT d V = false → 3 * nodes V + 1 ≤ 4 ^ d
  | 0, V, h => by cases h
  | d + 1, V, h => by
    obtain ⟨h1, _, h3⟩ := bigT_parts h
    have key : ∀ l : List TT, (∀ a ∈ l, bigT d a = false) → 3 * nodesL l + l.length ≤ l.length * 4 ^ d := by
      intro l
      induction l with
      | nil => intro _; simp [nodesL]
      | cons a l ih =>
        intro hl
        have e1 := nodes_small d a (hl a (by simp))
        have e2 := ih (fun b hb => hl b (by simp [hb]))
        simp only [nodesL, List.length_cons, Nat.add_mul]
        omega
    have e := key V.args h3
    rw [nodes_eq, Nat.pow_succ]
    have e3 : 1 ≤ 4 ^ d := Nat.one_le_pow _ _ (by omega)
    generalize 4 ^ d = q at e e3
    generalize V.args.length = n at e h1
    have hn : n = 0 ∨ n = 1 ∨ n = 2 ∨ n = 3 ∨ n = 4 := by omega
    rcases hn with rfl | rfl | rfl | rfl | rfl <;> omega
end Go.Proofs.YtifopogkbjhkjaaGreatDoor
namespace Go.Proofs.YtifopogkbjhkjaaGreatDoor
open Go.ChangeShapes Go.WideShapes Go.ChangeAt Go.RowKit
set_option linter.unusedVariables false
theorem any_take {α : Type} {p : α → Bool} {l : List α} {k : Nat} (h : k < l.length) (ha : (l.take k).any p = false) : (l.take (k + 1)).any p = p l[k] := by
  rw [List.take_succ_eq_append_getElem h, List.any_append, ha]; simp
theorem any_yes {α : Type} {p : α → Bool} {l : List α} {k : Nat} (h : k < l.length) (ha : p l[k] = true) : l.any p = true := List.any_eq_true.2 ⟨l[k], List.getElem_mem h, ha⟩
def MostOk : Nat → Int → Prop
  | 0, m => m = 0
  | d + 1, m => 1 ≤ m ∧ m ≤ 64 ∧ MostOk d (m / 2)
theorem most64 : MostOk 7 64 := by simp [MostOk]
theorem box3 (w : World) (V : TT) (A : Option Addr) (c n : Nat) (nm : ByteArray) (t : TypeId) : (w.alloc (.cells #[.int .i64 V.k, .string nm, .int .i64 V.vr, .slice A n c] t)).cell? ⟨w.heap.size, 3, none⟩ = some (.slice A n c) := by
  have h := heap_alloc_new w (.cells #[.int .i64 V.k, .string nm, .int .i64 V.vr, .slice A n c] t)
  simp only [World.cell?, h]; rfl
def SmI (w : World) (args : List TT) (d : Nat) (A : Option Addr) (c : Nat) (i : Value) (wr : World) : Prop := ∃ k : Nat, k ≤ args.length ∧ i = .int .i64 k ∧ Hid ((args.take k).any (bigT d) = false) ∧ Hid (Below w.heap.size w wr ∧ w.heap.size < wr.heap.size ∧ wr.cell? ⟨w.heap.size, 3, none⟩ = some (.slice A args.length c))
set_option maxRecDepth 100000 in
set_option maxHeartbeats 4000000 in
theorem small_any : ∀ (d : Nat) (V : TT) (v : Value) (m : Int) (w : World), MostOk d m → TIn w any0 V v → Calls Tryz.prog 5 #[v, .int .i64 m] w fun e w' => e = .returned (.bool (!bigT d V)) ∧ Below w.heap.size w w' := by
  intro d
  induction d with
  | zero =>
    intro V v m w hm ⟨A, c, hv, hA⟩
    have hm : m = 0 := hm
    subst hv hm
    clear hA
    unfold tv
    go_enter Tryz.func5, Tryz.ntmps5
    go_wp2
    go_ret
    exact ⟨rfl, below_alloc _ _⟩
  | succ d ih =>
    intro V v m w hm ⟨A, c, hv, hA⟩
    obtain ⟨m1, m2, m3⟩ := hm
    subst hv
    have HI := Lib.hid ih
    have M3 := Lib.hid m3
    have HA := Lib.hid hA
    have dm : decide (m ≤ 0) = false := decide_eq_false (by omega)
    have hbg : bigT (d + 1) V = (decide (4 < V.args.length) || decide (60 < V.nm.size) || V.args.any (bigT d)) := rfl
    unfold tv
    obtain ⟨args, ha⟩ : ∃ l, l = V.args := ⟨_, rfl⟩
    obtain ⟨nm, hnm⟩ : ∃ l, l = V.nm := ⟨_, rfl⟩
    rw [hbg]
    rw [← ha] at HA ⊢
    rw [← hnm] at ⊢
    clear ih m3 hA hbg ha hnm
    by_cases h4 : 4 < args.length
    · have d4 := decide_eq_true h4
      have d4i : decide ((4 : Int) < (args.length : Int)) = true := decide_eq_true (by omega)
      go_enter Tryz.func5, Tryz.ntmps5
      go_wp2
      go_ret
      exact ⟨by rw [d4]; rfl, below_alloc _ _⟩
    have d4 := decide_eq_false h4
    have d4i : decide ((4 : Int) < (args.length : Int)) = false := decide_eq_false (by omega)
    by_cases h6 : 60 < nm.size
    · have d6 := decide_eq_true h6
      have d6i : decide ((60 : Int) < (nm.size : Int)) = true := decide_eq_true (by omega)
      go_enter Tryz.func5, Tryz.ntmps5
      go_wp2
      go_ret
      exact ⟨by rw [d4, d6]; rfl, below_alloc _ _⟩
    have d6 := decide_eq_false h6
    have d6i : decide ((60 : Int) < (nm.size : Int)) = false := decide_eq_false (by omega)
    have hsp : (decide (4 < args.length) || decide (60 < nm.size) || args.any (bigT d)) = args.any (bigT d) := by rw [d4, d6]; rfl
    rw [hsp]
    have ST : Hid (Below w.heap.size w (w.alloc (.cells #[.int .i64 V.k, .string nm, .int .i64 V.vr, .slice A args.length c] 24)) ∧ w.heap.size < (w.alloc (.cells #[.int .i64 V.k, .string nm, .int .i64 V.vr, .slice A args.length c] 24)).heap.size ∧ (w.alloc (.cells #[.int .i64 V.k, .string nm, .int .i64 V.vr, .slice A args.length c] 24)).cell? ⟨w.heap.size, 3, none⟩ = some (.slice A args.length c)) := Lib.hid ⟨below_alloc _ _, by simp, box3 w V A c _ nm _⟩
    clear hsp d6 h6 d4
    go_enter Tryz.func5, Tryz.ntmps5
    go_wp2
    go_loopw [5] (fun i wr => SmI w args d A c i wr) (fun i _ => args.length - (intOf i).toNat)
    case atStart => exact ⟨0, by omega, rfl, Lib.hid (by simp), ST⟩
    case round =>
      obtain ⟨k, hk, rfl, HNO, HW⟩ := hrel
      have c3 := HW.out.2.2
      by_cases hlt : k < args.length
      · obtain ⟨b, o, rfl, hb, hr⟩ := HA.out.at (by omega)
        obtain ⟨A', c', x0, x1, x2, x3, hin⟩ := hr wr HW.out.1 k hlt
        have CALL : Hid (Calls Tryz.prog 5 #[.agg #[.int .i64 args[k].k, .string args[k].nm, .int .i64 args[k].vr, .slice A' args[k].args.length c'], .int .i64 (m / 2)] wr fun e w' => e = .returned (.bool (!bigT d args[k])) ∧ Below wr.heap.size wr w') := Lib.hid (HI.out args[k] _ (m / 2) wr M3.out hin)
        clear hr hin hb HI HA
        cases hd : bigT d args[k]
        · rw [hd] at CALL
          have HN2 : Hid ((args.take (k + 1)).any (bigT d) = false) := Lib.hid ((any_take hlt HNO.out).trans hd)
          clear hd HNO
          go_wp2_with fail
          refine CALL.out.mono ?_; rintro e w1 ⟨rfl, hb1⟩
          have HB1 := Lib.hid (And.intro (bt HW.out.1 hb1) (And.intro (Nat.lt_of_lt_of_le HW.out.2.1 hb1.size) ((hb1.cell (p := ⟨w.heap.size, 3, none⟩) HW.out.2.1).trans c3)))
          clear hb1 CALL c3 x0 x1 x2 x3
          go_wp2
          go_roundw
          case rel => exact ⟨k + 1, by omega, by go_num, HN2, HB1⟩
          case measure => simp [intOf]; omega
        · rw [hd] at CALL
          have HN2 : Hid (args.any (bigT d) = true) := Lib.hid (any_yes hlt hd)
          clear hd HNO
          go_wp2_with fail
          refine CALL.out.mono ?_; rintro e w1 ⟨rfl, hb1⟩
          have HB1 := Lib.hid (bt HW.out.1 hb1)
          clear hb1 CALL
          go_wp2
          go_ret
          exact ⟨by rw [HN2.out]; rfl, HB1.out⟩
      · have HN2 : Hid (args.any (bigT d) = false) := Lib.hid (by have := HNO.out; rwa [List.take_of_length_le (by omega)] at this)
        have hge : ¬ (k : Int) < (args.length : Int) := by omega
        go_wp2
        go_ret
        exact ⟨by rw [HN2.out]; rfl, HW.out.1⟩
end Go.Proofs.YtifopogkbjhkjaaGreatDoor
