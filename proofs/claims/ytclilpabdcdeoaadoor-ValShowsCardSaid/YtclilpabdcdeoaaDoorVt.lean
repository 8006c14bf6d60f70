import Derived.Test.YtclilpabdcdeoaaDoorRe
namespace Go.Proofs.YtclilpabdcdeoaaDoor
open Go.ChangeShapes Go.WideShapes Go.ChangeAt Go.RowKit
set_option linter.unusedVariables false
/-- a value as a tree; a type as a tree; a constructor with its arguments' types. -/
inductive VT where
  | mk (k n : Int) (nm : ByteArray) (args : List VT) (node at_ : Int)
inductive TT where
  | mk (k : Int) (nm : ByteArray) (vr : Int) (args : List TT)
structure CN where
  name : ByteArray
  types : List ByteArray
def VT.k : VT → Int | .mk k _ _ _ _ _ => k
def VT.n : VT → Int | .mk _ n _ _ _ _ => n
def VT.nm : VT → ByteArray | .mk _ _ nm _ _ _ => nm
def VT.args : VT → List VT | .mk _ _ _ a _ _ => a
def VT.node : VT → Int | .mk _ _ _ _ d _ => d
def VT.at_ : VT → Int | .mk _ _ _ _ _ a => a
def TT.k : TT → Int | .mk k _ _ _ => k
def TT.nm : TT → ByteArray | .mk _ nm _ _ => nm
def TT.vr : TT → Int | .mk _ _ v _ => v
def TT.args : TT → List TT | .mk _ _ _ a => a
instance : Inhabited VT := ⟨.mk 0 0 .empty [] 0 0⟩
instance : Inhabited TT := ⟨.mk 0 .empty 0 []⟩
/-- a row of values, of types, in memory. -/
def RowOf {α : Type} (P : World → α → Nat → Nat → Prop) (sz : Nat) (w : World) (A : Option Addr) (l : List α) : Prop :=
  l = [] ∨ ∃ b o, A = some ⟨b, o, none⟩ ∧ b < w.heap.size ∧ ∀ i (h : i < l.length), P w l[i] b (o + i * sz)
mutual
def okV (w : World) : VT → Nat → Nat → Prop
  | .mk k n nm args node at_, b, o => b < w.heap.size ∧ (-9223372036854775808 ≤ n ∧ n ≤ 9223372036854775807) ∧ w.cell? ⟨b, o, none⟩ = some (.int .i64 k) ∧ w.cell? ⟨b, o + 1, none⟩ = some (.int .i64 n) ∧ w.cell? ⟨b, o + 2, none⟩ = some (.string nm) ∧ (∃ A c, w.cell? ⟨b, o + 3, none⟩ = some (.slice A args.length c) ∧ (args.length = 0 ∨ ∃ b' o', A = some ⟨b', o', none⟩ ∧ b' < w.heap.size ∧ okL w args b' o')) ∧ w.cell? ⟨b, o + 4, none⟩ = some (.int .i64 node) ∧ (∃ e, w.cell? ⟨b, o + 5, none⟩ = some e) ∧ w.cell? ⟨b, o + 6, none⟩ = some (.int .i64 at_)
def okL (w : World) : List VT → Nat → Nat → Prop
  | [], _, _ => True
  | v :: l, b, o => okV w v b o ∧ okL w l b (o + 7)
end
mutual
def okT (w : World) : TT → Nat → Nat → Prop
  | .mk k nm vr args, b, o => b < w.heap.size ∧ w.cell? ⟨b, o, none⟩ = some (.int .i64 k) ∧ w.cell? ⟨b, o + 1, none⟩ = some (.string nm) ∧ w.cell? ⟨b, o + 2, none⟩ = some (.int .i64 vr) ∧ (∃ A c, w.cell? ⟨b, o + 3, none⟩ = some (.slice A args.length c) ∧ (args.length = 0 ∨ ∃ b' o', A = some ⟨b', o', none⟩ ∧ b' < w.heap.size ∧ okTL w args b' o'))
def okTL (w : World) : List TT → Nat → Nat → Prop
  | [], _, _ => True
  | v :: l, b, o => okT w v b o ∧ okTL w l b (o + 4)
end
/-- the rows behind a slice. -/
def VRow (w : World) (A : Option Addr) (l : List VT) : Prop := l.length = 0 ∨ ∃ b o, A = some ⟨b, o, none⟩ ∧ b < w.heap.size ∧ okL w l b o
def TRow (w : World) (A : Option Addr) (l : List TT) : Prop := l.length = 0 ∨ ∃ b o, A = some ⟨b, o, none⟩ ∧ b < w.heap.size ∧ okTL w l b o
theorem okL_at {w : World} : ∀ {l : List VT} {b o : Nat}, okL w l b o → ∀ i (h : i < l.length), okV w l[i] b (o + i * 7)
  | v :: l, b, o, h, 0, _ => by rw [okL] at h; simpa using h.1
  | v :: l, b, o, h, i + 1, hi => by
    rw [okL] at h
    have := okL_at h.2 i (by simpa using hi)
    rw [show o + (i + 1) * 7 = o + 7 + i * 7 by omega]; simpa using this
theorem okTL_at {w : World} : ∀ {l : List TT} {b o : Nat}, okTL w l b o → ∀ i (h : i < l.length), okT w l[i] b (o + i * 4)
  | v :: l, b, o, h, 0, _ => by rw [okTL] at h; simpa using h.1
  | v :: l, b, o, h, i + 1, hi => by
    rw [okTL] at h
    have := okTL_at h.2 i (by simpa using hi)
    rw [show o + (i + 1) * 4 = o + 4 + i * 4 by omega]; simpa using this
theorem okV_eq (w : World) (v : VT) (b o : Nat) : okV w v b o ↔ b < w.heap.size ∧ (-9223372036854775808 ≤ v.n ∧ v.n ≤ 9223372036854775807) ∧ w.cell? ⟨b, o, none⟩ = some (.int .i64 v.k) ∧ w.cell? ⟨b, o + 1, none⟩ = some (.int .i64 v.n) ∧ w.cell? ⟨b, o + 2, none⟩ = some (.string v.nm) ∧ (∃ A c, w.cell? ⟨b, o + 3, none⟩ = some (.slice A v.args.length c) ∧ VRow w A v.args) ∧ w.cell? ⟨b, o + 4, none⟩ = some (.int .i64 v.node) ∧ (∃ e, w.cell? ⟨b, o + 5, none⟩ = some e) ∧ w.cell? ⟨b, o + 6, none⟩ = some (.int .i64 v.at_) := by
  cases v; rw [okV]; rfl
theorem okT_eq (w : World) (t : TT) (b o : Nat) : okT w t b o ↔ b < w.heap.size ∧ w.cell? ⟨b, o, none⟩ = some (.int .i64 t.k) ∧ w.cell? ⟨b, o + 1, none⟩ = some (.string t.nm) ∧ w.cell? ⟨b, o + 2, none⟩ = some (.int .i64 t.vr) ∧ (∃ A c, w.cell? ⟨b, o + 3, none⟩ = some (.slice A t.args.length c) ∧ TRow w A t.args) := by
  cases t; rw [okT]; rfl
/-- rows of texts, of constructors. -/
def TxRow (w : World) (A : Option Addr) (l : List ByteArray) : Prop := l.length = 0 ∨ ∃ b o, A = some ⟨b, o, none⟩ ∧ b < w.heap.size ∧ ∀ i (h : i < l.length), w.cell? ⟨b, o + i, none⟩ = some (.string l[i])
def CRow (w : World) (A : Option Addr) (l : List CN) : Prop := l.length = 0 ∨ ∃ b o, A = some ⟨b, o, none⟩ ∧ b < w.heap.size ∧ ∀ i (h : i < l.length), w.cell? ⟨b, o + i * 2, none⟩ = some (.string l[i].name) ∧ ∃ A' c', w.cell? ⟨b, o + i * 2 + 1, none⟩ = some (.slice A' l[i].types.length c') ∧ TxRow w A' l[i].types
def typesOf : List CN → ByteArray → List ByteArray
  | [], _ => []
  | c :: l, nm => if eqB c.name nm = true then c.types else typesOf l nm
def namedT (s : ByteArray) : TT :=
  if isT s [105, 110, 116] = true then .mk 1 .empty 0 [] else if isT s [98, 111, 111, 108] = true then .mk 2 .empty 0 [] else if isT s [117, 110, 105, 116] = true then .mk 3 .empty 0 [] else .mk 4 s 0 []
theorem tyOf_eq (s : ByteArray) : tyOf s = .agg #[.int .i64 (namedT s).k, .string (namedT s).nm, .int .i64 0, .slice none 0 0] ∧ (namedT s).args = [] ∧ (namedT s).vr = 0 := by
  unfold tyOf namedT tyK
  repeat' split
  all_goals exact ⟨rfl, rfl, rfl⟩
def openT : ByteArray := ⟨#[32, 40]⟩
def commaT : ByteArray := ⟨#[44, 32]⟩
def closeT : ByteArray := ⟨#[41]⟩
def pieceT (g : VT → TT → ByteArray) (ts : List ByteArray) (i : Nat) (a : VT) : ByteArray := if h : i < ts.length then g a (namedT ts[i]) else markT
def headT (i : Nat) : ByteArray := if i = 0 then openT else commaT
def piecesT (g : VT → TT → ByteArray) (ts : List ByteArray) : Nat → List VT → ByteArray
  | _, [] => .empty
  | i, a :: l => headT i ++ pieceT g ts i a ++ piecesT g ts (i + 1) l
def constrT (g : VT → TT → ByteArray) (cons : List CN) (v : VT) : ByteArray :=
  if v.args.length = 0 then v.nm else v.nm ++ piecesT g (typesOf cons v.nm) 0 v.args ++ closeT
def refdT (g : VT → TT → ByteArray) (cells : List VT) (v : VT) (t : TT) : ByteArray :=
  if h : 0 ≤ v.at_ ∧ v.at_.toNat < cells.length ∧ t.args.length = 1 then refT ++ g cells[v.at_.toNat] (t.args[0]'(by omega)) else refT ++ markT
/-- what is shown of a value within 50 - f others. -/
def rtext (cells : List VT) (cons : List CN) : Nat → VT → TT → ByteArray
  | 0, _, _ => dotsT
  | f + 1, v, t => match leafV t.k v.k with
    | some x => x
    | none => if v.k = 1 then numT v.n else if v.k = 2 then boolT (v.n == 1) else if v.k = 4 then constrT (rtext cells cons f) cons v else refdT (rtext cells cons f) cells v t
theorem piecesT_snoc (g : VT → TT → ByteArray) (ts : List ByteArray) (a : VT) : ∀ (l : List VT) (i : Nat), piecesT g ts i (l ++ [a]) = piecesT g ts i l ++ (headT (i + l.length) ++ pieceT g ts (i + l.length) a)
  | [], i => by simp [piecesT]
  | b :: l, i => by
    show headT i ++ pieceT g ts i b ++ piecesT g ts (i + 1) (l ++ [a]) = headT i ++ pieceT g ts i b ++ piecesT g ts (i + 1) l ++ _
    rw [piecesT_snoc g ts a l (i + 1), ByteArray.append_assoc (a := headT i ++ pieceT g ts i b)]
    rw [show i + 1 + l.length = i + (b :: l).length by simp; omega]
theorem piecesT_take (g : VT → TT → ByteArray) (ts : List ByteArray) (l : List VT) (i : Nat) (h : i < l.length) : piecesT g ts 0 (l.take (i + 1)) = piecesT g ts 0 (l.take i) ++ headT i ++ pieceT g ts i l[i] := by
  rw [List.take_succ_eq_append_getElem h, piecesT_snoc, List.length_take, Nat.min_eq_left (by omega), Nat.zero_add, ByteArray.append_assoc]
theorem piecesT_le (g : VT → TT → ByteArray) (ts : List ByteArray) (l : List VT) (i : Nat) : (piecesT g ts 0 (l.take i)).size ≤ (piecesT g ts 0 l).size := by
  have key : ∀ (l : List VT) (i k : Nat), (piecesT g ts k (l.take i)).size ≤ (piecesT g ts k l).size := by
    intro l
    induction l with
    | nil => intro i k; simp
    | cons a l ih =>
      intro i k
      cases i with
      | zero => simp [piecesT]
      | succ i =>
        show (headT k ++ pieceT g ts k a ++ piecesT g ts (k + 1) (l.take i)).size ≤ (headT k ++ pieceT g ts k a ++ piecesT g ts (k + 1) l).size
        have := ih i (k + 1)
        simp only [ByteArray.size_append]; omega
  exact key l i 0
end Go.Proofs.YtclilpabdcdeoaaDoor
