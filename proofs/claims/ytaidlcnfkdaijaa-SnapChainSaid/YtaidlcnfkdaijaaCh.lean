import Derived.Test.YtaidlcnfkdaijaaBack
import Derived.Deep.RegionHeld3
import Derived.Deep.AppendLies
namespace Go.Proofs.Ytaidlcnfkdaijaa
open Go.ChangeShapes Go.WideShapes Go.ChangeAt Go.RowKit
set_option linter.unusedVariables false
theorem info22 : (Try.prog.info? 22).map (fun i => (i.zero, i.size, i.bytes)) = some (some (.slice none 0 0), 1, 24) := by kernel_rfl
/-- rows of two types lie in two blocks. -/
theorem own_apart {w : World} {B B' n m : Nat} {v u : Value} {xs ys : List Value} (h : w.ownsRow B 5 1 v n xs) (k : w.ownsRow B' 22 1 u m ys) : v.ownBlock = none ∨ v.ownBlock ≠ u.ownBlock := by
  rcases h.2 with ⟨rfl, _⟩ | ⟨g, cap, cur, rfl, _, hg, _⟩
  · exact .inl rfl
  · right
    rcases k.2 with ⟨rfl, _⟩ | ⟨g', cap', cur', rfl, _, hg', _⟩
    · simp [Value.ownBlock]
    · simp only [Value.ownBlock]
      intro e
      injection e with e
      subst e
      rw [hg] at hg'
      simp at hg'
/-- the patches in a list. -/
def PL (w : World) (B : Nat) (es : List Value) (R : Nat → List Nat → Prop) : Prop := ∀ j v, es[j]? = some v → ∃ A m d xs, v = .slice A m d ∧ w.ownsRow B 5 1 v m (bys xs) ∧ R j xs
theorem PL.nil (w : World) (B : Nat) (R : Nat → List Nat → Prop) : PL w B [] R := fun j v h => by simp at h
theorem PL.below {w w' : World} {B : Nat} {es : List Value} {R : Nat → List Nat → Prop} (p : PL w B es R) (hb : Below w.heap.size w w') : PL w' B es R := fun j v h => by
  obtain ⟨A, m, d, xs, e, own, r⟩ := p j v h
  exact ⟨A, m, d, xs, e, own_below own hb, r⟩
theorem PL.grown {w w' : World} {B n : Nat} {es : List Value} {R : Nat → List Nat → Prop} {u : Value} {ys : List Value} (p : PL w B es R) (k : w.ownsRow B 22 1 u n ys) (hg : w.grownBy w' u.ownBlock) : PL w' B es R := fun j v h => by
  obtain ⟨A, m, d, xs, e, own, r⟩ := p j v h
  exact ⟨A, m, d, xs, e, own.kept hg (own_apart own k), r⟩
theorem PL.snoc {w : World} {B m : Nat} {es : List Value} {R : Nat → List Nat → Prop} {A : Option Addr} {d : Nat} {xs : List Nat} (p : PL w B es R) (own : w.ownsRow B 5 1 (.slice A m d) m (bys xs)) (r : R es.length xs) : PL w B (es ++ [.slice A m d]) R := fun j v h => by
  rcases Nat.lt_trichotomy j es.length with hj | hj | hj
  · rw [List.getElem?_append_left hj] at h; exact p j v h
  · subst hj
    simp at h; subst h
    exact ⟨A, m, d, xs, rfl, own, r⟩
  · rw [List.getElem?_append_right (by omega), List.getElem?_eq_none (by simp; omega)] at h; cases h
/-- both lists of patches. -/
structure Pk (w : World) (B : Nat) (vt vb : Value) (i k : Nat) (et eb : List Value) (R S : Nat → List Nat → Prop) : Prop where
  rt : w.ownsRow B 22 1 vt i et
  rb : w.ownsRow B 22 1 vb k eb
  ne : ∀ k, vt.ownBlock = some k → vb.ownBlock ≠ some k
  pt : PL w B et R
  pb : PL w B eb S
theorem Pk.below {w w' : World} {B i k : Nat} {vt vb : Value} {et eb : List Value} {R S : Nat → List Nat → Prop} (p : Pk w B vt vb i k et eb R S) (hb : Below w.heap.size w w') : Pk w' B vt vb i k et eb R S :=
  ⟨own_below p.rt hb, own_below p.rb hb, p.ne, p.pt.below hb, p.pb.below hb⟩
theorem Pk.start (w : World) (B : Nat) (R S : Nat → List Nat → Prop) : Pk w B (.slice none 0 0) (.slice none 0 0) 0 0 [] [] R S :=
  ⟨World.ownsRow_nil _ _ _ _, World.ownsRow_nil _ _ _ _, fun k h => by simp [Value.ownBlock] at h, PL.nil _ _ _, PL.nil _ _ _⟩
theorem Pk.swap {w : World} {B i k : Nat} {vt vb : Value} {et eb : List Value} {R S : Nat → List Nat → Prop} (p : Pk w B vt vb i k et eb R S) : Pk w B vb vt k i eb et S R :=
  ⟨p.rb, p.rt, fun k h h' => p.ne k h' h, p.pb, p.pt⟩
theorem own22_len {w : World} {B n : Nat} {v : Value} {es : List Value} (h : w.ownsRow B 22 1 v n es) : es.length = n := by have := h.1; omega
theorem Pk.addT {w w2 : World} {B i k gt cap m d : Nat} {vt vb : Value} {et eb : List Value} {R S : Nat → List Nat → Prop} {A : Option Addr} {xs : List Nat} {o : Obj} (p : Pk w B vt vb i k et eb R S) (own : w.ownsRow B 5 1 (.slice A m d) m (bys xs)) (r : R i xs)
    (own2 : w2.ownsRow B 22 1 (.slice (some ⟨gt, 0, none⟩) (i + 1) cap) (i + 1) (et ++ [.slice A m d])) (hg : (w.alloc o).grownBy w2 vt.ownBlock) (hat : vt.ownBlock = some gt ∨ gt = w.heap.size + 1) :
    Pk w2 B (.slice (some ⟨gt, 0, none⟩) (i + 1) cap) vb (i + 1) k (et ++ [.slice A m d]) eb R S := by
  have pa := p.below (below_alloc w o)
  have hb : vb.ownBlock = none ∨ vb.ownBlock ≠ vt.ownBlock := by
    cases hv : vb.ownBlock with
    | none => exact .inl rfl
    | some z => right; intro e; exact p.ne z e.symm hv
  refine ⟨own2, pa.rb.kept hg hb, ?_, ?_, pa.pb.grown pa.rt hg⟩
  · intro z hz
    simp [Value.ownBlock] at hz
    subst hz
    rcases hat with e | e
    · exact p.ne _ e
    · intro h; have := (p.rb.lt _ h).2; omega
  · refine (pa.pt.grown pa.rt hg).snoc ((own.alloc o).kept hg (own_apart (own.alloc o) pa.rt)) ?_
    rw [own22_len p.rt]; exact r
theorem Pk.grows {w w2 : World} {B i k : Nat} {vt vb : Value} {et eb : List Value} {R S : Nat → List Nat → Prop} {o : Obj} (p : Pk w B vt vb i k et eb R S) (hB : B ≤ w.heap.size) (hg : (w.alloc o).grownBy w2 vt.ownBlock) : Below B w w2 :=
  ((Below.refl _ _).alloc hB o).grown hg (Nat.le_trans hB (by simp)) (fun z hz => (p.rt.lt z hz).1)
theorem diff_own {w : World} {A B : Option Addr} {no co nn cn : Nat} {old new : List Nat} (so : Sl w A no co old) (sn : Sl w B nn cn new) (ho : no ≤ 200) (hn : nn ≤ 200) (hob : ∀ j, old.getD j 0 < 256) (hnb : ∀ j, new.getD j 0 < 256) :
    Calls Try.prog 13 #[.slice A no co, .slice B nn cn] w fun e w' => ∃ P m d xs, e = .returned (.slice P m d) ∧ Hid (w'.ownsRow w.heap.size 5 1 (.slice P m d) m (bys xs)) ∧ Hid (xs.length ≤ 208 ∧ Makes old xs new) ∧ Hid (Below w.heap.size w w') := by
  refine (diff_any so sn (by omega) (by omega) hob hnb).mono ?_
  rintro e w' ⟨v, xs, l, rfl, own, h1, h2, h3, h4, hb⟩
  obtain ⟨P, d, rfl, s⟩ := Sl.of_own own
  exact ⟨P, _, d, xs, rfl, Lib.hid own, Lib.hid ⟨by have := sn.1; omega, l, h1, h2⟩, Lib.hid hb⟩
/-- the argument: a list of byte slices. -/
structure Arg (w : World) (a : Option Addr) (n c : Nat) (L : Nat → List Nat) : Prop where
  cap : n ≤ c
  cells : 0 < n → ∃ h o, a = some ⟨h, o, none⟩ ∧ h < w.heap.size ∧ ∀ j, j < n → ∃ A m d, w.cell? ⟨h, o + j, none⟩ = some (.slice A m d) ∧ Sl w A m d (L j)
  bytes : ∀ j k, (L j).getD k 0 < 256
/-- what was there before the i-th. -/
def st (L : Nat → List Nat) (i : Nat) : List Nat := match i with | 0 => [] | j + 1 => L j
theorem st_bytes {w : World} {a : Option Addr} {n c : Nat} {L : Nat → List Nat} (h : Arg w a n c L) (i : Nat) : ∀ k, (st L i).getD k 0 < 256 := by
  cases i with
  | zero => intro k; simp [st]
  | succ j => exact h.bytes j
def RT (L : Nat → List Nat) (j : Nat) (xs : List Nat) : Prop := xs.length ≤ 208 ∧ Makes (st L j) xs (st L (j + 1))
def RB (L : Nat → List Nat) (j : Nat) (xs : List Nat) : Prop := xs.length ≤ 208 ∧ Makes (st L (j + 1)) xs (st L j)
end Go.Proofs.Ytaidlcnfkdaijaa
