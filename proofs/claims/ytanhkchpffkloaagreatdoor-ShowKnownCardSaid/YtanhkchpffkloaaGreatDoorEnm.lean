import Derived.Test.YtanhkchpffkloaaGreatDoorEn
namespace Go.Proofs.YtanhkchpffkloaaGreatDoor
open Go
set_option linter.unusedVariables false
set_option linter.unusedSimpArgs false
noncomputable section
variable {ds : List Deferred}
/-! ### what two outcomes have in common -/
def optM {α : Type} (f : α → α → Option α) (x y : Option α) : Option α := match x with
  | some x => (match y with
    | some y => f x y
    | none => none)
  | none => none
def meetT {α : Type} (f : α → α → Option α) (t : Tr α) : Tr α → Tr α := Tr.rec (motive := fun _ => Tr α → Tr α) (fun _ => .nil) (fun v _ _ il ir t2 => Tr.rec (motive := fun _ => Tr α) .nil (fun v2 l2 r2 _ _ => .node (optM f v v2) (il l2) (ir r2)) t2) t
theorem meetT_get {α : Type} {f : α → α → Option α} : ∀ {t t2 : Tr α} {n : Nat} {z : α}, (meetT f t t2).get n = some z → ∃ x y, t.get n = some x ∧ t2.get n = some y ∧ f x y = some z
  | .nil, t2, n, z, h => by cases h
  | .node v l r, .nil, n, z, h => by cases h
  | .node v l r, .node v2 l2 r2, n, z, h => by
    change (Tr.node (optM f v v2) (meetT f l l2) (meetT f r r2)).get n = some z at h
    rw [Tr.get_node] at h
    rw [Tr.get_node, Tr.get_node]
    by_cases h0 : n = 0
    · rw [if_pos h0] at h ⊢
      rw [if_pos h0]
      unfold optM at h
      split at h
      · split at h
        · exact ⟨_, _, rfl, rfl, h⟩
        · cases h
      · cases h
    · rw [if_neg h0] at h ⊢
      rw [if_neg h0]
      by_cases h1 : n % 2 = 1
      · rw [if_pos h1] at h ⊢
        rw [if_pos h1]
        exact meetT_get h
      · rw [if_neg h1] at h ⊢
        rw [if_neg h1]
        exact meetT_get h
def valM (x y : Value) : Option Value := ite' (valEq x y) (some x) none
theorem valM_ok {x y z : Value} (h : valM x y = some z) : z = x ∧ z = y := by
  obtain ⟨h1, h2⟩ := ite'_some h
  cases h2
  exact ⟨rfl, valEq_eq h1⟩
def esEq (l : List MapEntry) : List MapEntry → Bool := List.rec (motive := fun _ => List MapEntry → Bool) (fun m => List.rec (motive := fun _ => Bool) true (fun _ _ _ => false) m)
  (fun e _ ih m => List.rec (motive := fun _ => Bool) false (fun e2 m2 _ => ite' (valEq e.key e2.key) (ite' (valEq e.val e2.val) (ite' (Nat.beq e.born e2.born) (ih m2) false) false) false) m) l
theorem esEq_ok : ∀ {l m : List MapEntry}, esEq l m = true → l = m
  | [], [], _ => rfl
  | [], _ :: _, h => by cases h
  | _ :: _, [], h => by cases h
  | ⟨k, v, b⟩ :: l, ⟨k2, v2, b2⟩ :: m, h => by
    change ite' (valEq k k2) (ite' (valEq v v2) (ite' (Nat.beq b b2) (esEq l m) false) false) false = true at h
    obtain ⟨h1, h2⟩ := ite'_true_eq h
    obtain ⟨h3, h4⟩ := ite'_true_eq h2
    obtain ⟨h5, h6⟩ := ite'_true_eq h4
    rw [valEq_eq h1, valEq_eq h3, Nat.eq_of_beq_eq_true h5, esEq_ok h6]
def blkM (x y : Blk) : Option Blk := match x with
  | .row c n e o => (match y with
    | .row c2 n2 e2 o2 => ite' (Nat.beq n n2) (ite' (Nat.beq e e2) (ite' (ite' o o2 (Bool.not o2)) (some (.row (meetT valM c c2) n e o)) none) none) none
    | _ => none)
  | .map es cl => (match y with
    | .map es2 cl2 => ite' (esEq es es2) (ite' (Nat.beq cl cl2) (some (.map es cl)) none) none
    | _ => none)
  | .siter s p => (match y with
    | .siter s2 p2 => ite' (bytesEq s.data.toList s2.data.toList) (ite' (Nat.beq p p2) (some (.siter s p)) none) none
    | _ => none)
  | .rom c => (match y with
    | .rom c2 => some (.rom (meetT valM c c2))
    | _ => none)
/-- this block says less. -/
def BLe (z x : Blk) : Prop := wr z = wr x ∧ ∀ (E : Env) (N b : Nat) (o : Option Obj), BR E N b x o → BR E N b z o
theorem blkM_ok {x y z : Blk} (h : blkM x y = some z) : BLe z x ∧ BLe z y := by
  unfold blkM at h
  split at h
  · split at h
    · rename_i c n e o _ c2 n2 e2 o2
      obtain ⟨h1, h2⟩ := ite'_some h
      obtain ⟨h3, h4⟩ := ite'_some h2
      obtain ⟨h5, h6⟩ := ite'_some h4
      cases h6
      have e1 := Nat.eq_of_beq_eq_true h1
      have e2' := Nat.eq_of_beq_eq_true h3
      have e3 : o = o2 := by cases o <;> cases o2 <;> first | rfl | cases h5
      subst e1 e2' e3
      refine ⟨⟨rfl, fun E N b ob hb => ?_⟩, ⟨rfl, fun E N b ob hb => ?_⟩⟩
      · obtain ⟨cs, fz, g1, g2, g3, g4, g5⟩ := hb
        exact ⟨cs, fz, g1, g2, g3, g4, fun i v hi hv => by
          obtain ⟨x, y, q1, q2, q3⟩ := meetT_get hv
          obtain ⟨r1, r2⟩ := valM_ok q3
          exact g5 i v hi (by rw [r1]; exact q1)⟩
      · obtain ⟨cs, fz, g1, g2, g3, g4, g5⟩ := hb
        exact ⟨cs, fz, g1, g2, g3, g4, fun i v hi hv => by
          obtain ⟨x, y, q1, q2, q3⟩ := meetT_get hv
          obtain ⟨r1, r2⟩ := valM_ok q3
          exact g5 i v hi (by rw [r2]; exact q2)⟩
    · cases h
  · split at h
    · obtain ⟨h1, h2⟩ := ite'_some h
      obtain ⟨h3, h4⟩ := ite'_some h2
      cases h4
      have e1 := esEq_ok h1
      have e2 := Nat.eq_of_beq_eq_true h3
      subst e1 e2
      exact ⟨⟨rfl, fun _ _ _ _ h => h⟩, ⟨rfl, fun _ _ _ _ h => h⟩⟩
    · cases h
  · split at h
    · rename_i s p _ s2 p2
      obtain ⟨h1, h2⟩ := ite'_some h
      obtain ⟨h3, h4⟩ := ite'_some h2
      cases h4
      have e2 := Nat.eq_of_beq_eq_true h3
      rw [bytesEq_eq] at h1
      have e1 : s = s2 := ByteArray.ext (Array.toList_inj.1 (eq_of_beq h1))
      subst e1 e2
      exact ⟨⟨rfl, fun _ _ _ _ h => h⟩, ⟨rfl, fun _ _ _ _ h => h⟩⟩
    · cases h
  · split at h
    · cases h
      refine ⟨⟨rfl, fun E N b ob hb => ?_⟩, ⟨rfl, fun E N b ob hb => ?_⟩⟩
      · obtain ⟨cs, e, fz, g1, g5⟩ := hb
        exact ⟨cs, e, fz, g1, fun i v hv => by
          obtain ⟨x, y, q1, q2, q3⟩ := meetT_get hv
          obtain ⟨r1, r2⟩ := valM_ok q3
          exact g5 i v (by rw [r1]; exact q1)⟩
      · obtain ⟨cs, e, fz, g1, g5⟩ := hb
        exact ⟨cs, e, fz, g1, fun i v hv => by
          obtain ⟨x, y, q1, q2, q3⟩ := meetT_get hv
          obtain ⟨r1, r2⟩ := valM_ok q3
          exact g5 i v (by rw [r2]; exact q2)⟩
    · cases h
/-- this heap says less. -/
def HLe (Z H : Hp) : Prop := Z.next = H.next ∧ ∀ b z, Z.b.get b = some z → ∃ x, H.b.get b = some x ∧ BLe z x
theorem HLe.rel {Z H : Hp} (h : HLe Z H) {E : Env} {w : World} (hr : HRel E H w) : HRel E Z w := by
  obtain ⟨hn, hb⟩ := h
  refine ⟨fun b z hz => ?_, fun b z hz => ?_, fun b b' z z' h1 h2 he => ?_⟩
  · obtain ⟨x, g, _⟩ := hb b z hz
    rw [hn]; exact hr.lt b x g
  · obtain ⟨x, g, k⟩ := hb b z hz
    rw [hn]; exact k.2 _ _ _ _ (hr.rel b x g)
  · obtain ⟨x, g, _⟩ := hb b z h1
    obtain ⟨x', g', _⟩ := hb b' z' h2
    exact hr.inj _ _ _ _ g g' he
theorem HLe.gd {Z H1 H : Hp} (h : HLe Z H1) {E E' : Env} {w w' : World} (g : Gd E E' H H1 w w') : Gd E E' H Z w w' := by
  obtain ⟨hn, hb⟩ := h
  refine ⟨by rw [hn]; exact g.le, g.ag, fun b z hz => ?_, g.os, g.tape, g.output, g.size, g.frame⟩
  obtain ⟨x, k, hx⟩ := hb b z hz
  rcases g.dom b x k with ⟨b0, x0, h0, w0, e0⟩ | h0
  · exact .inl ⟨b0, x0, h0, fun hw => w0 (by rw [← hx.1]; exact hw), e0⟩
  · exact .inr h0
def meetA (A B : AA) : AA := ⟨A.g, A.n, A.k, meetT valM A.v B.v, []⟩
def sameA (A B : AA) : Bool := ite' (Nat.beq A.g B.g) (ite' (Nat.beq A.n B.n) (Nat.beq A.k B.k) false) false
theorem meetA_ok {A B : AA} (hs : sameA A B = true) {E : Env} {N : Nat} {a : Act} : (AR ds E N A a → AR ds E N (meetA A B) a) ∧ (AR ds E N B a → AR ds E N (meetA A B) a) := by
  obtain ⟨h1, h2⟩ := ite'_true_eq hs
  obtain ⟨h3, h4⟩ := ite'_true_eq h2
  have e1 := Nat.eq_of_beq_eq_true h1
  have e2 := Nat.eq_of_beq_eq_true h3
  have e3 := Nat.eq_of_beq_eq_true h4
  refine ⟨fun h => ⟨h.df, h.size, h.gl, fun t v hv => ?_⟩, fun h => ⟨h.df, by show _ = A.n; rw [e2]; exact h.size, by show ∀ g, g < A.g → _; rw [e1]; exact h.gl, fun t v hv => ?_⟩⟩
  · change ite' (bit A.k t) ((meetT valM A.v B.v).get t) (recGet [] t) = some v at hv
    cases hb : bit A.k t with
    | false => rw [hb] at hv; cases hv
    | true =>
      rw [hb, ite'_true] at hv
      obtain ⟨x, y, q1, q2, q3⟩ := meetT_get hv
      obtain ⟨r1, r2⟩ := valM_ok q3
      refine h.tm t v ?_
      show ite' (bit A.k t) (A.v.get t) _ = some v
      rw [hb, ite'_true, r1]; exact q1
  · change ite' (bit A.k t) ((meetT valM A.v B.v).get t) (recGet [] t) = some v at hv
    cases hb : bit A.k t with
    | false => rw [hb] at hv; cases hv
    | true =>
      rw [hb, ite'_true] at hv
      obtain ⟨x, y, q1, q2, q3⟩ := meetT_get hv
      obtain ⟨r1, r2⟩ := valM_ok q3
      refine h.tm t v ?_
      show ite' (bit B.k t) (B.v.get t) _ = some v
      rw [← e3, hb, ite'_true, r2]; exact q2
def exEq (e e2 : Ex) : Bool := match e with
  | .normal => (match e2 with
    | .normal => true
    | _ => false)
  | .ret => (match e2 with
    | .ret => true
    | _ => false)
  | .exit i => (match e2 with
    | .exit j => Nat.beq i j
    | _ => false)
theorem exEq_eq {e e2 : Ex} (h : exEq e e2 = true) : e = e2 := by
  cases e <;> cases e2 <;> first | rfl | (cases h; done) | (rw [Nat.eq_of_beq_eq_true h])
def meetOut (r s : Out) : Out := match r with
  | .code e A H => (match s with
    | .code e2 A2 H2 => ite' (exEq e e2) (ite' (sameA A A2) (ite' (Nat.beq H.next H2.next) (.code e (meetA A A2) ⟨meetT blkM H.b H2.b, H.next⟩) (.bad 25)) (.bad 26)) (.bad 27)
    | .bad w => .bad w
    | _ => .bad 28)
  | .bad w => .bad w
  | _ => .bad 28
theorem meetOut_ok {r s : Out} {e : Ex} {A : AA} {H : Hp} (h : meetOut r s = .code e A H) : ∃ A1 H1 A2 H2, r = .code e A1 H1 ∧ s = .code e A2 H2 ∧ HLe H H1 ∧ HLe H H2 ∧ ∀ {ds : List Deferred} {E : Env} {N : Nat} {a : Act}, (AR ds E N A1 a → AR ds E N A a) ∧ (AR ds E N A2 a → AR ds E N A a) := by
  unfold meetOut at h
  split at h
  · rename_i e1 A1 H1
    split at h
    · rename_i e2 A2 H2
      obtain ⟨h1, h2⟩ := ite'_out h
      obtain ⟨h3, h4⟩ := ite'_out h2
      obtain ⟨h5, h6⟩ := ite'_out h4
      cases h6
      have e3 := exEq_eq h1
      subst e3
      refine ⟨A1, H1, A2, H2, rfl, rfl, ⟨rfl, fun b z hz => ?_⟩, ⟨Nat.eq_of_beq_eq_true h5, fun b z hz => ?_⟩, fun {E N a} => meetA_ok h3⟩
      · obtain ⟨x, y, q1, q2, q3⟩ := meetT_get hz
        exact ⟨x, q1, (blkM_ok q3).1⟩
      · obtain ⟨x, y, q1, q2, q3⟩ := meetT_get hz
        exact ⟨y, q2, (blkM_ok q3).2⟩
    · cases h
    · cases h
  · cases h
  · cases h
end
end Go.Proofs.YtanhkchpffkloaaGreatDoor
