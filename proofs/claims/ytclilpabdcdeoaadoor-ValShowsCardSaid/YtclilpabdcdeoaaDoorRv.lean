import Derived.Test.YtclilpabdcdeoaaDoorKw
namespace Go.Proofs.YtclilpabdcdeoaaDoor
open Go.ChangeShapes Go.WideShapes Go.ChangeAt Go.RowKit
set_option linter.unusedVariables false
mutual
def okR (w : World) (P : Nat → Prop) : VT → Nat → Nat → Prop
  | .mk k n nm args node at_, b, o => (-9223372036854775808 ≤ n ∧ n ≤ 9223372036854775807) ∧ w.cell? ⟨b, o + 0, none⟩ = some (.int .i64 k) ∧ w.cell? ⟨b, o + 1, none⟩ = some (.int .i64 n) ∧ w.cell? ⟨b, o + 2, none⟩ = some (.string nm) ∧ w.cell? ⟨b, o + 4, none⟩ = some (.int .i64 node) ∧ w.cell? ⟨b, o + 5, none⟩ = some (.pointer none) ∧ w.cell? ⟨b, o + 6, none⟩ = some (.int .i64 at_) ∧ w.cell? ⟨b, o + 7, none⟩ = some (.int .i64 0) ∧ (∃ A c, w.cell? ⟨b, o + 3, none⟩ = some (.slice A args.length c) ∧ (args.length = 0 ∨ ∃ b', A = some ⟨b', 0, none⟩ ∧ b' < w.heap.size ∧ P b' ∧ okRL w P args b' 0))
def okRL (w : World) (P : Nat → Prop) : List VT → Nat → Nat → Prop
  | [], _, _ => True
  | v :: l, b, o => okR w P v b o ∧ okRL w P l b (o + 8)
end
def RRow (w : World) (P : Nat → Prop) (A : Option Addr) (l : List VT) : Prop := l.length = 0 ∨ ∃ b, A = some ⟨b, 0, none⟩ ∧ b < w.heap.size ∧ P b ∧ okRL w P l b 0
theorem RRow.move {w w' : World} {P P' : Nat → Prop} {A : Option Addr} {l : List VT} (hk : ∀ b, b < w.heap.size → P b → w'.heap[b]? = w.heap[b]? ∧ P' b) (hs : w.heap.size ≤ w'.heap.size) (h : RRow w P A l) : RRow w' P' A l := by
  have main : ∀ l b o, b < w.heap.size → P b → okRL w P l b o → okRL w' P' l b o := by
    have hc : ∀ b o v, b < w.heap.size → P b → w.cell? ⟨b, o, none⟩ = some v → w'.cell? ⟨b, o, none⟩ = some v := fun b o v hlt hp hx => (World.cell?_of_block (hk b hlt hp).1).trans hx
    refine fun l => VT.rec_1 (motive_1 := fun v => ∀ b o, b < w.heap.size → P b → okR w P v b o → okR w' P' v b o) (motive_2 := fun l => ∀ b o, b < w.heap.size → P b → okRL w P l b o → okRL w' P' l b o) ?_ ?_ ?_ l
    · intro k n nm args node at_ ih b o hb hp h
      rw [okR] at h ⊢
      obtain ⟨hn, c0, c1, c2, c4, c5, c6, c7, ⟨A', c', cA, hA'⟩⟩ := h
      refine ⟨hn, hc _ _ _ hb hp c0, hc _ _ _ hb hp c1, hc _ _ _ hb hp c2, hc _ _ _ hb hp c4, hc _ _ _ hb hp c5, hc _ _ _ hb hp c6, hc _ _ _ hb hp c7, ⟨A', c', hc _ _ _ hb hp cA, ?_⟩⟩
      rcases hA' with h1 | ⟨b', h1, h2, h3, h4⟩
      · exact .inl h1
      · exact .inr ⟨b', h1, by omega, (hk b' h2 h3).2, ih b' 0 h2 h3 h4⟩
    · intro b o _ _ h; rw [okRL]; trivial
    · intro v l iv il b o hb hp h
      rw [okRL] at h ⊢
      exact ⟨iv b o hb hp h.1, il b _ hb hp h.2⟩
  rcases h with h | ⟨b, h1, h2, h3, h4⟩
  · exact .inl h
  · exact .inr ⟨b, h1, Nat.lt_of_lt_of_le h2 hs, (hk b h2 h3).2, main l b 0 h2 h3 h4⟩
theorem okR_eq (w : World) (P : Nat → Prop) (v : VT) (b o : Nat) : okR w P v b o ↔ (-9223372036854775808 ≤ v.n ∧ v.n ≤ 9223372036854775807) ∧ w.cell? ⟨b, o + 0, none⟩ = some (.int .i64 v.k) ∧ w.cell? ⟨b, o + 1, none⟩ = some (.int .i64 v.n) ∧ w.cell? ⟨b, o + 2, none⟩ = some (.string v.nm) ∧ w.cell? ⟨b, o + 4, none⟩ = some (.int .i64 v.node) ∧ w.cell? ⟨b, o + 5, none⟩ = some (.pointer none) ∧ w.cell? ⟨b, o + 6, none⟩ = some (.int .i64 v.at_) ∧ w.cell? ⟨b, o + 7, none⟩ = some (.int .i64 0) ∧ (∃ A c, w.cell? ⟨b, o + 3, none⟩ = some (.slice A v.args.length c) ∧ RRow w P A v.args) := by
  cases v; rw [okR]; rfl
theorem okRL_at {w : World} {P : Nat → Prop} : ∀ {l : List VT} {b o : Nat}, okRL w P l b o → ∀ i (h : i < l.length), okR w P l[i] b (o + i * 8)
  | v :: l, b, o, h, 0, _ => by rw [okRL] at h; simpa using h.1
  | v :: l, b, o, h, i + 1, hi => by
    rw [okRL] at h
    have := okRL_at h.2 i (by simpa using hi)
    rw [show o + (i + 1) * 8 = o + 8 + i * 8 by omega]; simpa using this
def kidV (v : VT) (A : Option Addr) (c : Nat) : List Value := [.int .i64 v.k, .int .i64 v.n, .string v.nm, .slice A v.args.length c, .int .i64 v.node, .pointer none, .int .i64 v.at_, .int .i64 0]
def Kids (w : World) (P : Nat → Prop) : List VT → List Value → Prop
  | [], xs => xs = []
  | v :: l, xs => ∃ A c ys, xs = kidV v A c ++ ys ∧ (-9223372036854775808 ≤ v.n ∧ v.n ≤ 9223372036854775807) ∧ RRow w P A v.args ∧ Kids w P l ys
theorem Kids.move {w w' : World} {P P' : Nat → Prop} (hk : ∀ b, b < w.heap.size → P b → w'.heap[b]? = w.heap[b]? ∧ P' b) (hs : w.heap.size ≤ w'.heap.size) : ∀ {l : List VT} {xs : List Value}, Kids w P l xs → Kids w' P' l xs
  | [], _, h => h
  | v :: l, _, ⟨A, c, ys, h1, hn, h3, h4⟩ => ⟨A, c, ys, h1, hn, h3.move hk hs, Kids.move hk hs h4⟩
theorem Kids.snoc {w : World} {P : Nat → Prop} {v : VT} {A : Option Addr} {c : Nat} (hn : (-9223372036854775808 ≤ v.n ∧ v.n ≤ 9223372036854775807)) (hr : RRow w P A v.args) : ∀ {l : List VT} {xs : List Value}, Kids w P l xs → Kids w P (l ++ [v]) (xs ++ kidV v A c)
  | [], _, h => by rw [show _ = _ from h]; exact ⟨A, c, [], by simp, hn, hr, rfl⟩
  | u :: l, _, ⟨A', c', ys, h1, hn2, h3, h4⟩ => ⟨A', c', ys ++ kidV v A c, by rw [h1, List.append_assoc], hn2, h3, Kids.snoc hn hr h4⟩
theorem Kids.row {w : World} {P : Nat → Prop} {g : Nat} : ∀ {l : List VT} {xs : List Value} {o : Nat}, Kids w P l xs → (∀ j (h : j < xs.length), w.cell? ⟨g, o + j, none⟩ = some xs[j]) → okRL w P l g o
  | [], _, _, _, _ => by rw [okRL]; trivial
  | v :: l, xs, o, ⟨A, c, ys, h1, hn, h3, h4⟩, hc => by
    subst h1
    rw [okRL]
    have hl : (kidV v A c ++ ys).length = 8 + ys.length := by simp [kidV]; omega
    refine ⟨(okR_eq _ _ _ _ _).2 ⟨hn, (hc 0 (by omega)).trans (by simp [kidV]), (hc 1 (by omega)).trans (by simp [kidV]), (hc 2 (by omega)).trans (by simp [kidV]), (hc 4 (by omega)).trans (by simp [kidV]), (hc 5 (by omega)).trans (by simp [kidV]), (hc 6 (by omega)).trans (by simp [kidV]), (hc 7 (by omega)).trans (by simp [kidV]), A, c, (hc 3 (by omega)).trans (by simp [kidV]), h3⟩, Kids.row h4 (fun j hj => ?_)⟩
    have := hc (8 + j) (by omega)
    rw [← Nat.add_assoc] at this
    rw [this]
    congr 1
    rw [List.getElem_append_right (by simp [kidV])]
    congr 1
    simp [kidV]
mutual
def okRT (w : World) (P : Nat → Prop) : TT → Nat → Nat → Prop
  | .mk k nm vr args, b, o => w.cell? ⟨b, o + 0, none⟩ = some (.int .i64 k) ∧ w.cell? ⟨b, o + 1, none⟩ = some (.string nm) ∧ w.cell? ⟨b, o + 2, none⟩ = some (.int .i64 vr) ∧ (∃ A c, w.cell? ⟨b, o + 3, none⟩ = some (.slice A args.length c) ∧ (args.length = 0 ∨ ∃ b', A = some ⟨b', 0, none⟩ ∧ b' < w.heap.size ∧ P b' ∧ okRTL w P args b' 0))
def okRTL (w : World) (P : Nat → Prop) : List TT → Nat → Nat → Prop
  | [], _, _ => True
  | v :: l, b, o => okRT w P v b o ∧ okRTL w P l b (o + 4)
end
def RTRow (w : World) (P : Nat → Prop) (A : Option Addr) (l : List TT) : Prop := l.length = 0 ∨ ∃ b, A = some ⟨b, 0, none⟩ ∧ b < w.heap.size ∧ P b ∧ okRTL w P l b 0
theorem RTRow.move {w w' : World} {P P' : Nat → Prop} {A : Option Addr} {l : List TT} (hk : ∀ b, b < w.heap.size → P b → w'.heap[b]? = w.heap[b]? ∧ P' b) (hs : w.heap.size ≤ w'.heap.size) (h : RTRow w P A l) : RTRow w' P' A l := by
  have main : ∀ l b o, b < w.heap.size → P b → okRTL w P l b o → okRTL w' P' l b o := by
    have hc : ∀ b o v, b < w.heap.size → P b → w.cell? ⟨b, o, none⟩ = some v → w'.cell? ⟨b, o, none⟩ = some v := fun b o v hlt hp hx => (World.cell?_of_block (hk b hlt hp).1).trans hx
    refine fun l => TT.rec_1 (motive_1 := fun v => ∀ b o, b < w.heap.size → P b → okRT w P v b o → okRT w' P' v b o) (motive_2 := fun l => ∀ b o, b < w.heap.size → P b → okRTL w P l b o → okRTL w' P' l b o) ?_ ?_ ?_ l
    · intro k nm vr args ih b o hb hp h
      rw [okRT] at h ⊢
      obtain ⟨c0, c1, c2, ⟨A', c', cA, hA'⟩⟩ := h
      refine ⟨hc _ _ _ hb hp c0, hc _ _ _ hb hp c1, hc _ _ _ hb hp c2, ⟨A', c', hc _ _ _ hb hp cA, ?_⟩⟩
      rcases hA' with h1 | ⟨b', h1, h2, h3, h4⟩
      · exact .inl h1
      · exact .inr ⟨b', h1, by omega, (hk b' h2 h3).2, ih b' 0 h2 h3 h4⟩
    · intro b o _ _ h; rw [okRTL]; trivial
    · intro v l iv il b o hb hp h
      rw [okRTL] at h ⊢
      exact ⟨iv b o hb hp h.1, il b _ hb hp h.2⟩
  rcases h with h | ⟨b, h1, h2, h3, h4⟩
  · exact .inl h
  · exact .inr ⟨b, h1, Nat.lt_of_lt_of_le h2 hs, (hk b h2 h3).2, main l b 0 h2 h3 h4⟩
theorem okRT_eq (w : World) (P : Nat → Prop) (v : TT) (b o : Nat) : okRT w P v b o ↔ w.cell? ⟨b, o + 0, none⟩ = some (.int .i64 v.k) ∧ w.cell? ⟨b, o + 1, none⟩ = some (.string v.nm) ∧ w.cell? ⟨b, o + 2, none⟩ = some (.int .i64 v.vr) ∧ (∃ A c, w.cell? ⟨b, o + 3, none⟩ = some (.slice A v.args.length c) ∧ RTRow w P A v.args) := by
  cases v; rw [okRT]; rfl
theorem okRTL_at {w : World} {P : Nat → Prop} : ∀ {l : List TT} {b o : Nat}, okRTL w P l b o → ∀ i (h : i < l.length), okRT w P l[i] b (o + i * 4)
  | v :: l, b, o, h, 0, _ => by rw [okRTL] at h; simpa using h.1
  | v :: l, b, o, h, i + 1, hi => by
    rw [okRTL] at h
    have := okRTL_at h.2 i (by simpa using hi)
    rw [show o + (i + 1) * 4 = o + 4 + i * 4 by omega]; simpa using this
def kidT (v : TT) (A : Option Addr) (c : Nat) : List Value := [.int .i64 v.k, .string v.nm, .int .i64 v.vr, .slice A v.args.length c]
def KidsT (w : World) (P : Nat → Prop) : List TT → List Value → Prop
  | [], xs => xs = []
  | v :: l, xs => ∃ A c ys, xs = kidT v A c ++ ys ∧ RTRow w P A v.args ∧ KidsT w P l ys
theorem KidsT.move {w w' : World} {P P' : Nat → Prop} (hk : ∀ b, b < w.heap.size → P b → w'.heap[b]? = w.heap[b]? ∧ P' b) (hs : w.heap.size ≤ w'.heap.size) : ∀ {l : List TT} {xs : List Value}, KidsT w P l xs → KidsT w' P' l xs
  | [], _, h => h
  | v :: l, _, ⟨A, c, ys, h1, h3, h4⟩ => ⟨A, c, ys, h1, h3.move hk hs, KidsT.move hk hs h4⟩
theorem KidsT.snoc {w : World} {P : Nat → Prop} {v : TT} {A : Option Addr} {c : Nat} (hr : RTRow w P A v.args) : ∀ {l : List TT} {xs : List Value}, KidsT w P l xs → KidsT w P (l ++ [v]) (xs ++ kidT v A c)
  | [], _, h => by rw [show _ = _ from h]; exact ⟨A, c, [], by simp, hr, rfl⟩
  | u :: l, _, ⟨A', c', ys, h1, h3, h4⟩ => ⟨A', c', ys ++ kidT v A c, by rw [h1, List.append_assoc], h3, KidsT.snoc hr h4⟩
theorem KidsT.row {w : World} {P : Nat → Prop} {g : Nat} : ∀ {l : List TT} {xs : List Value} {o : Nat}, KidsT w P l xs → (∀ j (h : j < xs.length), w.cell? ⟨g, o + j, none⟩ = some xs[j]) → okRTL w P l g o
  | [], _, _, _, _ => by rw [okRTL]; trivial
  | v :: l, xs, o, ⟨A, c, ys, h1, h3, h4⟩, hc => by
    subst h1
    rw [okRTL]
    have hl : (kidT v A c ++ ys).length = 4 + ys.length := by simp [kidT]; omega
    refine ⟨(okRT_eq _ _ _ _ _).2 ⟨(hc 0 (by omega)).trans (by simp [kidT]), (hc 1 (by omega)).trans (by simp [kidT]), (hc 2 (by omega)).trans (by simp [kidT]), A, c, (hc 3 (by omega)).trans (by simp [kidT]), h3⟩, KidsT.row h4 (fun j hj => ?_)⟩
    have := hc (4 + j) (by omega)
    rw [← Nat.add_assoc] at this
    rw [this]
    congr 1
    rw [List.getElem_append_right (by simp [kidT])]
    congr 1
    simp [kidT]
end Go.Proofs.YtclilpabdcdeoaaDoor
