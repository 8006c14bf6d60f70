import Derived.Test.YtclilpabdcdeoaaDoorTx
import Derived.Test.YtclilpabdcdeoaaDoorKw
import Derived.Deep.Cut
import Derived.Deep.CutBlock
import Derived.Deep.DeepCutAuto
namespace Go.Proofs.YtclilpabdcdeoaaDoor
open Go.ChangeShapes Go.WideShapes Go.ChangeAt Go.RowKit
set_option linter.unusedVariables false
theorem op1 (w : World) : Calls Tryd.prog 10 #[.string ⟨#[47]⟩, .int .i64 1, .int .i64 1] w fun e w' => e = .returned (.tuple #[num 0 0, .bool false]) ∧ Below w.heap.size w w' := by
  have e : opR ⟨#[47]⟩ 1 1 = (0, 0, false) := by decide +kernel
  have := op_any ⟨#[47]⟩ 1 1 w
  rw [e] at this; exact this
theorem op2 (w : World) : Calls Tryd.prog 10 #[.string ⟨#[60]⟩, .int .i64 (-1), .int .i64 0] w fun e w' => e = .returned (.tuple #[num 2 1, .bool true]) ∧ Below w.heap.size w w' := by
  have e : opR ⟨#[60]⟩ (-1) 0 = (2, 1, true) := by decide +kernel
  have := op_any ⟨#[60]⟩ (-1) 0 w
  rw [e] at this; exact this
theorem three_new (w : World) (a b c : Obj) : (((w.alloc a).alloc b).alloc c).heap[w.heap.size]? = some a ∧ (((w.alloc a).alloc b).alloc c).heap[w.heap.size + 1]? = some b ∧ (((w.alloc a).alloc b).alloc c).heap[w.heap.size + 2]? = some c := by
  refine ⟨?_, ?_, ?_⟩
  · show (((w.heap.push a).push b).push c)[w.heap.size]? = _
    rw [Array.getElem?_push, if_neg (by simp; omega), Array.getElem?_push, if_neg (by simp), Array.getElem?_push, if_pos rfl]
  · show (((w.heap.push a).push b).push c)[w.heap.size + 1]? = _
    rw [Array.getElem?_push, if_neg (by simp), Array.getElem?_push, if_pos (by simp)]
  · show (((w.heap.push a).push b).push c)[w.heap.size + 2]? = _
    rw [Array.getElem?_push, if_pos (by simp)]
def envC : List Bk := [(⟨#[120]⟩, (3, 0)), (⟨#[121]⟩, (1, 7)), (⟨#[120]⟩, (0, 0))]
theorem env_new (w : World) : ChainK (((w.alloc (EnvK ⟨#[120]⟩ (0, 0) none)).alloc (EnvK ⟨#[121]⟩ (1, 7) (some ⟨w.heap.size, 0, none⟩))).alloc (EnvK ⟨#[120]⟩ (3, 0) (some ⟨w.heap.size + 1, 0, none⟩))) envC (some ⟨w.heap.size + 2, 0, none⟩) := by
  obtain ⟨h0, h1, h2⟩ := three_new w (EnvK ⟨#[120]⟩ (0, 0) none) (EnvK ⟨#[121]⟩ (1, 7) (some ⟨w.heap.size, 0, none⟩)) (EnvK ⟨#[120]⟩ (3, 0) (some ⟨w.heap.size + 1, 0, none⟩))
  exact ⟨_, _, rfl, h2, fun b h => by injection h with h; injection h with h; omega, _, _, rfl, h1, fun b h => by injection h with h; injection h with h; omega, _, _, rfl, h0, (fun b h => by cases h), rfl⟩
theorem find_y {w : World} {q : Option Addr} (hc : ChainK w envC q) : Calls Tryd.prog 11 #[.pointer q, .string ⟨#[121]⟩] w fun e w' => e = .returned (.tuple #[num 1 7, .bool true]) ∧ Below w.heap.size w w' := by
  have e : findK envC ⟨#[121]⟩ = some (1, 7) := by decide +kernel
  have := find_K envC ⟨#[121]⟩ hc (by decide)
  rw [e] at this; exact this
theorem find_nil {w : World} : Calls Tryd.prog 11 #[.pointer none, .string ⟨#[121]⟩] w fun e w' => e = .returned (.tuple #[num 0 0, .bool false]) ∧ Below w.heap.size w w' := find_K [] ⟨#[121]⟩ rfl (by decide)
theorem own_tx {w : World} {B n cap : Nat} {A : Option Addr} {l : List ByteArray} (h : w.ownsRow B 9 1 (.slice A n cap) n (strs l)) : TxRow w A l := by
  have hl : l.length = n := by have := h.1; simp [strs] at this; omega
  rcases h.2 with ⟨_, e⟩ | ⟨g, cap', cur, e, h1, h2, h3⟩
  · exact .inl (by omega)
  · injection e with e1 e2 e3
    subst e1
    refine .inr ⟨g, 0, rfl, (Array.getElem?_eq_some_iff.1 h2).1, fun j hj => ?_⟩
    have := h.cellAt j (by omega)
    rw [Nat.zero_add, this]
    simp [strs, hj]
def v0 : VT := .mk 0 0 ⟨#[]⟩ [] 0 0
def v19 : VT := .mk 1 9 ⟨#[]⟩ [] 0 0
def vm3 : VT := .mk 1 (-3) ⟨#[]⟩ [] 0 0
def vfa : VT := .mk 2 0 ⟨#[]⟩ [] 0 0
def vun : VT := .mk 3 0 ⟨#[]⟩ [] 0 0
def vcell : VT := .mk 6 0 ⟨#[]⟩ [] 0 1
def vfun : VT := .mk 5 0 ⟨#[]⟩ [] 0 0
def vpair : VT := .mk 4 0 ⟨#[80]⟩ [vm3, vfa, vun] 0 0
def cpair : CN := ⟨⟨#[80]⟩, [⟨#[105, 110, 116]⟩, ⟨#[98, 111, 111, 108]⟩]⟩
abbrev aCell : Value := .agg #[.int .i64 6, .int .i64 0, .string ⟨#[]⟩, .slice none 0 0, .int .i64 0, .pointer none, .int .i64 1]
abbrev aPair (p : Nat) : Value := .agg #[.int .i64 4, .int .i64 0, .string ⟨#[80]⟩, .slice (some ⟨p, 0, none⟩) 3 3, .int .i64 0, .pointer none, .int .i64 0]
theorem in_cell (w : World) : VIn w vcell aCell := ⟨none, 0, .pointer none, rfl, by decide, .inl rfl⟩
theorem in_pair {w : World} {p : Nat} (h : VRow w (some ⟨p, 0, none⟩) [vm3, vfa, vun]) : VIn w vpair (aPair p) := ⟨_, 3, .pointer none, rfl, by decide, h⟩
theorem rend1 {W : World} {b1 b2 : Nat} (hT : PowTab W) (h1 : TRow W (some ⟨b1, 0, none⟩) [T1]) (h2 : VRow W (some ⟨b2, 0, none⟩) [v0, v19]) :
    Calls Tryd.prog 14 #[aCell, .agg #[.int .i64 6, .string ⟨#[]⟩, .int .i64 0, .slice (some ⟨b1, 0, none⟩) 1 1], .slice (some ⟨b2, 0, none⟩) 2 2, .slice none 0 0] W fun e w' => e = .returned (.string ⟨#[114, 101, 102, 32, 57]⟩) ∧ Below W.heap.size W w' := by
  have e : rtext [v0, v19] [] 50 vcell (.mk 6 ⟨#[]⟩ 0 [T1]) = ⟨#[114, 101, 102, 32, 57]⟩ := by decide +kernel
  have := render_any (w := W) (cc := 2) (ck := 0) (Ak := none) (Ac := some ⟨b2, 0, none⟩) (cons := []) (cells := [v0, v19]) (V := vcell) (T := .mk 6 ⟨#[]⟩ 0 [T1]) hT (.inl rfl) (by simp) h2 (in_cell W) ⟨_, 1, rfl, h1⟩ (by rw [e]; decide)
  rw [e] at this; exact this
theorem rend2 {W : World} {b1 : Nat} (hT : PowTab W) (h1 : TRow W (some ⟨b1, 0, none⟩) [T1]) :
    Calls Tryd.prog 14 #[aCell, .agg #[.int .i64 6, .string ⟨#[]⟩, .int .i64 0, .slice (some ⟨b1, 0, none⟩) 1 1], .slice none 0 0, .slice none 0 0] W fun e w' => e = .returned (.string ⟨#[114, 101, 102, 32, 63]⟩) ∧ Below W.heap.size W w' := by
  have e : rtext [] [] 50 vcell (.mk 6 ⟨#[]⟩ 0 [T1]) = ⟨#[114, 101, 102, 32, 63]⟩ := by decide +kernel
  have := render_any (w := W) (cc := 0) (ck := 0) (Ak := none) (Ac := none) (cons := []) (cells := []) (V := vcell) (T := .mk 6 ⟨#[]⟩ 0 [T1]) hT (.inl rfl) (by simp) (.inl rfl) (in_cell W) ⟨_, 1, rfl, h1⟩ (by rw [e]; decide)
  rw [e] at this; exact this
theorem rend3 {W : World} {p q : Nat} (hT : PowTab W) (h1 : VRow W (some ⟨p, 0, none⟩) [vm3, vfa, vun]) (h2 : CRow W (some ⟨q, 0, none⟩) [cpair]) :
    Calls Tryd.prog 14 #[aPair p, .agg #[.int .i64 4, .string ⟨#[116]⟩, .int .i64 0, .slice none 0 0], .slice none 0 0, .slice (some ⟨q, 0, none⟩) 1 1] W fun e w' => e = .returned (.string ⟨#[80, 32, 40, 45, 51, 44, 32, 102, 97, 108, 115, 101, 44, 32, 63, 41]⟩) ∧ Below W.heap.size W w' := by
  have e : rtext [] [cpair] 50 vpair (.mk 4 ⟨#[116]⟩ 0 []) = ⟨#[80, 32, 40, 45, 51, 44, 32, 102, 97, 108, 115, 101, 44, 32, 63, 41]⟩ := by decide +kernel
  have := render_any (w := W) (cc := 0) (ck := 1) (Ak := some ⟨q, 0, none⟩) (Ac := none) (cons := [cpair]) (cells := []) (V := vpair) (T := .mk 4 ⟨#[116]⟩ 0 []) hT h2 (by simp) (.inl rfl) (in_pair h1) ⟨none, 0, rfl, .inl rfl⟩ (by rw [e]; decide)
  rw [e] at this; exact this
theorem rend4 {W : World} {p : Nat} (hT : PowTab W) (h1 : VRow W (some ⟨p, 0, none⟩) [vm3, vfa, vun]) :
    Calls Tryd.prog 14 #[aPair p, .agg #[.int .i64 1, .string ⟨#[]⟩, .int .i64 0, .slice none 0 0], .slice none 0 0, .slice none 0 0] W fun e w' => e = .returned (.string ⟨#[63]⟩) ∧ Below W.heap.size W w' := by
  have e : rtext [] [] 50 vpair (.mk 1 ⟨#[]⟩ 0 []) = ⟨#[63]⟩ := by decide +kernel
  have := render_any (w := W) (cc := 0) (ck := 0) (Ak := none) (Ac := none) (cons := []) (cells := []) (V := vpair) (T := .mk 1 ⟨#[]⟩ 0 []) hT (.inl rfl) (by simp) (.inl rfl) (in_pair h1) ⟨none, 0, rfl, .inl rfl⟩ (by rw [e]; decide)
  rw [e] at this; exact this
theorem rend5 {W : World} {p : Nat} (hT : PowTab W) (h1 : VRow W (some ⟨p, 0, none⟩) [vm3, vfa, vun]) :
    Calls Tryd.prog 14 #[aPair p, .agg #[.int .i64 7, .string ⟨#[]⟩, .int .i64 0, .slice none 0 0], .slice none 0 0, .slice none 0 0] W fun e w' => e = .returned (.string ⟨#[60, 112, 111, 108, 121, 62]⟩) ∧ Below W.heap.size W w' := by
  have e : rtext [] [] 50 vpair (.mk 7 ⟨#[]⟩ 0 []) = ⟨#[60, 112, 111, 108, 121, 62]⟩ := by decide +kernel
  have := render_any (w := W) (cc := 0) (ck := 0) (Ak := none) (Ac := none) (cons := []) (cells := []) (V := vpair) (T := .mk 7 ⟨#[]⟩ 0 []) hT (.inl rfl) (by simp) (.inl rfl) (in_pair h1) ⟨none, 0, rfl, .inl rfl⟩ (by rw [e]; decide)
  rw [e] at this; exact this
theorem rend6 {W : World} {b1 : Nat} (hT : PowTab W) (h1 : TRow W (some ⟨b1, 0, none⟩) [T1, T1]) :
    Calls Tryd.prog 14 #[.agg #[.int .i64 5, .int .i64 0, .string ⟨#[]⟩, .slice none 0 0, .int .i64 0, .pointer none, .int .i64 0], .agg #[.int .i64 5, .string ⟨#[]⟩, .int .i64 0, .slice (some ⟨b1, 0, none⟩) 2 2], .slice none 0 0, .slice none 0 0] W fun e w' => e = .returned (.string ⟨#[60, 102, 117, 110, 62]⟩) ∧ Below W.heap.size W w' := by
  have e : rtext [] [] 50 vfun (.mk 5 ⟨#[]⟩ 0 [T1, T1]) = ⟨#[60, 102, 117, 110, 62]⟩ := by decide +kernel
  have := render_any (w := W) (cc := 0) (ck := 0) (Ak := none) (Ac := none) (cons := []) (cells := []) (V := vfun) (T := .mk 5 ⟨#[]⟩ 0 [T1, T1]) hT (.inl rfl) (by simp) (.inl rfl) ⟨none, 0, .pointer none, rfl, by decide, .inl rfl⟩ ⟨_, 2, rfl, h1⟩ (by rw [e]; decide)
  rw [e] at this; exact this
theorem same1 {W : World} {p : Nat} (h1 : VRow W (some ⟨p, 0, none⟩) [vm3, vfa, vun]) : Calls Tryd.prog 15 #[aPair p, aPair p] W fun e w' => e = .returned (.bool true) ∧ Below W.heap.size W w' := by
  have e : sameD 2 vpair vpair = true := by decide +kernel
  have := Same_any (w := W) (V := vpair) (U := vpair) (d := 1) (by decide +kernel) (by decide) (in_pair h1) (in_pair h1)
  rw [e] at this; exact this
theorem same2 {W : World} {p : Nat} (h1 : VRow W (some ⟨p, 0, none⟩) [vm3, vfa, vun]) : Calls Tryd.prog 15 #[aPair p, aCell] W fun e w' => e = .returned (.bool false) ∧ Below W.heap.size W w' := by
  have e : sameD 2 vpair vcell = false := by decide +kernel
  have := Same_any (w := W) (V := vpair) (U := vcell) (d := 1) (by decide +kernel) (by decide) (in_pair h1) (in_cell W)
  rw [e] at this; exact this
theorem names_xy {w : World} {q : Option Addr} (hc : ChainK w envC q) : Calls Tryd.prog 13 #[.pointer q] w fun e w' => ∃ A cap, e = .returned (.slice A 2 cap) ∧ TxRow w' A [⟨#[120]⟩, ⟨#[121]⟩] ∧ Below w.heap.size w w' := by
  refine (names_K envC hc (by decide) (by decide)).mono ?_
  rintro e w' ⟨A, n, cap, rfl, hn, ho, hb⟩
  have e : namesK envC [] = [⟨#[120]⟩, ⟨#[121]⟩] := by decide +kernel
  have hn2 := hn.out
  rw [e] at hn2
  have hn3 : n = 2 := hn2
  subst hn3
  have h2 := own_tx ho.out
  rw [e] at h2
  exact ⟨A, cap, rfl, h2, hb.out⟩
theorem TRow.later {w w' : World} {A : Option Addr} {n : Nat} (hb : Below w.heap.size w w') (h : TRow w A (List.replicate n T1)) : TRow w' A (List.replicate n T1) := by
  rcases h with h | ⟨b, o, e, hlt, h⟩
  · exact .inl h
  · refine .inr ⟨b, o, e, Nat.lt_of_lt_of_le hlt hb.size, ?_⟩
    have hc : ∀ o v, w.cell? ⟨b, o, none⟩ = some v → w'.cell? ⟨b, o, none⟩ = some v := fun o v hx => (hb.cell (p := ⟨b, o, none⟩) hlt).trans hx
    clear e
    induction n generalizing o with
    | zero => show okTL w' [] b o; rw [okTL]; trivial
    | succ n ih =>
      have h' : okTL w (T1 :: List.replicate n T1) b o := h
      show okTL w' (T1 :: List.replicate n T1) b o
      rw [okTL] at h' ⊢
      refine ⟨?_, ih (o + 4) h'.2⟩
      have h1 := h'.1
      rw [okT_eq] at h1 ⊢
      obtain ⟨_, a0, a1, a2, A, c, a3, _⟩ := h1
      exact ⟨Nat.lt_of_lt_of_le hlt hb.size, hc _ _ a0, hc _ _ a1, hc _ _ a2, A, c, hc _ _ a3, .inl rfl⟩
theorem okV_leaf {w : World} {b o : Nat} {k n at_ : Int} {e : Value} (hb : b < w.heap.size) (hn : -9223372036854775808 ≤ n ∧ n ≤ 9223372036854775807) (h : ∀ j v, #[.int .i64 k, .int .i64 n, .string ⟨#[]⟩, .slice none 0 0, .int .i64 0, e, .int .i64 at_][j]? = some v → w.cell? ⟨b, o + j, none⟩ = some v) : okV w (.mk k n ⟨#[]⟩ [] 0 at_) b o := by
  rw [okV_eq]
  exact ⟨hb, hn, h 0 _ rfl, h 1 _ rfl, h 2 _ rfl, ⟨none, 0, h 3 _ rfl, .inl rfl⟩, h 4 _ rfl, ⟨e, h 5 _ rfl⟩, h 6 _ rfl⟩
end Go.Proofs.YtclilpabdcdeoaaDoor
