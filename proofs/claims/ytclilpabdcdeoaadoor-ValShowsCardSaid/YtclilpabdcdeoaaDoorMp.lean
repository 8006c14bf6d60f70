import Derived.Test.YtclilpabdcdeoaaDoorFw
import Derived.Maps.Own
import Derived.Maps.OwnSet
import Derived.Maps.Views
import Derived.StringKeys
import Derived.Deep.AppendLies
namespace Go.Proofs.YtclilpabdcdeoaaDoor
open Go.ChangeShapes Go.WideShapes Go.ChangeAt Go.RowKit Go.WideMaps
set_option linter.unusedVariables false
theorem get_eq (s : ByteArray) (i : Nat) (h : i < s.size) : s.get! i = s[i] := by
  obtain ⟨⟨l⟩⟩ := s
  have h2 : i < l.length := h
  show (Array.mk l)[i]! = (Array.mk l)[i]
  rw [getElem!_pos _ _ (by simpa using h2)]
theorem loop_is (s : ByteArray) : ∀ (k i : Nat) (r : List UInt8), k = s.size - i → ByteArray.toList.loop s i r = r.reverse ++ s.data.toList.drop i := by
  intro k
  induction k with
  | zero =>
    intro i r h
    rw [ByteArray.toList.loop, if_neg (by omega)]
    rw [List.drop_eq_nil_of_le (by show s.data.toList.length ≤ i; rw [Array.length_toList]; show s.size ≤ i; omega)]
    simp
  | succ k ih =>
    intro i r h
    rw [ByteArray.toList.loop, if_pos (by omega), ih (i + 1) _ (by omega)]
    have hi : i < s.data.toList.length := by rw [Array.length_toList]; show i < s.size; omega
    rw [List.drop_eq_getElem_cons hi, List.reverse_cons, List.append_assoc]
    have hi2 : i < s.size := by omega
    have : s.get! i = s.data.toList[i] := by rw [get_eq s i hi2]; rfl
    rw [this]; rfl
theorem toList_data (s : ByteArray) : s.toList = s.data.toList := by
  unfold ByteArray.toList
  rw [loop_is s s.size 0 [] (by omega)]; rfl
theorem data_inj {a b : ByteArray} (h : a.data.toList = b.data.toList) : a = b := by
  obtain ⟨a⟩ := a; obtain ⟨b⟩ := b
  congr 1
  exact Array.ext' h
theorem eqB_ne {a b : ByteArray} (h : a ≠ b) : eqB a b = false := by
  unfold eqB
  rw [toList_data, toList_data]
  exact beq_eq_false_iff_ne.2 (fun e => h (data_inj e))
def strs (l : List ByteArray) : List Value := l.map .string
theorem strs_app (a b : List ByteArray) : strs (a ++ b) = strs a ++ strs b := by simp [strs]
theorem info9 : (Tryd.prog.info? 9).map (fun i => (i.zero, i.size, i.bytes)) = some (some (.string .empty), 1, 16) := by kernel_rfl
theorem new_cell (w : World) (v : Value) (t : TypeId) : (w.alloc (.cells #[v] t)).cell? ((⟨w.heap.size, 0, none⟩ : Addr).add 0) = some v := by
  have := (MapKept.heap_alloc w (Obj.cells #[v] t)).1
  show (w.alloc (.cells #[v] t)).cell? ⟨w.heap.size, 0, none⟩ = some v
  unfold World.cell?
  rw [this]; rfl
theorem own_keep {w w' : World} {B e n : Nat} {v : Value} {xs : List Value} (h : w.ownsRow B e 1 v n xs) (hb : ∀ g, B ≤ g → g < w.heap.size → w'.heap[g]? = w.heap[g]?) : w'.ownsRow B e 1 v n xs := by
  refine ⟨h.1, ?_⟩
  rcases h.2 with h0 | ⟨g, cap, cur, rfl, h1, h2, h3⟩
  · exact .inl h0
  · exact .inr ⟨g, cap, cur, rfl, h1, (hb g h1 (Array.getElem?_eq_some_iff.1 h2).1).trans h2, h3⟩
theorem own_mono {w : World} {B B' e n : Nat} {v : Value} {xs : List Value} (h : w.ownsRow B e 1 v n xs) (hB : B' ≤ B) : w.ownsRow B' e 1 v n xs := by
  refine ⟨h.1, ?_⟩
  rcases h.2 with h0 | ⟨g, cap, cur, rfl, h1, h2, h3⟩
  · exact .inl h0
  · exact .inr ⟨g, cap, cur, rfl, by omega, h2, h3⟩
theorem law9 : Maps.Keyed Tryd.prog 9 := Maps.string_keyed Tryd.underlying9
theorem zero3 (w : World) : (zeroValue 3).run Tryd.prog w = .ok (.int .i64 0) w := by kernel_rfl
/-- the map of the names that were seen. -/
def MapI (wr : World) (M n : Nat) (acc : List ByteArray) : Prop := ∃ D : DataW Unit, wr.ownsMap Tryd.prog 9 (plainElem Tryd.prog 3) M n D ∧ Maps.IsMap D ∧ ∀ x : ByteArray, Maps.has D (.string x.data.toList) = hasB acc x
theorem MapI.keep {w w' : World} {M n : Nat} {acc : List ByteArray} (h : MapI w M n acc) (hb : w'.heap[M]? = w.heap[M]?) : MapI w' M n acc := by
  obtain ⟨D, ⟨es, clock, hb1, r⟩, h2⟩ := h
  exact ⟨D, ⟨es, clock, hb.trans hb1, r⟩, h2⟩
theorem MapI.lt {w : World} {M n : Nat} {acc : List ByteArray} (h : MapI w M n acc) : M < w.heap.size := by
  obtain ⟨D, h1, _⟩ := h; exact h1.lt
theorem map_made (w : World) : MapI (w.alloc (.map #[] 0)) w.heap.size 0 [] := ⟨.map [], World.ownsMap_made _ _ _ _, Maps.isMap_empty, fun x => rfl⟩
theorem put_acc {D : DataW Unit} {acc : List ByteArray} (x : ByteArray) (d : DataW Unit) (hD : Maps.IsMap D) (h : ∀ y : ByteArray, Maps.has D (.string y.data.toList) = hasB acc y) :
    Maps.IsMap (D.put (.string x.data.toList) d) ∧ ∀ y : ByteArray, Maps.has (D.put (.string x.data.toList) d) (.string y.data.toList) = hasB (acc ++ [x]) y := by
  refine ⟨hD.put _ _, fun y => ?_⟩
  rw [hasB_app]
  by_cases e : x = y
  · subst e; rw [Maps.has_put_same hD (show WideAt.IsKeyLit (.string x.data.toList) from trivial)]; simp [hasB, eqB_refl]
  · rw [Maps.has_put_other (fun h => e (data_inj (by injection h with h; exact h.symm))), h]; simp [hasB, eqB_ne e]
theorem wf_nat (n : Nat) (h : n ≤ 100000) : (Lit.int .i64 (n : Int)).wf = true := by refine WalkArith.wf_i64 ?_; omega
theorem WkI.keep {w wr w1 : World} {g n : Nat} {q : Option Addr} (h : WkI w wr g q n) (hb : w1.heap[g]? = wr.heap[g]?) : WkI w w1 g q n := by
  obtain ⟨pm, lf, sp, S, hw, r⟩ := h
  exact ⟨pm, lf, sp, S, by unfold WkAt at hw ⊢; rw [hb]; exact hw, r⟩
theorem WkI.c0 {w wr : World} {g n : Nat} {q : Option Addr} (h : WkI w wr g q n) : wr.cell? ⟨g, 0, none⟩ = some (.pointer q) := by
  obtain ⟨pm, lf, sp, S, hw, r⟩ := h; exact hw.c0
theorem WkI.lt {w wr : World} {g n : Nat} {q : Option Addr} (h : WkI w wr g q n) : g < wr.heap.size := by
  obtain ⟨pm, lf, sp, S, hw, r⟩ := h; exact hw.lt
theorem wk_start {w : World} {q : Option Addr} {c : List Bd} (hc : ChainAt w c q) (hl : c.length ≤ 20) (g : Nat) (wr : World) (h : WkAt wr g q q 1 1) : WkI w wr g q c.length := by
  refine ⟨q, 1, 1, 1, h, by omega, by omega, by omega, by omega, ?_, ?_⟩
  · have : 2 ^ c.length ≤ 2 ^ 20 := Nat.pow_le_pow_right (by decide) hl
    have h2 : ((2 ^ c.length : Nat) : Int) ≤ 1048576 := Int.ofNat_le.2 this
    have h3 : ((2 ^ c.length : Nat) : Int) = (2 : Int) ^ c.length := Int.natCast_pow 2 c.length
    rw [h3] at h2; rw [Int.one_mul]; exact Int.le_trans h2 (by decide)
  · intro b' hb'
    cases c with
    | nil => rw [show q = none from hc] at hb'; cases hb'
    | cons y r =>
      obtain ⟨y, j⟩ := y
      obtain ⟨b2, u2, e2, hb2, hu2, hr2⟩ := hc
      rw [e2] at hb'; injection hb' with hb'; injection hb' with hb'; subst hb'
      exact ⟨b2, e2, Nat.le_refl _, (Array.getElem?_eq_some_iff.1 hb2).1, _, _, hb2⟩
end Go.Proofs.YtclilpabdcdeoaaDoor
