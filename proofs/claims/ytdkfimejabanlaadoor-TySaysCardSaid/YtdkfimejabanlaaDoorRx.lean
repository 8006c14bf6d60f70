import Derived.Test.YtdkfimejabanlaaDoorRw
import Derived.Test.YtdkfimejabanlaaDoorSe
import Derived.Test.YtdkfimejabanlaaDoorIn
namespace Go.Proofs.YtdkfimejabanlaaDoor
open DR
open Go.ChangeShapes Go.WideShapes Go.ChangeAt Go.RowKit Go.WideMaps
set_option linter.unusedVariables false
set_option linter.unusedSimpArgs false
def comb5 : List ByteArray → ByteArray
  | [x, y] => (((⟨#[40]⟩ ++ x) ++ ⟨#[32, 45, 62, 32]⟩) ++ y) ++ ⟨#[41]⟩
  | _ => ⟨#[]⟩
def comb6 : List ByteArray → ByteArray
  | [x] => (⟨#[40]⟩ ++ x) ++ ⟨#[32, 114, 101, 102, 41]⟩
  | _ => ⟨#[]⟩
mutual
/-- the text of a type, where the variables stand in L. -/
def rtxt (L : List Int) : TT → ByteArray
  | .mk k nm vr args => if k = 1 then ⟨#[105, 110, 116]⟩ else if k = 2 then ⟨#[98, 111, 111, 108]⟩ else if k = 3 then ⟨#[117, 110, 105, 116]⟩ else if k = 4 then nm
    else if k = 5 then comb5 (rtxtL L args) else if k = 6 then comb6 (rtxtL L args) else letT (posV L vr + 1)
def rtxtL (L : List Int) : List TT → List ByteArray
  | [] => []
  | a :: r => rtxt L a :: rtxtL L r
end
theorem rtxt_eq (L : List Int) (V : TT) : rtxt L V = if V.k = 1 then ⟨#[105, 110, 116]⟩ else if V.k = 2 then ⟨#[98, 111, 111, 108]⟩ else if V.k = 3 then ⟨#[117, 110, 105, 116]⟩ else if V.k = 4 then V.nm
    else if V.k = 5 then comb5 (rtxtL L V.args) else if V.k = 6 then comb6 (rtxtL L V.args) else letT (posV L V.vr + 1) := by cases V; rw [rtxt]; rfl
mutual
theorem varsT_pre : ∀ (V : TT) (l : List Int), ∃ m, varsT V l = l ++ m
  | .mk k nm vr args, l => by
    rw [varsT_eq]
    obtain ⟨m, hm⟩ := varsL_pre args (if k = 7 then addV l vr else l)
    have hm : varsL args (if k = 7 then addV l vr else l) = _ ++ m := hm
    show ∃ m, varsL args (if k = 7 then addV l vr else l) = l ++ m
    rw [hm]
    split
    · unfold addV
      split
      · exact ⟨m, rfl⟩
      · exact ⟨[vr] ++ m, by rw [List.append_assoc]⟩
    · exact ⟨m, rfl⟩
theorem varsL_pre : ∀ (args : List TT) (l : List Int), ∃ m, varsL args l = l ++ m
  | [], l => ⟨[], by rw [varsL, List.append_nil]⟩
  | a :: r, l => by
    obtain ⟨m1, h1⟩ := varsT_pre a l
    obtain ⟨m2, h2⟩ := varsL_pre r (varsT a l)
    exact ⟨m1 ++ m2, by rw [varsL, h2, h1, List.append_assoc]⟩
end
theorem argsTwo {V : TT} (h : shp V = true) (h5 : V.k = 5) : ∃ a b, V.args = [a, b] := by
  obtain ⟨hl, -, -⟩ := head_len h
  have hl2 : V.args.length = 2 := by
    have : arT V.k = 2 := by unfold arT; rw [if_pos h5]
    omega
  match ha : V.args, hl2 with
  | [a, b], _ => exact ⟨a, b, rfl⟩
theorem argsOne {V : TT} (h : shp V = true) (h6 : V.k = 6) : ∃ a, V.args = [a] := by
  obtain ⟨hl, -, -⟩ := head_len h
  have hl2 : V.args.length = 1 := by
    have : arT V.k = 1 := by unfold arT; rw [if_neg (by omega), if_pos h6]
    omega
  match ha : V.args, hl2 with
  | [a], _ => exact ⟨a, rfl⟩
theorem rtxt_txt : ∀ (n : Nat) (V : TT) (l L : List Int), nodes V ≤ n → shp V = true → (∃ m, L = varsT V l ++ m) → rtxt L V = txt V l := by
  intro n
  induction n with
  | zero => intro V l L hn; have := nodes_eq V; omega
  | succ n ih =>
    intro V l L hn h hL
    rw [rtxt_eq, txt_eq]
    obtain ⟨hl, h1, h7⟩ := head_len h
    have hs := h
    rw [shp_eq, Bool.and_eq_true] at hs
    by_cases h5 : V.k = 5
    · obtain ⟨a, b, ha⟩ := argsTwo h h5
      rw [ha] at hs
      have hsa : shp a = true ∧ shp b = true := by have := hs.2; rw [shpL, shpL, Bool.and_eq_true, Bool.and_eq_true] at this; exact ⟨this.1, this.2.1⟩
      have hnn : nodes a ≤ n ∧ nodes b ≤ n := by have := nodes_eq V; rw [ha, nodesL, nodesL, nodesL] at this; omega
      obtain ⟨m, hm⟩ := hL
      rw [varsT_eq, if_neg (by omega), ha, varsL, varsL, varsL] at hm
      obtain ⟨m2, hm2⟩ := varsT_pre b (varsT a l)
      have e1 := ih a l L hnn.1 hsa.1 ⟨m2 ++ m, by rw [hm, hm2, List.append_assoc]⟩
      have e2 := ih b (varsT a l) L hnn.2 hsa.2 ⟨m, hm⟩
      rw [h5, ha]
      show comb5 [rtxt L a, rtxt L b] = _
      rw [e1, e2]
      simp only [comb5, txtL]
      apply ByteArray.ext
      simp [ByteArray.data_append]
    by_cases h6 : V.k = 6
    · obtain ⟨a, ha⟩ := argsOne h h6
      rw [ha] at hs
      have hsa : shp a = true := by have := hs.2; rw [shpL, Bool.and_eq_true] at this; exact this.1
      have hnn : nodes a ≤ n := by have := nodes_eq V; rw [ha, nodesL, nodesL] at this; omega
      obtain ⟨m, hm⟩ := hL
      rw [varsT_eq, if_neg (by omega), ha, varsL, varsL] at hm
      have e1 := ih a l L hnn hsa ⟨m, hm⟩
      rw [h6, ha]
      show comb6 [rtxt L a] = _
      rw [e1]
      simp only [comb6, txtL]
      apply ByteArray.ext
      simp [ByteArray.data_append]
    by_cases h77 : V.k = 7
    · obtain ⟨ha, -⟩ := shp_var h h77
      obtain ⟨m, hm⟩ := hL
      rw [varsT_eq, if_pos h77, ha, varsL] at hm
      rw [h77]
      show letT (posV L V.vr + 1) = letT (posV (addV l V.vr) V.vr + 1)
      rw [hm, posV_app m addV_mem]
    rcases (show V.k = 1 ∨ V.k = 2 ∨ V.k = 3 ∨ V.k = 4 by omega) with hk | hk | hk | hk <;> rw [hk] <;> rfl
theorem rtxt_show {V : TT} (h : shp V = true) : rtxt (varsOf V) V = showT V := rtxt_txt _ V [] _ (Nat.le_refl _) h ⟨[], by rw [List.append_nil]; rfl⟩
theorem rtxt_size {L : List Int} (hL : L.length ≤ 99) : ∀ (d : Nat) (V : TT) (l : List Int), bigT d V = false → shp V = true → (∀ x ∈ varsT V l, x ∈ L) → (rtxt L V).size ≤ 100 * 3 ^ d := by
  intro d
  induction d with
  | zero => intro V l h; cases h
  | succ d ih =>
    intro V l hbg h hin
    obtain ⟨hl4, hl60, b3⟩ := bigT_parts hbg
    have hp : 1 ≤ 3 ^ d := Nat.one_le_pow _ _ (by omega)
    have hp2 : 3 ^ (d + 1) = 3 * 3 ^ d := by rw [Nat.pow_succ, Nat.mul_comm]
    rw [rtxt_eq]
    obtain ⟨hl, h1, h7⟩ := head_len h
    have hs := h
    rw [shp_eq, Bool.and_eq_true] at hs
    by_cases h5 : V.k = 5
    · obtain ⟨a, b, ha⟩ := argsTwo h h5
      rw [ha] at hs b3
      have hsa : shp a = true ∧ shp b = true := by have := hs.2; rw [shpL, shpL, Bool.and_eq_true, Bool.and_eq_true] at this; exact ⟨this.1, this.2.1⟩
      rw [varsT_eq, if_neg (by omega), ha, varsL, varsL, varsL] at hin
      have e1 := ih a l (b3 a (by simp)) hsa.1 (fun x hx => hin x (varsT_sub b _ x hx))
      have e2 := ih b (varsT a l) (b3 b (by simp)) hsa.2 hin
      rw [h5, ha]
      show (comb5 [rtxt L a, rtxt L b]).size ≤ _
      simp only [comb5, ByteArray.size_append]
      show 1 + (rtxt L a).size + 4 + (rtxt L b).size + 1 ≤ _
      omega
    by_cases h6 : V.k = 6
    · obtain ⟨a, ha⟩ := argsOne h h6
      rw [ha] at hs b3
      have hsa : shp a = true := by have := hs.2; rw [shpL, Bool.and_eq_true] at this; exact this.1
      rw [varsT_eq, if_neg (by omega), ha, varsL, varsL] at hin
      have e1 := ih a l (b3 a (by simp)) hsa hin
      rw [h6, ha]
      show (comb6 [rtxt L a]).size ≤ _
      simp only [comb6, ByteArray.size_append]
      show 1 + (rtxt L a).size + 5 ≤ _
      omega
    by_cases h77 : V.k = 7
    · obtain ⟨ha, -⟩ := shp_var h h77
      rw [varsT_eq, if_pos h77, ha, varsL] at hin
      have := posV_lt (hin V.vr addV_mem)
      have h9 := let_size (posV L V.vr + 1) (by omega)
      rw [h77]
      show (letT (posV L V.vr + 1)).size ≤ _
      omega
    rcases (show V.k = 1 ∨ V.k = 2 ∨ V.k = 3 ∨ V.k = 4 by omega) with hk | hk | hk | hk <;> rw [hk]
    · show 3 ≤ _; omega
    · show 4 ≤ _; omega
    · show 4 ≤ _; omega
    · show V.nm.size ≤ _; omega
end Go.Proofs.YtdkfimejabanlaaDoor
