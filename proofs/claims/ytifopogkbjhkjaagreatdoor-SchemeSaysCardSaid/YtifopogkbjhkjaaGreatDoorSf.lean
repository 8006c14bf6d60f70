import Derived.Test.YtifopogkbjhkjaaGreatDoorSd
namespace Go.Proofs.YtifopogkbjhkjaaGreatDoor
open Go.ChangeShapes Go.WideShapes Go.ChangeAt Go.RowKit Go.WideMaps
set_option linter.unusedVariables false
set_option linter.unusedSimpArgs false
theorem args_two {V : TT} (h : headOk V = true) : V.args.length ≤ 2 ∧ (V.k = 7 → V.args = []) := by
  obtain ⟨-, -, -, -, har⟩ := head_var h
  unfold arT at har
  refine ⟨by split at har <;> (try split at har) <;> omega, fun h7 => ?_⟩
  rw [if_neg (by omega), if_neg (by omega)] at har
  exact List.length_eq_zero_iff.1 (by omega)
/-- how many variables may come up. -/
theorem vars_few : ∀ (d : Nat) (V : TT) (l : List Int), bigT (d + 1) V = false → shp V = true → (varsT V l).length ≤ l.length + 2 ^ d
  | d, V, l, hb, hs => by
    obtain ⟨-, -, b3⟩ := bigT_parts hb
    rw [shp_eq, Bool.and_eq_true] at hs
    obtain ⟨a2, a7⟩ := args_two hs.1
    have hall := (shpL_all _).1 hs.2
    have hp : 1 ≤ 2 ^ d := Nat.one_le_two_pow
    rw [varsT_eq]
    by_cases h7 : V.k = 7
    · rw [if_pos h7, a7 h7, varsL]
      have := (addV_len l V.vr).1
      omega
    · rw [if_neg h7]
      match hA : V.args, a2, b3, hall with
      | [], _, _, _ => rw [varsL]; omega
      | [a], _, b3, hall =>
        cases d with
        | zero => have := b3 a (by simp); cases this
        | succ d =>
          rw [varsL, varsL]
          have := vars_few d a l (b3 a (by simp)) (hall a (by simp))
          have : 2 ^ (d + 1) = 2 * 2 ^ d := by rw [Nat.pow_succ]; omega
          omega
      | [a, b], _, b3, hall =>
        cases d with
        | zero => have := b3 a (by simp); cases this
        | succ d =>
          rw [varsL, varsL, varsL]
          have h1 := vars_few d a l (b3 a (by simp)) (hall a (by simp))
          have h2 := vars_few d b (varsT a l) (b3 b (by simp)) (hall b (by simp))
          have : 2 ^ (d + 1) = 2 * 2 ^ d := by rw [Nat.pow_succ]; omega
          omega
      | a :: b :: c :: r, a2, _, _ => simp at a2
theorem let_size (i : Nat) (h : i < 100) : (letT i).size ≤ 3 := by
  unfold letT
  split
  · show 2 ≤ 3; omega
  · rw [ByteArray.size_append]
    show 1 + (Lib.decDigits i).toArray.size ≤ 3
    by_cases h10 : i < 10
    · rw [Lib.decDigits_one h10]; simp
    · rw [Lib.decDigits_two h10 h]; simp
theorem txt_small : ∀ (d : Nat) (V : TT) (l : List Int), bigT d V = false → shp V = true → (varsT V l).length ≤ 99 → (txt V l).size ≤ 100 * 3 ^ d
  | 0, V, l, hb, _, _ => by cases hb
  | d + 1, V, l, hb, hs, hn => by
    obtain ⟨-, hnm, b3⟩ := bigT_parts hb
    rw [shp_eq, Bool.and_eq_true] at hs
    obtain ⟨a2, a7⟩ := args_two hs.1
    obtain ⟨-, -, k0, k7, -⟩ := head_var hs.1
    have hall := (shpL_all _).1 hs.2
    have hp : 1 ≤ 3 ^ d := Nat.one_le_pow _ _ (by omega)
    have hp2 : 3 ^ (d + 1) = 3 * 3 ^ d := by rw [Nat.pow_succ]; omega
    have hL : ∀ (btw : ByteArray), btw.size ≤ 4 → (V.k ≠ 7) → (txtL true btw V.args l).size ≤ 200 * 3 ^ d + 4 := by
      intro btw hbt h7
      rw [varsT_eq, if_neg h7] at hn
      match hA : V.args, a2, b3, hall, hn with
      | [], _, _, _, _ => rw [txtL]; show 0 ≤ _; omega
      | [a], _, b3, hall, hn =>
        rw [varsL, varsL] at hn
        have h1 := txt_small d a l (b3 a (by simp)) (hall a (by simp)) hn
        rw [txtL, txtL, ByteArray.size_append, ByteArray.size_append]
        show (0 + _) + 0 ≤ _
        omega
      | [a, b], _, b3, hall, hn =>
        rw [varsL, varsL, varsL] at hn
        have hg := varsT_ge b (varsT a l)
        have h1 := txt_small d a l (b3 a (by simp)) (hall a (by simp)) (by omega)
        have h2 := txt_small d b (varsT a l) (b3 b (by simp)) (hall b (by simp)) hn
        rw [txtL, txtL, txtL, ByteArray.size_append, ByteArray.size_append, ByteArray.size_append, ByteArray.size_append]
        show (0 + _) + ((btw.size + _) + 0) ≤ _
        omega
      | a :: b :: c :: r, a2, _, _, _ => simp at a2
    rw [txt_eq]
    split
    · show 3 ≤ _; omega
    split
    · show 4 ≤ _; omega
    split
    · show 4 ≤ _; omega
    split
    · omega
    split
    · have := hL ⟨#[32, 45, 62, 32]⟩ (by show 4 ≤ 4; omega) (by omega)
      rw [ByteArray.size_append, ByteArray.size_append]
      show (1 + _) + 1 ≤ _
      omega
    split
    · have := hL ⟨#[]⟩ (by show 0 ≤ 4; omega) (by omega)
      rw [ByteArray.size_append, ByteArray.size_append]
      show (1 + _) + 5 ≤ _
      omega
    · have h7 : V.k = 7 := by omega
      rw [varsT_eq, if_pos h7, a7 h7, varsL] at hn
      have hmemx : V.vr ∈ addV l V.vr := by unfold addV; split <;> simp_all
      have hpl := posV_lt hmemx
      have := let_size (posV (addV l V.vr) V.vr + 1) (by omega)
      omega
end Go.Proofs.YtifopogkbjhkjaaGreatDoor
namespace Go.Proofs.YtifopogkbjhkjaaGreatDoor
open Go.ChangeShapes Go.WideShapes Go.ChangeAt Go.RowKit Go.WideMaps
set_option linter.unusedVariables false
set_option linter.unusedSimpArgs false
set_option maxRecDepth 100000 in
theorem conv_row {w : World} {B n cap : Nat} {A : Option Addr} {x : ByteArray} (own : w.ownsRow B 5 1 (.slice A n cap) n (Lib.strCells x)) : (convert 81 9 (.slice A n cap)).run Tryz.prog w = .ok (.string x) w := by
  have hn : n = x.size := by have := own.1; rw [Lib.strCells_length] at this; omega
  rcases own.2 with ⟨e, h0⟩ | ⟨g, cap', cur, e, h1, h2, h3⟩
  · injection e with e1 e2 e3
    subst e1 e2 e3
    have hx : x = ⟨#[]⟩ := by
      obtain ⟨⟨l⟩⟩ := x
      have : l.length = 0 := hn.symm
      rw [List.length_eq_zero_iff.1 this]
    rw [hx]
    exact run_convert_bytes_nil w 81 5 Tryz.underlying81 Tryz.underlying5 0 0 9 Tryz.underlying9
  · injection e with e1 e2 e3
    subst e1
    obtain ⟨⟨l⟩⟩ := x
    have hl : n = l.length := hn
    subst hl
    exact run_convert_bytes_back w 81 9 5 ⟨g, 0, none⟩ cap l Tryz.underlying81 Tryz.underlying5 Tryz.underlying9 (fun j hj => by
      have := own.cells (g := g) rfl j (.int .u8 (l[j].toNat : Int)) (by simp [Lib.strCells, List.getElem?_eq_getElem hj])
      exact this)
/-- the text of a type. -/
def showT (V : TT) : ByteArray := txt V []
set_option maxRecDepth 100000 in
set_option maxHeartbeats 2000000 in
theorem show_any {V : TT} {v : Value} {w : World} (hbg : bigT 7 V = false) (hsh : shp V = true) (h : TIn w any0 V v) :
    Calls Tryz.prog 23 #[v] w fun e w' => e = .returned (.string (showT V)) ∧ Below w.heap.size w w' := by
  have hvf : (varsT V []).length ≤ 99 := by have := vars_few 6 V [] hbg hsh; simp at this; omega
  have htx : (txt V []).size ≤ 900000 := by have := txt_small 7 V [] hbg hsh hvf; omega
  have hin : TIn w (· < w.heap.size) V v := h.weak (fun b hb _ => hb)
  obtain ⟨A, c, rfl, -⟩ := h
  have CL := Lib.hid (fun W R M (hW : Below w.heap.size w W) (hs : VX w W R M [] ⟨#[]⟩) => write_any 7 V _ 0 w W R M [] ⟨#[]⟩ hbg hsh (by omega) (by omega) hvf (by show 0 + _ ≤ _; omega) (hin.later hW) hs)
  unfold tv at CL ⊢
  have VN := Lib.hid (vst_new w (w.alloc (.cells #[.int .i64 V.k, .string V.nm, .int .i64 V.vr, .slice A V.args.length c] 24)) (below_alloc w _))
  have hsz : (w.alloc (.cells #[.int .i64 V.k, .string V.nm, .int .i64 V.vr, .slice A V.args.length c] 24)).heap.size = w.heap.size + 1 := by simp
  rw [hsz] at VN
  have HB3 := Lib.hid (bt (below_alloc w (.cells #[.int .i64 V.k, .string V.nm, .int .i64 V.vr, .slice A V.args.length c] 24)) (bt (below_alloc _ (.map #[] 0)) (below_alloc _ (.cells #[.map (some (w.heap.size + 1)), .slice none 0 0, .slice none 0 0] 83))))
  have hmm := @run_makeMap Tryz.prog
  have HX := Lib.hid (show (⟨#[]⟩ : ByteArray) ++ txt V [] = showT V by unfold showT; rw [show (⟨#[]⟩ : ByteArray) = ByteArray.empty from rfl, ByteArray.empty_append])
  obtain ⟨T, hT⟩ : ∃ T, T = showT V := ⟨_, rfl⟩
  rw [← hT] at HX ⊢
  clear hbg hsh hin hsz hvf htx hT
  go_enter Tryz.func23, Tryz.ntmps23
  go_wp2_with fail
  refine (CL.out _ _ _ HB3.out VN.out).mono ?_; rintro e w2 ⟨rfl, s2, k2⟩
  have V2 := Lib.hid (show VX w w2 (w.heap.size + 1 + 1) (w.heap.size + 1) (varsT V []) T by rw [← HX.out]; exact s2.out)
  have BB := Lib.hid V2.out.base
  obtain ⟨A2, c2, z2, own2, hB2, -⟩ := vx_open V2.out
  have hcv := conv_row own2
  clear s2 k2 CL VN own2
  go_wp2
  go_ret
  exact ⟨rfl, BB.out⟩
end Go.Proofs.YtifopogkbjhkjaaGreatDoor
