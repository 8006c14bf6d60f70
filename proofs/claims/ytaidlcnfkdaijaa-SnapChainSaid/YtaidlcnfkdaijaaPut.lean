import Derived.Test.YtaidlcnfkdaijaaPieces
namespace Go.Proofs.Ytaidlcnfkdaijaa
open Go.ChangeShapes Go.WideShapes Go.ChangeAt Go.RowKit
set_option linter.unusedVariables false
def putF : Nat → Nat → List Nat
  | 0, u => [u]
  | f + 1, u => if u < 128 then [u] else (u % 128 + 128) :: putF f (u / 128)
theorem putF_small (f u : Nat) (h : u < 128) : putF f u = [u] := by cases f <;> simp [putF, h]
theorem or_128 (n : Nat) : bits .or .u8 ((n : Int) % 256) 128 = (n : Int) % 128 + 128 := by
  have all : ∀ k : Fin 256, bits .or .u8 ((k.val : Nat) : Int) 128 = ((k.val % 128 + 128 : Nat) : Int) := by decide +kernel
  have := all ⟨n % 256, by omega⟩
  rw [show (n : Int) % 256 = ((n % 256 : Nat) : Int) from by omega, this]
  simp only
  omega
theorem bys_sing (n : Nat) : bys [n] = [.int .u8 (n : Int)] := rfl
set_option maxRecDepth 100000 in
set_option maxHeartbeats 1000000 in
theorem put_any {w : World} {base : Nat} {v : Value} {n : Nat} {xs : List Nat} (u : Nat) (own : w.ownsRow base 5 1 v n (bys xs)) (hbase : base ≤ w.heap.size) (hu : u < 18446744073709551616) (hn : n ≤ 1000000) :
    Calls Try.prog 21 #[v, .int .u64 u] w fun e w' => ∃ v' n', e = .returned v' ∧ w'.ownsRow base 5 1 v' n' (bys (xs ++ putF 9 u)) ∧ Gr w w' v v' ∧ n' ≤ n + 10 := by
  obtain ⟨i0, hi0, hz0, hz1, hz2⟩ := info_parts info5
  have OWN := Lib.hid own; clear own
  have HU := Lib.hid hu; clear hu
  obtain ⟨zs, hzs⟩ : ∃ zs, zs = xs ++ putF 9 u := ⟨_, rfl⟩
  rw [← hzs]
  have HZS := Lib.hid hzs; clear hzs
  go_enter Try.func21, Try.ntmps21
  go_wp2
  go_loopw [0, 1] (fun b x wr => ∃ (f m k : Nat) (ys : List Nat), x = .int .u64 m ∧ m < 2 ^ (7 * f + 1) ∧ Hid (m < 18446744073709551616) ∧ Hid (wr.ownsRow base 5 1 b k (bys ys)) ∧ Hid (Gr w wr v b) ∧ Hid (zs = ys ++ putF f m) ∧ k + f ≤ n + 9) (fun _ x _ => (intOf x).toNat)
  case atStart => exact ⟨9, u, n, xs, rfl, by have := HU.out; omega, HU, OWN, Lib.hid (Gr.refl _ _), HZS, by omega⟩
  case round =>
    obtain ⟨f, m, k, ys, rfl, hm, hm2, own, hb, he, hk⟩ := hrel
    have hsz := hb.out.g.size
    by_cases h128 : 128 ≤ m
    · obtain ⟨f, rfl⟩ : ∃ g, f = g + 1 := by
        cases f with
        | zero => simp at hm; omega
        | succ g => exact ⟨g, rfl⟩
      have hm3 : m / 128 < 2 ^ (7 * f + 1) := by
        rw [show 7 * (f + 1) + 1 = 7 * f + 1 + 7 from by omega, Nat.pow_add] at hm
        omega
      have E : Hid (zs = (ys ++ [m % 128 + 128]) ++ putF f (m / 128)) := Lib.hid (by rw [he.out]; simp only [putF]; rw [if_neg (by omega)]; simp)
      have ho := or_128 m
      have HM3 := Lib.hid hm3
      clear hm hm3
      go_wp2_with (at_builtin; refine wpList_append_own_at _ rfl (.tmp 7) (.tmp 11) 22 rfl base 5 i0 (.int .u8 0) 1 1 Try.underlying22 hi0 hz0 hz1 hz2 rfl (by decide) _ k (bys ys) rfl (own.out.alloc _) ⟨wr.heap.size, 0, none⟩ 1 1 [.int .u8 ((m : Int) % 128 + 128)] rfl rfl ?c1 ?c2 (by unfold maxLen; omega) (by omega) (by simp; omega) ?_)
      case c1 =>
        intro j u hj
        match j, hj with
        | 0, hj => simp at hj; subst hj; exact new_cell wr _ 5
      case c2 => intro u hu; simp at hu; subst hu; rfl
      intro v2 w2 own2 gr2 _ at2
      have hb2 : Gr w w2 v v2 := hb.out.trans (Gr.append gr2 at2)
      have OWN2 : Hid (w2.ownsRow base 5 1 v2 (k + 1) (bys (ys ++ [m % 128 + 128]))) := Lib.hid (by rw [bys_app, bys_sing, show (((m % 128 + 128 : Nat)) : Int) = (m : Int) % 128 + 128 by omega]; exact own2)
      have HB2 := Lib.hid hb2
      clear own2 gr2 hb2 ho at2
      go_wp2
      go_roundw
      case rel => exact ⟨f, m / 128, k + 1, _, by go_num, HM3.out, Lib.hid (by have := hm2.out; omega), OWN2, HB2, E, by omega⟩
      case measure => simp [intOf]; omega
    · have E : Hid (zs = ys ++ [m]) := Lib.hid (by rw [he.out, putF_small f m (by omega)])
      have hlt : m < 128 := by omega
      have hm256 : (m : Int) % 256 = m := by omega
      have HLT := Lib.hid hlt
      clear hm h128
      go_wp2_with (at_builtin; refine wpList_append_own_at _ rfl (.tmp 15) (.tmp 18) 22 rfl base 5 i0 (.int .u8 0) 1 1 Try.underlying22 hi0 hz0 hz1 hz2 rfl (by decide) _ k (bys ys) rfl (own.out.alloc _) ⟨wr.heap.size, 0, none⟩ 1 1 [.int .u8 (m : Int)] rfl rfl ?c1 ?c2 (by unfold maxLen; omega) (by omega) (by simp; omega) ?_)
      case c1 =>
        intro j u hj
        match j, hj with
        | 0, hj => simp at hj; subst hj; exact new_cell wr _ 5
      case c2 => intro u hu; simp at hu; subst hu; rfl
      intro v2 w2 own2 gr2 _ at2
      have hb2 : Gr w w2 v v2 := hb.out.trans (Gr.append gr2 at2)
      have OWN2 : Hid (w2.ownsRow base 5 1 v2 (k + 1) (bys zs)) := Lib.hid (by rw [E.out, bys_app, bys_sing]; exact own2)
      have HB2 := Lib.hid hb2
      clear own2 gr2 hb2 at2
      go_wp2
      go_ret
      exact ⟨_, _, rfl, OWN2.out, HB2.out, by omega⟩
theorem and_127 (c : Nat) (hc : c < 256) : bits .and .u8 ((c : Nat) : Int) 127 = ((c % 128 : Nat) : Int) := by
  have all : ∀ k : Fin 256, bits .and .u8 ((k.val : Nat) : Int) 127 = ((k.val % 128 : Nat) : Int) := by decide +kernel
  exact all ⟨c, hc⟩
theorem or_add (A x k : Nat) (hA : A < 2 ^ k) (hx : A + x * 2 ^ k < 18446744073709551616) : bits .or .u64 (A : Int) (IntKind.u64.wrap (IntKind.u64.wrap (x : Int) * 2 ^ k)) = ((A + x * 2 ^ k : Nat) : Int) := by
  have h1 : x * 2 ^ k < 18446744073709551616 := by omega
  have hp : 1 ≤ 2 ^ k := Nat.one_le_two_pow
  have h2 : x < 18446744073709551616 := Nat.lt_of_le_of_lt (Nat.le_mul_of_pos_right x hp) h1
  have e1 : IntKind.u64.wrap (x : Int) = x := by simp only [IntKind.wrap_u64]; omega
  have e2 : (x : Int) * 2 ^ k = ((x * 2 ^ k : Nat) : Int) := by push_cast; rfl
  have e3 : IntKind.u64.wrap ((x * 2 ^ k : Nat) : Int) = ((x * 2 ^ k : Nat) : Int) := by simp only [IntKind.wrap_u64]; omega
  rw [e1, e2, e3, u64_or _ _ (by omega) (by omega) (by omega) (by omega)]
  rw [Int.toNat_natCast, Int.toNat_natCast, Nat.or_comm, Nat.mul_comm, ← Nat.two_pow_add_eq_or_of_lt hA]
  omega
theorem putF_len (f : Nat) : ∀ u, 1 ≤ (putF f u).length ∧ (putF f u).length ≤ f + 1 := by
  induction f with
  | zero => intro u; exact ⟨Nat.le_refl _, Nat.le_refl _⟩
  | succ f ih =>
    intro u
    simp only [putF]
    split
    · exact ⟨by simp, by simp⟩
    · have := ih (u / 128)
      simp only [List.length_cons]; omega
theorem putF_byte (f : Nat) : ∀ u, u < 2 ^ (7 * f + 1) → ∀ x ∈ putF f u, x < 256 := by
  induction f with
  | zero => intro u hu x hx; simp [putF] at hx; simp at hu; omega
  | succ f ih =>
    intro u hu x hx
    simp only [putF] at hx
    split at hx
    · simp at hx; omega
    · simp only [List.mem_cons] at hx
      rcases hx with rfl | hx
      · omega
      · refine ih (u / 128) ?_ x hx
        rw [show 7 * (f + 1) + 1 = 7 * f + 1 + 7 from by omega, Nat.pow_add] at hu
        omega
theorem accG_succ (bs : List Nat) (k A x : Nat) (hacc : accG bs k = A) (hb : bs.getD k 0 < 256) (hx : bs.getD k 0 % 128 = x) (hA : A < 2 ^ (7 * k)) (hs : A + x * 2 ^ (7 * k) < 18446744073709551616) : accG bs (k + 1) = ((A + x * 2 ^ (7 * k) : Nat) : Int) := by
  show bits .or .u64 (accG bs k) (IntKind.u64.wrap (IntKind.u64.wrap (bits .and .u8 (bs.getD k 0 : Nat) 127) * 2 ^ (7 * k))) = _
  rw [hacc, and_127 _ hb, hx]
  exact or_add A x (7 * k) hA hs
theorem drop_cons (bs : List Nat) (p : Nat) (h : p < bs.length) : bs.drop p = bs.getD p 0 :: bs.drop (p + 1) := by
  rw [List.drop_eq_getElem_cons h]; simp [List.getD, h]
theorem getD_drop (bs : List Nat) (k x : Nat) (t : List Nat) (h : bs.drop k = x :: t) : k < bs.length ∧ bs.getD k 0 = x ∧ bs.drop (k + 1) = t := by
  have hk : k < bs.length := by
    rcases Nat.lt_or_ge k bs.length with h1 | h1
    · exact h1
    · rw [List.drop_eq_nil_of_le h1] at h; cases h
  have := drop_cons bs k hk
  rw [h] at this
  injection this with e1 e2
  exact ⟨hk, e1.symm, e2.symm⟩
theorem resG_put (rest bs : List Nat) : ∀ (f k m A fuel : Nat), f + k = 9 → m < 2 ^ (7 * f + 1) → bs.drop k = putF f m ++ rest → accG bs k = A → A < 2 ^ (7 * k) → A + m * 2 ^ (7 * k) < 18446744073709551616 → (k = 0 ∨ 0 < m) → (putF f m).length ≤ fuel →
    resG bs fuel k = (((A + m * 2 ^ (7 * k) : Nat) : Int), ((k + (putF f m).length : Nat) : Int)) := by
  intro f
  induction f with
  | zero =>
    intro k m A fuel hfk hm hd hacc hA hs hz hfu
    obtain rfl : k = 9 := by omega
    have hm2 : m < 2 := by simpa using hm
    simp only [putF, List.cons_append, List.nil_append] at hd
    obtain ⟨h1, h2, h3⟩ := getD_drop bs 9 m rest hd
    obtain ⟨fu, rfl⟩ : ∃ fu, fuel = fu + 1 := ⟨fuel - 1, by simp only [putF, List.length_singleton] at hfu; omega⟩
    simp only [resG]
    rw [if_pos h1, h2, if_neg (by omega), if_pos (by omega), if_neg (by omega)]
    rw [accG_succ bs 9 A m hacc (by omega) (by rw [h2]; omega) hA hs]
    simp [putF]
  | succ f ih =>
    intro k m A fuel hfk hm hd hacc hA hs hz hfu
    obtain ⟨fu, rfl⟩ : ∃ fu, fuel = fu + 1 := ⟨fuel - 1, by have := (putF_len (f + 1) m).1; omega⟩
    by_cases h128 : m < 128
    · have hp : putF (f + 1) m = [m] := putF_small _ _ h128
      rw [hp] at hd ⊢
      simp only [List.cons_append, List.nil_append] at hd
      obtain ⟨h1, h2, h3⟩ := getD_drop bs k m rest hd
      simp only [resG]
      rw [if_pos h1, h2, if_neg (by omega), if_pos h128, if_neg (by omega)]
      rw [accG_succ bs k A m hacc (by omega) (by rw [h2]; omega) hA hs]
      simp
    · have hp : putF (f + 1) m = (m % 128 + 128) :: putF f (m / 128) := by simp only [putF]; rw [if_neg h128]
      rw [hp] at hd hfu ⊢
      simp only [List.cons_append] at hd
      obtain ⟨h1, h2, h3⟩ := getD_drop bs k _ _ hd
      have hpow : (2 : Nat) ^ (7 * (k + 1)) = 2 ^ (7 * k) * 128 := by rw [show 7 * (k + 1) = 7 * k + 7 by omega, Nat.pow_add]
      have hsplit : A + m % 128 * 2 ^ (7 * k) + m / 128 * 2 ^ (7 * (k + 1)) = A + m * 2 ^ (7 * k) := by
        rw [hpow]
        have e : m = m % 128 + m / 128 * 128 := by omega
        have : m * 2 ^ (7 * k) = m % 128 * 2 ^ (7 * k) + m / 128 * 128 * 2 ^ (7 * k) := by rw [← Nat.add_mul, ← e]
        rw [this, Nat.mul_assoc (m / 128) 128, Nat.mul_comm 128, ← Nat.add_assoc]
      have hA2 : A + m % 128 * 2 ^ (7 * k) < 2 ^ (7 * (k + 1)) := by
        rw [hpow]
        have h7 : m % 128 + 1 ≤ 128 := by omega
        have := Nat.mul_le_mul_right (2 ^ (7 * k)) h7
        rw [Nat.add_mul, Nat.one_mul, Nat.mul_comm 128] at this
        omega
      have hacc2 := accG_succ bs k A (m % 128) hacc (by rw [h2]; omega) (by rw [h2]; omega) hA (by omega)
      have hm2 : m / 128 < 2 ^ (7 * f + 1) := by
        rw [show 7 * (f + 1) + 1 = 7 * f + 1 + 7 from by omega, Nat.pow_add] at hm
        omega
      have := ih (k + 1) (m / 128) (A + m % 128 * 2 ^ (7 * k)) fu (by omega) hm2 h3 hacc2 hA2 (by rw [hsplit]; exact hs) (.inr (by omega)) (by simp only [List.length_cons] at hfu; omega)
      simp only [resG]
      rw [if_pos h1, h2, if_neg (by omega), if_neg (by omega), this, hsplit]
      simp only [List.length_cons]
      rw [show k + 1 + (putF f (m / 128)).length = k + ((putF f (m / 128)).length + 1) by omega]
theorem resG_putF (u : Nat) (rest : List Nat) (hu : u < 18446744073709551616) : resG (putF 9 u ++ rest) ((putF 9 u ++ rest).length + 1) 0 = ((u : Int), (((putF 9 u).length : Nat) : Int)) := by
  have := resG_put rest (putF 9 u ++ rest) 9 0 u 0 ((putF 9 u ++ rest).length + 1) rfl (by omega) rfl rfl (by simp) (by simpa using hu) (.inl rfl) (by rw [List.length_append]; omega)
  simpa using this
end Go.Proofs.Ytaidlcnfkdaijaa
