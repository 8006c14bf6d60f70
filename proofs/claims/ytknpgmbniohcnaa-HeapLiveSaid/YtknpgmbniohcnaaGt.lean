import Derived.Test.YtknpgmbniohcnaaPt
namespace Go.Proofs.Ytknpgmbniohcnaa
open Go.ChangeShapes Go.WideShapes Go.ChangeAt Go.RowKit
set_option linter.unusedVariables false
/-- a row of bytes that came in. -/
def InB (w : World) (A : Option Addr) (c : Nat) (l : List Int) : Prop := (A = none → l.length = 0 ∧ c = 0) ∧ ∀ ad, A = some ad → ∃ b off, ad = ⟨b, off, none⟩ ∧ b < w.heap.size ∧ l.length ≤ c ∧ ∀ j (h : j < l.length), w.cell? ⟨b, off + j, none⟩ = some (.int .u8 l[j])
theorem InB.at {w : World} {A : Option Addr} {c : Nat} {l : List Int} (h : InB w A c l) (hn : 0 < l.length) : ∃ b off, A = some ⟨b, off, none⟩ ∧ b < w.heap.size ∧ l.length ≤ c ∧ ∀ j (h : j < l.length), w.cell? ⟨b, off + j, none⟩ = some (.int .u8 l[j]) := by
  cases A with
  | none => have := (h.1 rfl).1; omega
  | some ad =>
    obtain ⟨b, off, rfl, hb, hl, hc⟩ := h.2 ad rfl
    exact ⟨b, off, rfl, hb, hl, hc⟩
theorem InB.below {w w' : World} {A : Option Addr} {c : Nat} {l : List Int} (h : InB w A c l) (hb : Below w.heap.size w w') : InB w' A c l := ⟨h.1, fun ad had => by
  obtain ⟨b, off, rfl, hbl, hl, hc⟩ := h.2 ad had
  exact ⟨b, off, rfl, Nat.lt_of_lt_of_le hbl hb.size, hl, fun j hj => (hb.cell (p := ⟨b, off + j, none⟩) hbl).trans (hc j hj)⟩⟩
def Byte (x : Int) : Prop := 0 ≤ x ∧ x < 256
def dec (l : List Int) : Int := l.foldl (fun n c => n * 256 + c) 0
def decAt (l : List Int) (i : Nat) : Int := dec ((l.drop (i * 8)).take 8)
theorem dec_app (l : List Int) (c : Int) : dec (l ++ [c]) = dec l * 256 + c := by simp [dec]
theorem join8 (x y : Int) (h0 : 0 ≤ x) (h1 : x < 18446744073709551616) (h2 : x % 256 = 0) (h3 : 0 ≤ y) (h4 : y < 256) : bits .or .u64 x y = x + y := by
  rw [u64_or x y h0 h1 h3 (by omega)]
  rw [nat_join 8 x.toNat y.toNat (by omega) (by omega)]
  omega
theorem dec_from : ∀ (l : List Int) (n : Int), 0 ≤ n → (∀ x ∈ l, Byte x) → 0 ≤ l.foldl (fun n c => n * 256 + c) n ∧ l.foldl (fun n c => n * 256 + c) n < (n + 1) * 256 ^ l.length
  | [], n, h, _ => by simp; omega
  | x :: t, n, h, hb => by
    have hx : Byte x := hb x (by simp)
    unfold Byte at hx
    have ih := dec_from t (n * 256 + x) (by omega) (fun y hy => hb y (by simp [hy]))
    refine ⟨ih.1, Int.lt_of_lt_of_le ih.2 ?_⟩
    rw [List.length_cons, Int.pow_succ]
    have hp : (0 : Int) ≤ 256 ^ t.length := Int.pow_nonneg (by decide)
    have h2 : (n * 256 + x + 1) * 256 ^ t.length ≤ ((n + 1) * 256) * 256 ^ t.length := Int.mul_le_mul_of_nonneg_right (by omega) hp
    rw [Int.mul_assoc] at h2
    rwa [Int.mul_comm (256 ^ t.length) 256]
theorem dec_range (l : List Int) (h : ∀ x ∈ l, Byte x) : 0 ≤ dec l ∧ dec l < 256 ^ l.length := by
  have := dec_from l 0 (by decide) h
  rwa [Int.zero_add, Int.one_mul] at this
set_option maxRecDepth 100000 in
set_option maxHeartbeats 4000000 in
theorem bget_any {w : World} {A : Option Addr} {c : Nat} {l : List Int} (h : InB w A c l) (hb : ∀ x ∈ l, Byte x) (i : Nat) (hi : (i + 1) * 8 ≤ l.length) (hl : l.length ≤ 10000000) :
    Calls Try.prog 40 #[.slice A l.length c, .int .i64 i] w fun e w' => e = .returned (.int .u64 (decAt l i)) ∧ w = w' := by
  obtain ⟨b, off, rfl, hbl, hlc, hc⟩ := h.at (by omega)
  have HB := Lib.hid hb
  have HC := Lib.hid hc
  obtain ⟨n, hn⟩ : ∃ n, n = l.length := ⟨_, rfl⟩
  rw [← hn] at hi hlc hl ⊢
  have HN := Lib.hid hn
  clear h hb hc hn
  have e1 : IntKind.i64.wrap ((i : Int) * 8) = (i : Int) * 8 := IntWalk.i64_in _ (by omega)
  have e2 : IntKind.i64.wrap ((i : Int) + 1) = (i : Int) + 1 := IntWalk.i64_in _ (by omega)
  have e3 : IntKind.i64.wrap (((i : Int) + 1) * 8) = ((i : Int) + 1) * 8 := IntWalk.i64_in _ (by omega)
  go_enter Try.func40, Try.ntmps40
  go_wp2_with fail
  have e8 : (i + 1) * 8 - i * 8 = 8 := by omega
  rw [e8]
  go_loop [5, 16] (fun v j => ∃ k : Nat, k ≤ 8 ∧ j = .int .i64 k ∧ v = .int .u64 (dec ((l.drop (i * 8)).take k))) (fun _ j => 8 - (intOf j).toNat)
  case atStart => exact ⟨0, by omega, rfl, rfl⟩
  case round =>
    obtain ⟨k, hk, rfl, rfl⟩ := hrel
    by_cases hk8 : k < 8
    · have hk8i : (k : Int) < 8 := by omega
      have hlen : i * 8 + k < l.length := by have := HN.out; omega
      have hcell := HC.out (i * 8 + k) hlen
      have hld : k < (l.drop (i * 8)).length := by rw [List.length_drop]; omega
      have hda : (l.drop (i * 8))[k]'hld = l[i * 8 + k] := by simp
      obtain ⟨x, hx⟩ : ∃ x, x = l[i * 8 + k] := ⟨_, rfl⟩
      have hbx : Byte x := hx ▸ HB.out _ (List.getElem_mem hlen)
      rw [← hx] at hcell hda
      have htk : dec ((l.drop (i * 8)).take (k + 1)) = dec ((l.drop (i * 8)).take k) * 256 + x := by
        rw [List.take_succ_eq_append_getElem hld, dec_app, hda]
      obtain ⟨d, hd⟩ : ∃ d, d = dec ((l.drop (i * 8)).take k) := ⟨_, rfl⟩
      have hdr := dec_range ((l.drop (i * 8)).take k) (fun y hy => HB.out y (List.mem_of_mem_drop (List.mem_of_mem_take hy)))
      rw [List.length_take_of_le (by omega), ← hd] at hdr
      have hd2 : d < 72057594037927936 := by
        have h7 : (256 : Nat) ^ k ≤ 256 ^ 7 := Nat.pow_le_pow_right (by decide) (by omega)
        have e : ((256 ^ k : Nat) : Int) = (256 : Int) ^ k := by push_cast; rfl
        have e2 : (256 : Nat) ^ 7 = 72057594037927936 := by decide
        omega
      have hd0 := hdr.1
      rw [← hd] at htk ⊢
      have HT := Lib.hid htk
      obtain ⟨hx0, hx1⟩ := hbx
      have hor : bits .or .u64 (d * 256) x = d * 256 + x := join8 _ _ (by omega) (by omega) (by omega) hx0 hx1
      have hcell2 : w.cell? ⟨b, off + i * 8 + k, none⟩ = some (.int .u8 x) := by rw [Nat.add_assoc]; exact hcell
      clear htk hdr hd hda hx hcell
      go_wp2
      go_round
      case rel => exact ⟨k + 1, by omega, by go_num, by rw [HT.out]⟩
      case measure => simp [intOf]; omega
    · obtain rfl : k = 8 := by omega
      go_wp2
      go_ret
      exact ⟨rfl, rfl⟩
theorem dec_put8 {x : Int} (h : U64 x) : dec (put8 x) = x := by
  obtain ⟨h0, h1⟩ := h
  simp only [dec, put8, List.foldl_cons, List.foldl_nil]
  omega
theorem put8_byte {x : Int} (h : U64 x) : ∀ y ∈ put8 x, Byte y := by
  obtain ⟨h0, h1⟩ := h
  intro y hy
  simp only [put8, List.mem_cons, List.not_mem_nil, or_false] at hy
  unfold Byte
  omega
end Go.Proofs.Ytknpgmbniohcnaa
