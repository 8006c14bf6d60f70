import Derived.Test.YtaidlcnfkdaijaaBase
namespace Go.Proofs.Ytaidlcnfkdaijaa
open Go.ChangeShapes Go.WideShapes Go.ChangeAt Go.RowKit
set_option linter.unusedVariables false
set_option maxRecDepth 100000 in
theorem sum_any {w : World} {h o cap : Nat} {xs : List Nat} (hb : ∀ j, j < xs.length → w.cell? ⟨h, o + j, none⟩ = some (.int .u8 (xs.getD j 0 : Nat))) (hl : xs.length ≤ 1000000) :
    Calls Try.prog 11 #[.slice (some ⟨h, o, none⟩) xs.length cap] w fun e w' => e = .returned (.int .u64 (sumG xs xs.length)) ∧ w = w' := by
  have CX := Lib.hid hb; clear hb
  obtain ⟨r, hr⟩ : ∃ r, r = sumG xs xs.length := ⟨_, rfl⟩
  rw [← hr]
  have HR := Lib.hid hr; clear hr
  go_enter Try.func11, Try.ntmps11
  go_wp2
  go_loop [3, 8] (fun s i => ∃ k : Nat, k ≤ xs.length ∧ i = .int .i64 k ∧ ∃ z, Hid (z = sumG xs k) ∧ s = .int .u64 z) (fun _ i => xs.length - (intOf i).toNat)
  case atStart => exact ⟨0, by omega, rfl, _, Lib.hid rfl, rfl⟩
  case round =>
    obtain ⟨k, hk, rfl, z, hz, rfl⟩ := hrel
    by_cases hlt : k < xs.length
    · have cx := CX.out k hlt
      obtain ⟨c, hc⟩ : ∃ c, c = xs.getD k 0 := ⟨_, rfl⟩
      rw [← hc] at cx
      have HN : Hid (sumG xs (k + 1) = IntKind.u64.wrap (bits .xor .u64 z (IntKind.u64.wrap (c : Nat)) * 1099511628211)) := Lib.hid (by rw [hz.out, hc]; rfl)
      have HC := Lib.hid hc; clear hc
      go_wp2
      go_round
      case rel => exact ⟨k + 1, by omega, by go_num, _, Lib.hid (by rw [HN.out]), rfl⟩
      case measure => simp [intOf]; omega
    · obtain rfl : k = xs.length := by omega
      clear hlt
      go_wp2
      go_ret
      rw [HR.out, ← hz.out]
      exact ⟨rfl, rfl⟩
set_option maxRecDepth 100000 in
theorem rsum_any {w : World} {h o cap : Nat} {xs : List Nat} (hb : ∀ j, j < xs.length → w.cell? ⟨h, o + j, none⟩ = some (.int .u8 (xs.getD j 0 : Nat))) (hl : xs.length ≤ 1000000) :
    Calls Try.prog 12 #[.slice (some ⟨h, o, none⟩) xs.length cap] w fun e w' => e = .returned (.int .u64 (sumG xs xs.length)) ∧ w = w' := by
  have CX := Lib.hid hb; clear hb
  obtain ⟨r, hr⟩ : ∃ r, r = sumG xs xs.length := ⟨_, rfl⟩
  rw [← hr]
  have HR := Lib.hid hr; clear hr
  go_enter Try.func12, Try.ntmps12
  go_wp2
  go_loop [3, 4] (fun s i => ∃ k : Nat, k ≤ xs.length ∧ i = .int .i64 k ∧ ∃ z, Hid (z = sumG xs k) ∧ s = .int .u64 z) (fun _ i => xs.length - (intOf i).toNat)
  case atStart => exact ⟨0, by omega, rfl, _, Lib.hid rfl, rfl⟩
  case round =>
    obtain ⟨k, hk, rfl, z, hz, rfl⟩ := hrel
    by_cases hlt : k < xs.length
    · have cx := CX.out k hlt
      obtain ⟨c, hc⟩ : ∃ c, c = xs.getD k 0 := ⟨_, rfl⟩
      rw [← hc] at cx
      have HN : Hid (sumG xs (k + 1) = IntKind.u64.wrap (bits .xor .u64 z (IntKind.u64.wrap (c : Nat)) * 1099511628211)) := Lib.hid (by rw [hz.out, hc]; rfl)
      have HC := Lib.hid hc; clear hc
      go_wp2
      go_round
      case rel => exact ⟨k + 1, by omega, by go_num, _, Lib.hid (by rw [HN.out]), rfl⟩
      case measure => simp [intOf]; omega
    · obtain rfl : k = xs.length := by omega
      clear hlt
      go_wp2
      go_ret
      rw [HR.out, ← hz.out]
      exact ⟨rfl, rfl⟩
theorem sum_e (A : Option Addr) (cap : Nat) (w : World) : Calls Try.prog 11 #[.slice A 0 cap] w fun e w' => e = .returned (.int .u64 14695981039346656037) ∧ w = w' := by
  go_enter Try.func11, Try.ntmps11
  go_wp2
  refine wp_loop_rounds 1 ?_
  rw [rounds_succ]
  go_wp2
  go_ret
  exact ⟨rfl, rfl⟩
theorem rsum_e (A : Option Addr) (cap : Nat) (w : World) : Calls Try.prog 12 #[.slice A 0 cap] w fun e w' => e = .returned (.int .u64 14695981039346656037) ∧ w = w' := by
  go_enter Try.func12, Try.ntmps12
  go_wp2
  refine wp_loop_rounds 1 ?_
  rw [rounds_succ]
  go_wp2
  go_ret
  exact ⟨rfl, rfl⟩
/-- a number and what is behind it; -1: there is none. -/
def numS (b : List Nat) : Int × Nat :=
  if (resG b (b.length + 1) 0).2 = 0 ∨ 4611686018427387904 < (resG b (b.length + 1) 0).1 then (-1, 0) else ((resG b (b.length + 1) 0).1, (resG b (b.length + 1) 0).2.toNat)
def big62 : Int := 4611686018427387904
set_option maxRecDepth 100000 in
set_option maxHeartbeats 1000000 in
theorem number_any {w : World} {g h o n cap : Nat} {ov : Value} {b : List Nat} (hobj : w.heap[g]? = some (.cells #[ov, .slice (some ⟨h, o, none⟩) n cap] 36 (0, 0))) (hn : b.length = n) (hb : ∀ j, j < b.length → w.cell? ⟨h, o + j, none⟩ = some (.int .u8 (b.getD j 0 : Nat))) (hl : n ≤ 1000000) (hcap : n ≤ cap) :
    Calls Try.prog 20 #[.pointer (some ⟨g, 0, none⟩)] w fun e w' => e = .returned (.int .i64 (numS b).1) ∧ (((numS b).1 = -1 ∧ w' = w) ∨ ((numS b).1 ≠ -1 ∧ ∃ o', ((numS b).2 < n → o' = o + (numS b).2) ∧ w' = w.setCell ⟨g, 1, none⟩ (.slice (some ⟨h, o', none⟩) (n - (numS b).2) (cap - (numS b).2)))) := by
  have CX := Lib.hid hb
  have c1 : w.cell? ⟨g, 1, none⟩ = some (.slice (some ⟨h, o, none⟩) n cap) := by simp [World.cell?, hobj]
  have f1 : w.frozen? ⟨g, 1, none⟩ = false := by simp [World.frozen?, hobj]
  have GET : Hid (Calls Try.prog 23 #[.slice (some ⟨h, o, none⟩) n cap] w fun e w' => e = .returned (.tuple #[.int .u64 (resG b (b.length + 1) 0).1, .int .i64 (resG b (b.length + 1) 0).2]) ∧ w = w') := Lib.hid (by subst hn; exact get_any hb hl)
  have RI := resG_in b (b.length + 1) 0
  have RL := resG_len b (b.length + 1) 0
  obtain ⟨ns, hns⟩ : ∃ ns, ns = numS b := ⟨_, rfl⟩
  rw [← hns]
  unfold numS at hns
  obtain ⟨r, hr⟩ : ∃ r, r = resG b (b.length + 1) 0 := ⟨_, rfl⟩
  rw [← hr] at RI RL GET hns
  obtain ⟨u, m⟩ := r
  simp only at RI RL GET hns
  obtain ⟨q, rfl⟩ : ∃ q : Nat, m = q := ⟨m.toNat, by omega⟩
  have hqn : q ≤ n := by omega
  clear hb hobj hr RL
  by_cases hq0 : q = 0
  · subst hq0
    rw [if_pos (.inl rfl)] at hns
    have HNS := Lib.hid hns
    clear hns RI
    go_enter Try.func20, Try.ntmps20
    go_wp2_with fail
    refine GET.out.mono ?_; rintro e w3 ⟨rfl, rfl⟩
    go_wp2
    all_goals (go_ret; rw [HNS.out]; exact ⟨rfl, .inl ⟨rfl, rfl⟩⟩)
  · by_cases hbig : (4611686018427387904 : Int) < u
    · rw [if_pos (.inr hbig)] at hns
      have HNS := Lib.hid hns
      have d1 : ((q : Int) == 0) = false := beq_eq_false_iff_ne.2 (by omega)
      have d2 : decide ((4611686018427387904 : Int) < u) = true := decide_eq_true hbig
      clear hns RI hbig hq0
      go_enter Try.func20, Try.ntmps20
      go_wp2_with fail
      refine GET.out.mono ?_; rintro e w3 ⟨rfl, rfl⟩
      go_wp2
      all_goals (go_ret; rw [HNS.out]; exact ⟨rfl, .inl ⟨rfl, rfl⟩⟩)
    · have hns2 : ns = (u, q) := by rw [hns, if_neg (by omega)]; simp
      have hu1 : u ≠ -1 := by omega
      have HNS := Lib.hid hns2
      have HU1 := Lib.hid hu1
      obtain ⟨o', ho, ho'⟩ := rest_at h o n cap q hqn hcap
      have HO := Lib.hid ho'
      have d1 : ((q : Int) == 0) = false := beq_eq_false_iff_ne.2 (by omega)
      have d2 : decide ((4611686018427387904 : Int) < u) = false := decide_eq_false hbig
      have WU : Hid (wrap64 u = u ∧ IntKind.i64.wrap u = u) := Lib.hid (by refine ⟨?_, ?_⟩; (unfold wrap64; omega); (simp only [IntKind.wrap_i64]; omega))
      clear hns hns2 RI hbig hq0 hu1 ho'
      obtain ⟨w1, w2⟩ := WU.out
      go_enter Try.func20, Try.ntmps20
      go_wp2_with fail
      refine GET.out.mono ?_; rintro e w3 ⟨rfl, rfl⟩
      go_wp2
      go_ret
      rw [HNS.out]
      exact ⟨rfl, .inr ⟨HU1.out, o', HO.out, rfl⟩⟩
end Go.Proofs.Ytaidlcnfkdaijaa
