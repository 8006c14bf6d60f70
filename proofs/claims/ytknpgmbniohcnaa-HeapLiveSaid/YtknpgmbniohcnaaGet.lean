import Derived.Test.YtknpgmbniohcnaaFind
namespace Go.Proofs.Ytknpgmbniohcnaa
open Go.ChangeShapes Go.WideShapes Go.ChangeAt Go.RowKit
set_option linter.unusedVariables false
theorem splS_nn {x : Int} (h : 0 ≤ x) : 0 ≤ splS x ∧ splS x ≤ 65535 := by unfold splS; split <;> omega
/-- a place within an object, or an error. -/
def placeR (m : Hm) (p i : Int) : Int × Int :=
  if findB m p = false then (0, 4) else if i < 0 ∨ splS (m.ws.getD (findV m p).toNat 0) ≤ i then (0, 1) else (findV m p + 1 + i, 0)
theorem getD_at {l : List Int} {a : Nat} (h : a < l.length) : l.getD a 0 = l[a] := by simp [List.getD, List.getElem?_eq_getElem h]
set_option maxRecDepth 100000 in
set_option maxHeartbeats 2000000 in
theorem place_any {w : World} {B H o : Nat} {m : Hm} (h : HpAt w B H o m) (p i : Int) (hp : U64 p) (hi0 : -9223372036854775808 ≤ i) (hi1 : i ≤ 9223372036854775807) :
    Calls Try.prog 36 #[.pointer (some ⟨H, o, none⟩), .int .u64 p, .int .i64 i] w fun e w' => e = .returned (.tuple #[.int .i64 (placeR m p i).1, .int .i64 (placeR m p i).2]) ∧ w = w' := by
  have FD := Lib.hid (find_any h p hp)
  have hlt := h.ok.lt
  unfold placeR
  cases hb : findB m p
  · rw [hb] at FD
    rw [if_pos rfl]
    clear h
    go_enter Try.func36, Try.ntmps36
    go_wp2_with fail
    refine FD.out.mono ?_; rintro e w1 ⟨rfl, rfl⟩
    clear FD
    go_wp2
    go_ret2
    exact ⟨rfl, rfl⟩
  rw [hb] at FD
  rw [if_neg (by decide)]
  obtain ⟨h1, h2, h3, h4⟩ := findB_lt hb
  obtain ⟨a, ha⟩ : ∃ a : Nat, atV p = (a : Int) := ⟨(atV p).toNat, by have := atV_nn hp.1; omega⟩
  rw [h2, ha] at FD ⊢
  rw [ha] at h3 h4
  have hal : a < m.ws.length := by simpa using h3
  have hsz := size_any h a hal
  have hsn := h.ok.snd a hal (by simpa using h4)
  have hnn := splS_nn (h.ok.wf _ (List.getElem_mem hal)).1
  rw [getD_at hal] at hsn
  obtain ⟨s, hs⟩ : ∃ s, s = splS m.ws[a] := ⟨_, rfl⟩
  have he : splS (m.ws.getD ((a : Int)).toNat 0) = s := by rw [hs, show ((a : Int)).toNat = a from rfl, getD_at hal]
  rw [he]
  rw [← hs] at hsz hsn hnn
  have SZ := Lib.hid hsz
  have hle : a + 1 + s.toNat ≤ 65536 := by omega
  clear hsz hsn hs he h1 h2 h3 h4 ha hb h hal
  by_cases c1 : i < 0
  · rw [if_pos (.inl c1)]
    have d1 := decide_eq_true c1
    go_enter Try.func36, Try.ntmps36
    go_wp2_with fail
    refine FD.out.mono ?_; rintro e w1 ⟨rfl, rfl⟩
    clear FD
    go_wp2
    go_ret2
    exact ⟨rfl, rfl⟩
  have d1 := decide_eq_false c1
  by_cases c2 : s ≤ i
  · rw [if_pos (.inr c2)]
    have d2 := decide_eq_true c2
    go_enter Try.func36, Try.ntmps36
    go_wp2_with fail
    refine FD.out.mono ?_; rintro e w1 ⟨rfl, rfl⟩
    clear FD
    go_wp2_with fail
    refine SZ.out.mono ?_; rintro e w1 ⟨rfl, rfl⟩
    clear SZ
    go_wp2
    go_ret2
    exact ⟨rfl, rfl⟩
  · rw [if_neg (by omega)]
    have d2 := decide_eq_false c2
    go_enter Try.func36, Try.ntmps36
    go_wp2_with fail
    refine FD.out.mono ?_; rintro e w1 ⟨rfl, rfl⟩
    clear FD
    go_wp2_with fail
    refine SZ.out.mono ?_; rintro e w1 ⟨rfl, rfl⟩
    clear SZ
    go_wp2
    go_ret2
    exact ⟨rfl, rfl⟩
theorem place_lt {m : Hm} (ok : m.Ok) {p i : Int} (hp : U64 p) (h : (placeR m p i).2 = 0) : ∃ k : Nat, (placeR m p i).1 = (k : Int) ∧ k < m.ws.length ∧ findB m p = true ∧ 0 ≤ i ∧ (k : Int) = atV p + 1 + i := by
  unfold placeR at h ⊢
  cases hb : findB m p
  · rw [hb] at h; rw [if_pos rfl] at h; cases h
  · rw [hb] at h
    rw [if_neg (by decide)] at h ⊢
    obtain ⟨h1, h2, h3, h4⟩ := findB_lt hb
    split at h
    · cases h
    · rename_i hc
      rw [if_neg hc]
      have h5 := ok.snd _ h3 h4
      rw [h2] at hc ⊢
      have := atV_nn hp.1
      refine ⟨(atV p + 1 + i).toNat, by omega, by omega, rfl, by omega, by omega⟩
theorem place_err (m : Hm) (p i : Int) : (placeR m p i).2 = 0 ∨ (placeR m p i).2 = 1 ∨ (placeR m p i).2 = 4 := by
  unfold placeR
  repeat' split
  all_goals first | exact .inl rfl | exact .inr (.inl rfl) | exact .inr (.inr rfl)
def getR (m : Hm) (p i : Int) : Int × Int := if (placeR m p i).2 ≠ 0 then (0, (placeR m p i).2) else (m.ws.getD (placeR m p i).1.toNat 0, 0)
set_option maxRecDepth 100000 in
set_option maxHeartbeats 2000000 in
theorem get_any {w : World} {B H o : Nat} {m : Hm} (h : HpAt w B H o m) (p i : Int) (hp : U64 p) (hi0 : -9223372036854775808 ≤ i) (hi1 : i ≤ 9223372036854775807) :
    Calls Try.prog 15 #[.pointer (some ⟨H, o, none⟩), .int .u64 p, .int .i64 i] w fun e w' => e = .returned (.tuple #[.int .u64 (getR m p i).1, .int .i64 (getR m p i).2]) ∧ w = w' := by
  have PL := Lib.hid (place_any h p i hp hi0 hi1)
  unfold getR
  by_cases he : (placeR m p i).2 = 0
  · rw [if_neg (by simpa using he)]
    obtain ⟨k, hk, hkl, -⟩ := place_lt h.ok hp he
    rw [he, hk] at PL
    rw [hk]
    obtain ⟨A1, c1, A2, c2, f0, f1, f2, f3, hw, hs⟩ := h.cells
    obtain ⟨g, rfl, hc⟩ := hw k hkl
    have hki : (k : Int) < (m.ws.length : Int) := by omega
    have hlt := h.ok.lt
    rw [show ((k : Int)).toNat = k from rfl, getD_at hkl]
    clear hw hs h hk he
    go_enter Try.func15, Try.ntmps15
    go_wp2_with fail
    refine PL.out.mono ?_; rintro e w1 ⟨rfl, rfl⟩
    clear PL
    go_wp2
    go_ret2
    exact ⟨rfl, rfl⟩
  · rw [if_pos (by simpa using he)]
    obtain ⟨er, her⟩ : ∃ er, er = (placeR m p i).2 := ⟨_, rfl⟩
    obtain ⟨z, hz⟩ : ∃ z, z = (placeR m p i).1 := ⟨_, rfl⟩
    rw [← her] at he PL ⊢
    rw [← hz] at PL
    have h14 : er = 1 ∨ er = 4 := by rcases place_err m p i with h0 | h0 | h0 <;> omega
    clear her hz he h
    rcases h14 with rfl | rfl
    all_goals
      go_enter Try.func15, Try.ntmps15
      go_wp2_with fail
      refine PL.out.mono ?_; rintro e w1 ⟨rfl, rfl⟩
      clear PL
      go_wp2
      go_ret2
      exact ⟨rfl, rfl⟩
def headR (m : Hm) (p : Int) : Int × Int × Int × Int := if findB m p = true then (splK (m.ws.getD (findV m p).toNat 0), splT (m.ws.getD (findV m p).toNat 0), splS (m.ws.getD (findV m p).toNat 0), 0) else (0, 0, 0, 4)
theorem res17 {tmps : Array Value} {W : World} {a b c d : Value} (h4 : tmps.getD 4 undef = a) (h5 : tmps.getD 5 undef = b) (h6 : tmps.getD 6 undef = c) (h7 : tmps.getD 7 undef = d) :
    (results Try.f17 tmps).run Try.prog W = .ok (.tuple #[a, b, c, d]) W := by
  simp only [Array.getD_eq_getD_getElem?] at h4 h5 h6 h7
  simp [results, Try.f17, go_sem, h4, h5, h6, h7]
set_option maxRecDepth 100000 in
set_option maxHeartbeats 2000000 in
theorem hhead_any {w : World} {B H o : Nat} {m : Hm} (h : HpAt w B H o m) (p : Int) (hp : U64 p) :
    Calls Try.prog 17 #[.pointer (some ⟨H, o, none⟩), .int .u64 p] w fun e w' => e = .returned (.tuple #[.int .i64 (headR m p).1, .int .i64 (headR m p).2.1, .int .i64 (headR m p).2.2.1, .int .i64 (headR m p).2.2.2]) ∧ w = w' := by
  have FD := Lib.hid (find_any h p hp)
  have hlt := h.ok.lt
  unfold headR
  cases hb : findB m p
  · rw [hb] at FD
    rw [if_neg (by decide)]
    clear h
    go_enter Try.func17, Try.ntmps17
    go_wp2_with fail
    refine FD.out.mono ?_; rintro e w1 ⟨rfl, rfl⟩
    clear FD
    go_wp2
    exact bodyPost_ret (res17 rfl rfl rfl rfl) rfl ⟨rfl, rfl⟩
  rw [hb] at FD
  rw [if_pos rfl]
  obtain ⟨h1, h2, h3, h4⟩ := findB_lt hb
  obtain ⟨a, ha⟩ : ∃ a : Nat, atV p = (a : Int) := ⟨(atV p).toNat, by have := atV_nn hp.1; omega⟩
  rw [h2, ha] at FD ⊢
  rw [ha] at h3
  have hal : a < m.ws.length := by simpa using h3
  rw [show ((a : Int)).toNat = a from rfl, getD_at hal]
  obtain ⟨A1, c1, A2, c2, f0, f1, f2, f3, hw, hs⟩ := h.cells
  obtain ⟨g, rfl, hc⟩ := hw a hal
  have hwf := h.ok.wf _ (List.getElem_mem hal)
  have hali : (a : Int) < (m.ws.length : Int) := by omega
  obtain ⟨x, hx⟩ : ∃ x, x = m.ws[a] := ⟨_, rfl⟩
  rw [← hx] at hc hwf ⊢
  have SP := Lib.hid (split_any x hwf.1 hwf.2 w)
  clear hx hwf hw hs h h1 h2 h3 h4 ha hb hal
  go_enter Try.func17, Try.ntmps17
  go_wp2_with fail
  refine FD.out.mono ?_; rintro e w1 ⟨rfl, rfl⟩
  clear FD
  go_wp2_with fail
  refine SP.out.mono ?_; rintro e w1 ⟨rfl, rfl⟩
  clear SP
  go_wp2
  exact bodyPost_ret (res17 rfl rfl rfl rfl) rfl ⟨rfl, rfl⟩
theorem used_any {w : World} {B H o : Nat} {m : Hm} (h : HpAt w B H o m) : Calls Try.prog 29 #[.pointer (some ⟨H, o, none⟩)] w fun e w' => e = .returned (.int .i64 m.ws.length) ∧ w = w' := by
  obtain ⟨A1, c1, A2, c2, f0, f1, f2, f3, hw, hs⟩ := h.cells
  clear hw hs h
  go_enter Try.func29, Try.ntmps29
  go_wp2
  go_ret
  exact ⟨rfl, rfl⟩
theorem turns_any {w : World} {B H o : Nat} {m : Hm} (h : HpAt w B H o m) : Calls Try.prog 30 #[.pointer (some ⟨H, o, none⟩)] w fun e w' => e = .returned (.int .i64 m.turns) ∧ w = w' := by
  obtain ⟨A1, c1, A2, c2, f0, f1, f2, f3, hw, hs⟩ := h.cells
  clear hw hs h
  go_enter Try.func30, Try.ntmps30
  go_wp2
  go_ret
  exact ⟨rfl, rfl⟩
theorem room_any {w : World} {B H o : Nat} {m : Hm} (h : HpAt w B H o m) : Calls Try.prog 20 #[.pointer (some ⟨H, o, none⟩)] w fun e w' => e = .returned (.int .i64 m.room) ∧ w = w' := by
  obtain ⟨A1, c1, A2, c2, f0, f1, f2, f3, hw, hs⟩ := h.cells
  clear hw hs h
  go_enter Try.func20, Try.ntmps20
  go_wp2
  go_ret
  exact ⟨rfl, rfl⟩
end Go.Proofs.Ytknpgmbniohcnaa
