import Derived.Test.YtknpgmbniohcnaaCl
namespace Go.Proofs.Ytknpgmbniohcnaa
open Go.ChangeShapes Go.WideShapes Go.ChangeAt Go.RowKit
set_option linter.unusedVariables false
def emp (room : Int) : Hm := ⟨room, 0, [], []⟩
theorem emp_ok {room : Int} (h0 : 0 ≤ room) (h1 : room ≤ 65536) : (emp room).Ok := ⟨rfl, by simp [emp], h0, h1, by simp [emp], by simp [emp], by simp [emp], by simp [emp]⟩
set_option maxRecDepth 100000 in
theorem new_ok (w : World) (room : Int) (h0 : 16 ≤ room) (h1 : room ≤ 65536) : Calls Try.prog 10 #[.int .i64 room] w fun e w' => e = .returned (.tuple #[.pointer (some ⟨w.heap.size, 0, none⟩), .int .i64 0]) ∧ Hid (HpAt w' (w.heap.size + 1) w.heap.size 0 (emp room)) ∧ Hid (Below w.heap.size w w') ∧ Hid (w'.heap.size = w.heap.size + 1 ∧ ∀ w2 B2, Below w'.heap.size w' w2 → B2 ≤ w2.heap.size → HpAt w2 B2 w.heap.size 0 (emp room)) := by
  have d0 : decide (room < 16) = false := decide_eq_false (by omega)
  have d1 : decide (65536 < room) = false := decide_eq_false (by omega)
  have OK := Lib.hid (emp_ok (show 0 ≤ room by omega) h1)
  clear h0 h1
  go_enter Try.func10, Try.ntmps10
  go_wp2
  go_ret2
  have hz : (w.alloc (Obj.cells #[Value.int IntKind.i64 room, Value.int IntKind.i64 0, Value.slice none 0 0, Value.slice none 0 0] 70)).heap[w.heap.size]? = some (.cells #[.int .i64 room, .int .i64 0, .slice none 0 0, .slice none 0 0] 70 (0, 0)) := by
    show (w.heap.push _)[w.heap.size]? = _
    rw [Array.getElem?_push, if_pos rfl]
  exact ⟨rfl, Lib.hid ⟨OK.out, by show _ ≤ (w.heap.push _).size; simp, _, 70, none, 0, none, 0, by decide, by decide, by decide, hz, rfl, rfl, rfl, rfl, World.ownsRow_nil _ _ _ _, World.ownsRow_nil _ _ _ _⟩, Lib.hid (below_alloc w _), Lib.hid ⟨by show (w.heap.push _).size = _; simp, fun w2 B2 hb hB => ⟨OK.out, hB, _, 70, none, 0, none, 0, by decide, by decide, by decide, (hb.block _ (by show _ < (w.heap.push _).size; simp)).trans hz, rfl, rfl, rfl, rfl, World.ownsRow_nil _ _ _ _, World.ownsRow_nil _ _ _ _⟩⟩⟩
set_option maxRecDepth 100000 in
theorem new_bad (w : World) (room : Int) (h : room < 16 ∨ 65536 < room) : Calls Try.prog 10 #[.int .i64 room] w fun e w' => e = .returned (.tuple #[.pointer none, .int .i64 1]) ∧ w = w' := by
  by_cases h0 : room < 16
  · have d0 := decide_eq_true h0
    clear h
    go_enter Try.func10, Try.ntmps10
    go_wp2
    go_ret2
    exact ⟨rfl, rfl⟩
  · have d0 := decide_eq_false h0
    have d1 : decide (65536 < room) = true := decide_eq_true (by omega)
    clear h
    go_enter Try.func10, Try.ntmps10
    go_wp2
    go_ret2
    exact ⟨rfl, rfl⟩
def setE (m : Hm) (p i x : Int) : Int := if (placeR m p i).2 ≠ 0 then (placeR m p i).2 else if fitsB m x = false then 1 else 0
def setM (m : Hm) (p i x : Int) : Hm := if setE m p i x = 0 then m.setW (placeR m p i).1.toNat x else m
theorem place_free {m : Hm} (ok : m.Ok) {p i : Int} (hp : U64 p) (h : (placeR m p i).2 = 0) : m.st.getD (placeR m p i).1.toNat false = false := by
  unfold placeR at h ⊢
  cases hb : findB m p
  · rw [hb] at h; cases h
  · rw [hb] at h
    rw [if_neg (by decide)] at h ⊢
    obtain ⟨h1, h2, h3, h4⟩ := findB_lt hb
    split at h
    · cases h
    · rename_i hc
      rw [if_neg hc]
      have h5 := ok.snd _ h3 h4
      rw [h2] at hc ⊢
      have := atV_nn hp.1
      exact h5.2.2 _ (by omega) (by omega)
theorem setM_ok {m : Hm} (ok : m.Ok) {p i x : Int} (hp : U64 p) (hx : U64 x) : (setM m p i x).Ok := by
  unfold setM
  split
  · rename_i h
    have h2 : (placeR m p i).2 = 0 := by
      unfold setE at h
      split at h
      · exact h
      · rename_i h3; simpa using h3
    exact setW_ok ok hx (place_free ok hp h2)
  · exact ok
set_option maxRecDepth 100000 in
set_option maxHeartbeats 2000000 in
theorem set_any {w : World} {B H o : Nat} {m : Hm} (h : HpAt w B H o m) (p i x : Int) (hp : U64 p) (hx : U64 x) (hi0 : -9223372036854775808 ≤ i) (hi1 : i ≤ 9223372036854775807) :
    Calls Try.prog 14 #[.pointer (some ⟨H, o, none⟩), .int .u64 p, .int .i64 i, .int .u64 x] w fun e w' => e = .returned (.int .i64 (setE m p i x)) ∧ Hid (HpAt w' B H o (setM m p i x)) ∧ Hid (Frm w w' (HR w H o)) := by
  have PL := Lib.hid (place_any h p i hp hi0 hi1)
  have FT := Lib.hid (fits_any h x hx)
  have HP := Lib.hid h
  unfold setM setE
  by_cases he : (placeR m p i).2 = 0
  · rw [if_neg (by simpa using he)]
    have FR := Lib.hid (place_free h.ok hp he)
    have HU := Lib.hid hx
    obtain ⟨k, hk, hkl, -⟩ := place_lt h.ok hp he
    rw [he, hk] at PL
    rw [hk] at FR ⊢
    rw [show ((k : Int)).toNat = k from rfl] at FR ⊢
    obtain ⟨A1, c1, A2, c2, f0, f1, f2, f3, hw, hs⟩ := h.cells
    obtain ⟨g, rfl, hc⟩ := hw k hkl
    have hki : (k : Int) < (m.ws.length : Int) := by omega
    have hlt := h.ok.lt
    have fr := World.frozen?_of_HpAt h f2 k
    obtain ⟨y, hy⟩ : ∃ y, w.cell? ⟨g, k, none⟩ = some y := ⟨_, hc⟩
    have F2 := Lib.hid f2
    cases hf : fitsB m x
    · rw [hf] at FT
      clear hw hs h hk he hc
      go_enter Try.func14, Try.ntmps14
      go_wp2_with fail
      refine PL.out.mono ?_; rintro e w1 ⟨rfl, rfl⟩
      clear PL
      go_wp2_with fail
      refine FT.out.mono ?_; rintro e w1 ⟨rfl, rfl⟩
      go_wp2
      go_ret
      exact ⟨rfl, HP, Lib.hid (Frm.refl _ _)⟩
    · rw [hf] at FT
      clear hw hs h hk he hc
      go_enter Try.func14, Try.ntmps14
      go_wp2_with fail
      refine PL.out.mono ?_; rintro e w1 ⟨rfl, rfl⟩
      clear PL
      go_wp2_with fail
      refine FT.out.mono ?_; rintro e w1 ⟨rfl, rfl⟩
      go_wp2
      go_ret
      have z := HP.out.set (i := k) F2.out HU.out FR.out
      exact ⟨rfl, Lib.hid z.1, Lib.hid z.2.1⟩
  · rw [if_pos (by simpa using he), if_neg he]
    obtain ⟨er, her⟩ : ∃ er, er = (placeR m p i).2 := ⟨_, rfl⟩
    obtain ⟨z, hz⟩ : ∃ z, z = (placeR m p i).1 := ⟨_, rfl⟩
    rw [← her] at he PL ⊢
    rw [← hz] at PL
    have h14 : er = 1 ∨ er = 4 := by rcases place_err m p i with h0 | h0 | h0 <;> omega
    clear her hz he h FT
    rcases h14 with rfl | rfl
    all_goals
      go_enter Try.func14, Try.ntmps14
      go_wp2_with fail
      refine PL.out.mono ?_; rintro e w1 ⟨rfl, rfl⟩
      clear PL
      go_wp2
      go_ret
      exact ⟨rfl, HP, Lib.hid (Frm.refl _ _)⟩
end Go.Proofs.Ytknpgmbniohcnaa
