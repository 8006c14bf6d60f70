import Derived.Test.YtknpgmbniohcnaaRk
import Derived.Test.YtknpgmbniohcnaaSo
namespace Go.Proofs.Ytknpgmbniohcnaa
open Go.ChangeShapes Go.WideShapes Go.ChangeAt Go.RowKit
set_option linter.unusedVariables false
set_option linter.unusedSimpArgs false
set_option maxRecDepth 100000 in
set_option maxHeartbeats 8000000 in
theorem eight_any {w : World} {B n : Nat} {v : Value} {l : List Int} (own : w.ownsRow B 5 1 v n (wb l)) (hB : B ≤ w.heap.size) (x : Int) (hx : U64 x) (hn : n ≤ 1000000) :
    Calls Try.prog 49 #[v, .int .u64 x] w fun e w' => ∃ v', e = .returned v' ∧ Hid (w'.ownsRow B 5 1 v' (n + 8) (wb (l ++ put8 x))) ∧ Hid (Frm w w' (fun k => v.ownBlock = some k)) := by
  obtain ⟨k0, hk0, hz0, hz1, hz2⟩ := info_parts info5
  have OW := Lib.hid own
  have HB := Lib.hid hB
  obtain ⟨hx0, hx1⟩ := hx
  obtain ⟨A, c, rfl⟩ := vform own
  have ST : Hid (w.ownsRow B 5 1 (.slice A n c) (n + 0) (wb (l ++ (put8 x).take 0))) := Lib.hid (by simpa using own)
  clear own hB
  go_enter Try.func49, Try.ntmps49
  go_wp2
  go_loopw [0, 5] (fun u i wr => ∃ (k : Nat) (z : Int), i = .int .i64 z ∧ z = 7 - (k : Int) ∧ k ≤ 8 ∧ Hid (wr.ownsRow B 5 1 u (n + k) (wb (l ++ (put8 x).take k))) ∧ Hid (Frm w wr (fun j => Value.ownBlock (.slice A n c) = some j)) ∧ Hid (∀ j, u.ownBlock = some j → Value.ownBlock (.slice A n c) = some j ∨ w.heap.size ≤ j)) (fun _ i _ => (intOf i + 1).toNat)
  case atStart => exact ⟨0, 7, rfl, rfl, by omega, ST, Lib.hid (Frm.refl _ _), Lib.hid (fun j hj => .inl hj)⟩
  case round =>
    obtain ⟨k, z, rfl, hz, hk, OW, FR, OB⟩ := hrel
    clear ST
    have HS : Hid (B ≤ wr.heap.size) := Lib.hid (Nat.le_trans HB.out FR.out.size)
    have FA : Hid (∀ (o : Obj) (W : World), (wr.alloc o).grownBy W u0.ownBlock → Frm w W (fun j => Value.ownBlock (.slice A n c) = some j)) := Lib.hid (fun o W gr => by
      have f1 : Frm wr W (fun j => u0.ownBlock = some j) := (Frm.of_below (below_alloc wr o) (Nat.le_refl _) _).trans (Frm.of_grown gr (fun j hj => hj))
      exact ⟨f1.os.trans FR.out.os, f1.tape.trans FR.out.tape, f1.output.trans FR.out.output, Nat.le_trans FR.out.size f1.size, fun i hi hr => (f1.block i (Nat.lt_of_lt_of_le hi FR.out.size) (fun h => by rcases OB.out i h with e | e; exact hr e; omega)).trans (FR.out.block i hi hr)⟩)
    by_cases hk8 : k = 8
    · obtain rfl : z = -1 := by omega
      have OW8 : Hid (wr.ownsRow B 5 1 u0 (n + 8) (wb (l ++ put8 x))) := Lib.hid (by have h := OW.out; rw [hk8] at h; exact h)
      clear OW hz hk hk8
      go_wp2
      go_ret
      exact ⟨u0, rfl, OW8, FR⟩
    rcases (show k = 0 ∨ k = 1 ∨ k = 2 ∨ k = 3 ∨ k = 4 ∨ k = 5 ∨ k = 6 ∨ k = 7 by omega) with rfl | rfl | rfl | rfl | rfl | rfl | rfl | rfl
    · obtain rfl : z = 7 := by omega
      clear hz hk hk8
      go_wp2_with (at_builtin; refine wpList_append_own_at _ rfl (.tmp 10) (.tmp 17) 40 rfl B 5 k0 (.int .u8 0) 1 1 Try.underlying40 hk0 hz0 hz1 hz2 rfl (by decide) u0 (n + 0) (wb (l ++ (put8 x).take 0)) rfl (OW.out.alloc _) ⟨wr.heap.size, 0, none⟩ 1 1 [.int .u8 (x / 72057594037927936)] rfl rfl ?c1 ?c2 (by unfold maxLen; omega) (by omega) ?c3 ?_)
      case c1 => exact cell_one_new _ _ _
      case c2 => intro u hu; simp only [List.mem_singleton] at hu; subst hu; rfl
      case c3 => have := HS.out; show B ≤ (wr.heap.push _).size; simp; omega
      intro v1 w1 own1 gr1 _ at1
      have OW1 : Hid (w1.ownsRow B 5 1 v1 (n + 1) (wb (l ++ (put8 x).take 1))) := Lib.hid (by
        have e : wb (l ++ (put8 x).take 1) = wb (l ++ (put8 x).take 0) ++ [.int .u8 (x / 72057594037927936)] := by
          rw [show (put8 x).take 1 = (put8 x).take 0 ++ [x / 72057594037927936] from rfl, ← List.append_assoc, wb_app]; rfl
        rw [e]; first | exact own1 | simpa using own1)
      have F1 := Lib.hid (FA.out _ _ gr1)
      have OB1 : Hid (∀ j, v1.ownBlock = some j → Value.ownBlock (.slice A n c) = some j ∨ w.heap.size ≤ j) := Lib.hid (fun j hj => by
        rcases at1 with e | e
        · exact OB.out j (e ▸ hj)
        · rw [e] at hj; injection hj with hj
          right; subst hj; have := FR.out.size; show w.heap.size ≤ _; first | omega | (simp; omega))
      clear own1 gr1 at1 OW
      go_wp2
      go_roundw
      case rel => exact ⟨1, _, rfl, by omega, by omega, OW1, F1, OB1⟩
      case measure => simp [intOf]
    · obtain rfl : z = 6 := by omega
      clear hz hk hk8
      go_wp2_with (at_builtin; refine wpList_append_own_at _ rfl (.tmp 10) (.tmp 17) 40 rfl B 5 k0 (.int .u8 0) 1 1 Try.underlying40 hk0 hz0 hz1 hz2 rfl (by decide) u0 (n + 1) (wb (l ++ (put8 x).take 1)) rfl (OW.out.alloc _) ⟨wr.heap.size, 0, none⟩ 1 1 [.int .u8 (x / 281474976710656 % 256)] rfl rfl ?c1 ?c2 (by unfold maxLen; omega) (by omega) ?c3 ?_)
      case c1 => exact cell_one_new _ _ _
      case c2 => intro u hu; simp only [List.mem_singleton] at hu; subst hu; rfl
      case c3 => have := HS.out; show B ≤ (wr.heap.push _).size; simp; omega
      intro v1 w1 own1 gr1 _ at1
      have OW1 : Hid (w1.ownsRow B 5 1 v1 (n + 2) (wb (l ++ (put8 x).take 2))) := Lib.hid (by
        have e : wb (l ++ (put8 x).take 2) = wb (l ++ (put8 x).take 1) ++ [.int .u8 (x / 281474976710656 % 256)] := by
          rw [show (put8 x).take 2 = (put8 x).take 1 ++ [x / 281474976710656 % 256] from rfl, ← List.append_assoc, wb_app]; rfl
        rw [e]; first | exact own1 | simpa using own1)
      have F1 := Lib.hid (FA.out _ _ gr1)
      have OB1 : Hid (∀ j, v1.ownBlock = some j → Value.ownBlock (.slice A n c) = some j ∨ w.heap.size ≤ j) := Lib.hid (fun j hj => by
        rcases at1 with e | e
        · exact OB.out j (e ▸ hj)
        · rw [e] at hj; injection hj with hj
          right; subst hj; have := FR.out.size; show w.heap.size ≤ _; first | omega | (simp; omega))
      clear own1 gr1 at1 OW
      go_wp2
      go_roundw
      case rel => exact ⟨2, _, rfl, by omega, by omega, OW1, F1, OB1⟩
      case measure => simp [intOf]
    · obtain rfl : z = 5 := by omega
      clear hz hk hk8
      go_wp2_with (at_builtin; refine wpList_append_own_at _ rfl (.tmp 10) (.tmp 17) 40 rfl B 5 k0 (.int .u8 0) 1 1 Try.underlying40 hk0 hz0 hz1 hz2 rfl (by decide) u0 (n + 2) (wb (l ++ (put8 x).take 2)) rfl (OW.out.alloc _) ⟨wr.heap.size, 0, none⟩ 1 1 [.int .u8 (x / 1099511627776 % 256)] rfl rfl ?c1 ?c2 (by unfold maxLen; omega) (by omega) ?c3 ?_)
      case c1 => exact cell_one_new _ _ _
      case c2 => intro u hu; simp only [List.mem_singleton] at hu; subst hu; rfl
      case c3 => have := HS.out; show B ≤ (wr.heap.push _).size; simp; omega
      intro v1 w1 own1 gr1 _ at1
      have OW1 : Hid (w1.ownsRow B 5 1 v1 (n + 3) (wb (l ++ (put8 x).take 3))) := Lib.hid (by
        have e : wb (l ++ (put8 x).take 3) = wb (l ++ (put8 x).take 2) ++ [.int .u8 (x / 1099511627776 % 256)] := by
          rw [show (put8 x).take 3 = (put8 x).take 2 ++ [x / 1099511627776 % 256] from rfl, ← List.append_assoc, wb_app]; rfl
        rw [e]; first | exact own1 | simpa using own1)
      have F1 := Lib.hid (FA.out _ _ gr1)
      have OB1 : Hid (∀ j, v1.ownBlock = some j → Value.ownBlock (.slice A n c) = some j ∨ w.heap.size ≤ j) := Lib.hid (fun j hj => by
        rcases at1 with e | e
        · exact OB.out j (e ▸ hj)
        · rw [e] at hj; injection hj with hj
          right; subst hj; have := FR.out.size; show w.heap.size ≤ _; first | omega | (simp; omega))
      clear own1 gr1 at1 OW
      go_wp2
      go_roundw
      case rel => exact ⟨3, _, rfl, by omega, by omega, OW1, F1, OB1⟩
      case measure => simp [intOf]
    · obtain rfl : z = 4 := by omega
      clear hz hk hk8
      go_wp2_with (at_builtin; refine wpList_append_own_at _ rfl (.tmp 10) (.tmp 17) 40 rfl B 5 k0 (.int .u8 0) 1 1 Try.underlying40 hk0 hz0 hz1 hz2 rfl (by decide) u0 (n + 3) (wb (l ++ (put8 x).take 3)) rfl (OW.out.alloc _) ⟨wr.heap.size, 0, none⟩ 1 1 [.int .u8 (x / 4294967296 % 256)] rfl rfl ?c1 ?c2 (by unfold maxLen; omega) (by omega) ?c3 ?_)
      case c1 => exact cell_one_new _ _ _
      case c2 => intro u hu; simp only [List.mem_singleton] at hu; subst hu; rfl
      case c3 => have := HS.out; show B ≤ (wr.heap.push _).size; simp; omega
      intro v1 w1 own1 gr1 _ at1
      have OW1 : Hid (w1.ownsRow B 5 1 v1 (n + 4) (wb (l ++ (put8 x).take 4))) := Lib.hid (by
        have e : wb (l ++ (put8 x).take 4) = wb (l ++ (put8 x).take 3) ++ [.int .u8 (x / 4294967296 % 256)] := by
          rw [show (put8 x).take 4 = (put8 x).take 3 ++ [x / 4294967296 % 256] from rfl, ← List.append_assoc, wb_app]; rfl
        rw [e]; first | exact own1 | simpa using own1)
      have F1 := Lib.hid (FA.out _ _ gr1)
      have OB1 : Hid (∀ j, v1.ownBlock = some j → Value.ownBlock (.slice A n c) = some j ∨ w.heap.size ≤ j) := Lib.hid (fun j hj => by
        rcases at1 with e | e
        · exact OB.out j (e ▸ hj)
        · rw [e] at hj; injection hj with hj
          right; subst hj; have := FR.out.size; show w.heap.size ≤ _; first | omega | (simp; omega))
      clear own1 gr1 at1 OW
      go_wp2
      go_roundw
      case rel => exact ⟨4, _, rfl, by omega, by omega, OW1, F1, OB1⟩
      case measure => simp [intOf]
    · obtain rfl : z = 3 := by omega
      clear hz hk hk8
      go_wp2_with (at_builtin; refine wpList_append_own_at _ rfl (.tmp 10) (.tmp 17) 40 rfl B 5 k0 (.int .u8 0) 1 1 Try.underlying40 hk0 hz0 hz1 hz2 rfl (by decide) u0 (n + 4) (wb (l ++ (put8 x).take 4)) rfl (OW.out.alloc _) ⟨wr.heap.size, 0, none⟩ 1 1 [.int .u8 (x / 16777216 % 256)] rfl rfl ?c1 ?c2 (by unfold maxLen; omega) (by omega) ?c3 ?_)
      case c1 => exact cell_one_new _ _ _
      case c2 => intro u hu; simp only [List.mem_singleton] at hu; subst hu; rfl
      case c3 => have := HS.out; show B ≤ (wr.heap.push _).size; simp; omega
      intro v1 w1 own1 gr1 _ at1
      have OW1 : Hid (w1.ownsRow B 5 1 v1 (n + 5) (wb (l ++ (put8 x).take 5))) := Lib.hid (by
        have e : wb (l ++ (put8 x).take 5) = wb (l ++ (put8 x).take 4) ++ [.int .u8 (x / 16777216 % 256)] := by
          rw [show (put8 x).take 5 = (put8 x).take 4 ++ [x / 16777216 % 256] from rfl, ← List.append_assoc, wb_app]; rfl
        rw [e]; first | exact own1 | simpa using own1)
      have F1 := Lib.hid (FA.out _ _ gr1)
      have OB1 : Hid (∀ j, v1.ownBlock = some j → Value.ownBlock (.slice A n c) = some j ∨ w.heap.size ≤ j) := Lib.hid (fun j hj => by
        rcases at1 with e | e
        · exact OB.out j (e ▸ hj)
        · rw [e] at hj; injection hj with hj
          right; subst hj; have := FR.out.size; show w.heap.size ≤ _; first | omega | (simp; omega))
      clear own1 gr1 at1 OW
      go_wp2
      go_roundw
      case rel => exact ⟨5, _, rfl, by omega, by omega, OW1, F1, OB1⟩
      case measure => simp [intOf]
    · obtain rfl : z = 2 := by omega
      clear hz hk hk8
      go_wp2_with (at_builtin; refine wpList_append_own_at _ rfl (.tmp 10) (.tmp 17) 40 rfl B 5 k0 (.int .u8 0) 1 1 Try.underlying40 hk0 hz0 hz1 hz2 rfl (by decide) u0 (n + 5) (wb (l ++ (put8 x).take 5)) rfl (OW.out.alloc _) ⟨wr.heap.size, 0, none⟩ 1 1 [.int .u8 (x / 65536 % 256)] rfl rfl ?c1 ?c2 (by unfold maxLen; omega) (by omega) ?c3 ?_)
      case c1 => exact cell_one_new _ _ _
      case c2 => intro u hu; simp only [List.mem_singleton] at hu; subst hu; rfl
      case c3 => have := HS.out; show B ≤ (wr.heap.push _).size; simp; omega
      intro v1 w1 own1 gr1 _ at1
      have OW1 : Hid (w1.ownsRow B 5 1 v1 (n + 6) (wb (l ++ (put8 x).take 6))) := Lib.hid (by
        have e : wb (l ++ (put8 x).take 6) = wb (l ++ (put8 x).take 5) ++ [.int .u8 (x / 65536 % 256)] := by
          rw [show (put8 x).take 6 = (put8 x).take 5 ++ [x / 65536 % 256] from rfl, ← List.append_assoc, wb_app]; rfl
        rw [e]; first | exact own1 | simpa using own1)
      have F1 := Lib.hid (FA.out _ _ gr1)
      have OB1 : Hid (∀ j, v1.ownBlock = some j → Value.ownBlock (.slice A n c) = some j ∨ w.heap.size ≤ j) := Lib.hid (fun j hj => by
        rcases at1 with e | e
        · exact OB.out j (e ▸ hj)
        · rw [e] at hj; injection hj with hj
          right; subst hj; have := FR.out.size; show w.heap.size ≤ _; first | omega | (simp; omega))
      clear own1 gr1 at1 OW
      go_wp2
      go_roundw
      case rel => exact ⟨6, _, rfl, by omega, by omega, OW1, F1, OB1⟩
      case measure => simp [intOf]
    · obtain rfl : z = 1 := by omega
      clear hz hk hk8
      go_wp2_with (at_builtin; refine wpList_append_own_at _ rfl (.tmp 10) (.tmp 17) 40 rfl B 5 k0 (.int .u8 0) 1 1 Try.underlying40 hk0 hz0 hz1 hz2 rfl (by decide) u0 (n + 6) (wb (l ++ (put8 x).take 6)) rfl (OW.out.alloc _) ⟨wr.heap.size, 0, none⟩ 1 1 [.int .u8 (x / 256 % 256)] rfl rfl ?c1 ?c2 (by unfold maxLen; omega) (by omega) ?c3 ?_)
      case c1 => exact cell_one_new _ _ _
      case c2 => intro u hu; simp only [List.mem_singleton] at hu; subst hu; rfl
      case c3 => have := HS.out; show B ≤ (wr.heap.push _).size; simp; omega
      intro v1 w1 own1 gr1 _ at1
      have OW1 : Hid (w1.ownsRow B 5 1 v1 (n + 7) (wb (l ++ (put8 x).take 7))) := Lib.hid (by
        have e : wb (l ++ (put8 x).take 7) = wb (l ++ (put8 x).take 6) ++ [.int .u8 (x / 256 % 256)] := by
          rw [show (put8 x).take 7 = (put8 x).take 6 ++ [x / 256 % 256] from rfl, ← List.append_assoc, wb_app]; rfl
        rw [e]; first | exact own1 | simpa using own1)
      have F1 := Lib.hid (FA.out _ _ gr1)
      have OB1 : Hid (∀ j, v1.ownBlock = some j → Value.ownBlock (.slice A n c) = some j ∨ w.heap.size ≤ j) := Lib.hid (fun j hj => by
        rcases at1 with e | e
        · exact OB.out j (e ▸ hj)
        · rw [e] at hj; injection hj with hj
          right; subst hj; have := FR.out.size; show w.heap.size ≤ _; first | omega | (simp; omega))
      clear own1 gr1 at1 OW
      go_wp2
      go_roundw
      case rel => exact ⟨7, _, rfl, by omega, by omega, OW1, F1, OB1⟩
      case measure => simp [intOf]
    · obtain rfl : z = 0 := by omega
      clear hz hk hk8
      go_wp2_with (at_builtin; refine wpList_append_own_at _ rfl (.tmp 10) (.tmp 17) 40 rfl B 5 k0 (.int .u8 0) 1 1 Try.underlying40 hk0 hz0 hz1 hz2 rfl (by decide) u0 (n + 7) (wb (l ++ (put8 x).take 7)) rfl (OW.out.alloc _) ⟨wr.heap.size, 0, none⟩ 1 1 [.int .u8 (x % 256)] rfl rfl ?c1 ?c2 (by unfold maxLen; omega) (by omega) ?c3 ?_)
      case c1 => exact cell_one_new _ _ _
      case c2 => intro u hu; simp only [List.mem_singleton] at hu; subst hu; rfl
      case c3 => have := HS.out; show B ≤ (wr.heap.push _).size; simp; omega
      intro v1 w1 own1 gr1 _ at1
      have OW1 : Hid (w1.ownsRow B 5 1 v1 (n + 8) (wb (l ++ (put8 x).take 8))) := Lib.hid (by
        have e : wb (l ++ (put8 x).take 8) = wb (l ++ (put8 x).take 7) ++ [.int .u8 (x % 256)] := by
          rw [show (put8 x).take 8 = (put8 x).take 7 ++ [x % 256] from rfl, ← List.append_assoc, wb_app]; rfl
        rw [e]; first | exact own1 | simpa using own1)
      have F1 := Lib.hid (FA.out _ _ gr1)
      have OB1 : Hid (∀ j, v1.ownBlock = some j → Value.ownBlock (.slice A n c) = some j ∨ w.heap.size ≤ j) := Lib.hid (fun j hj => by
        rcases at1 with e | e
        · exact OB.out j (e ▸ hj)
        · rw [e] at hj; injection hj with hj
          right; subst hj; have := FR.out.size; show w.heap.size ≤ _; first | omega | (simp; omega))
      clear own1 gr1 at1 OW
      go_wp2
      go_roundw
      case rel => exact ⟨8, _, rfl, by omega, by omega, OW1, F1, OB1⟩
      case measure => simp [intOf]
set_option maxRecDepth 100000 in
set_option maxHeartbeats 8000000 in
theorem rput_any {w : World} {B H : Nat} {m : Hm} (h : RH w B H m) :
    Calls Try.prog 31 #[.pointer (some ⟨H, 0, none⟩)] w fun e w' => ∃ v', e = .returned v' ∧ Hid (w'.ownsRow w.heap.size 5 1 v' (16 + 8 * m.ws.length) (wb (encM m))) ∧ Hid (Below w.heap.size w w') := by
  have HR := Lib.hid h
  obtain ⟨A0, c0, f0, f1, f2, hin, fz, own⟩ := h.cells
  have HIN := Lib.hid hin
  have hlt := h.full.lt
  have hr0 := h.full.r0; have hr1 := h.full.r1
  have ht0 := h.full.t0; have ht1 := h.full.t1
  have HUR := Lib.hid (show U64 m.room from ⟨by omega, by omega⟩)
  have HUT := Lib.hid (show U64 m.turns from ⟨by omega, by omega⟩)
  have HHL := Lib.hid h.lt
  obtain ⟨n, hn⟩ : ∃ n, n = m.ws.length := ⟨_, rfl⟩
  rw [← hn] at f1 hlt
  have HN := Lib.hid hn
  obtain ⟨rm, hrm⟩ : ∃ rm, rm = m.room := ⟨_, rfl⟩
  obtain ⟨tu, htu⟩ : ∃ tu, tu = m.turns := ⟨_, rfl⟩
  have hE : encM m = put8 rm ++ put8 tu ++ m.ws.flatMap put8 := by unfold encM; rw [hrm, htu]
  rw [hE]
  rw [← hrm] at f0 hr0 hr1 HUR
  rw [← htu] at f2 ht0 ht1 HUT
  have A1C : Hid (∀ W, Below w.heap.size w W → W.cell? ⟨H, 0, none⟩ = some (.int .i64 rm) ∧ W.cell? ⟨H, 2, none⟩ = some (.int .i64 tu) ∧ W.cell? ⟨H, 1, none⟩ = some (.slice A0 n c0)) := Lib.hid (fun W hb => ⟨(hb.cell (p := ⟨H, 0, none⟩) HHL.out).trans f0, (hb.cell (p := ⟨H, 2, none⟩) HHL.out).trans f2, (hb.cell (p := ⟨H, 1, none⟩) HHL.out).trans f1⟩)
  have WR : Hid (IntKind.u64.wrap rm = rm) := Lib.hid (by rw [IntKind.wrap_u64]; omega)
  have WT : Hid (IntKind.u64.wrap tu = tu) := Lib.hid (by rw [IntKind.wrap_u64]; omega)
  have E1 := Lib.hid (eight_any (w := w.drew) (B := w.heap.size) (v := .slice none 0 0) (n := 0) (l := []) (World.ownsRow_nil _ _ _ _) (Nat.le_refl _) (IntKind.u64.wrap rm) (by rw [WR.out]; exact HUR.out) (by omega))
  have D0 : Hid (Below w.heap.size w w.drew) := Lib.hid (bdr w)
  clear hrm htu hE h hin fz own hn
  go_enter Try.func31, Try.ntmps31
  go_wp2_with fail
  refine wp_region_held_drew (S := fun w' => w'.cell? ⟨H, 0, none⟩ = some (.int .i64 rm) ∧ w'.cell? ⟨H, 2, none⟩ = some (.int .i64 tu)) (by kernel_rfl) ?_ (fun hHeld => ?_)
  · (try dsimp only); go_keep
  refine wpAnyH_take (i := 0) (oi := { dst := some 5, op := Go.Op.move (Go.Operand.tmp 0), type := 44, pos := _, after := #[], guard := none }) (v := ?va0) rfl (by kernel_rfl) (by kernel_rfl) (by kernel_rfl) (fun _ _ _ h => h) (Or.inl ⟨by rfl, ?hya0⟩) (by assumption) ?_
  case hya0 => (intro wz hSw; (try dsimp only at hSw); go_simp; try with_reducible rfl)
  (try simp only [Act.put, List.setIfInBounds_toArray, List.set_cons_zero, List.set_cons_succ])
  refine wpAnyH_take (i := 1) (oi := { dst := some 6, op := Go.Op.nilCheck (Go.Operand.tmp 5), type := 0, pos := _, after := #[{ on := 0, ground := Go.Ground.data }], guard := none }) (v := ?va1) rfl (by kernel_rfl) (by kernel_rfl) (by kernel_rfl) (fun _ _ _ h => h) (Or.inl ⟨by rfl, ?hya1⟩) (by assumption) ?_
  case hya1 => (intro wz hSw; (try dsimp only at hSw); go_simp; try with_reducible rfl)
  (try simp only [Act.put, List.setIfInBounds_toArray, List.set_cons_zero, List.set_cons_succ])
  refine wpAnyH_take (i := 2) (oi := { dst := some 7, op := Go.Op.fieldAddr 47 (Go.Operand.tmp 6) 0, type := 0, pos := _, after := #[{ on := 1, ground := Go.Ground.data }], guard := none }) (v := ?va2) rfl (by kernel_rfl) (by kernel_rfl) (by kernel_rfl) (fun _ _ _ h => h) (Or.inl ⟨by rfl, ?hya2⟩) (by assumption) ?_
  case hya2 => (intro wz hSw; (try dsimp only at hSw); go_simp; try with_reducible rfl)
  (try simp only [Act.put, List.setIfInBounds_toArray, List.set_cons_zero, List.set_cons_succ])
  refine wpAnyH_take (i := 3) (oi := { dst := some 8, op := Go.Op.load 3 (Go.Operand.tmp 7), type := 3, pos := _, after := #[{ on := 2, ground := Go.Ground.data }], guard := none }) (v := ?va3) rfl (by kernel_rfl) (by kernel_rfl) (by kernel_rfl) (fun _ _ _ h => h) (Or.inl ⟨by rfl, ?hya3⟩) (by assumption) ?_
  case hya3 => (intro wz hSw; (try dsimp only at hSw); go_simp; try with_reducible rfl)
  (try simp only [Act.put, List.setIfInBounds_toArray, List.set_cons_zero, List.set_cons_succ])
  refine wpAnyH_take (i := 4) (oi := { dst := some 9, op := Go.Op.convert 3 27 (Go.Operand.tmp 8), type := 27, pos := _, after := #[{ on := 3, ground := Go.Ground.data }], guard := none }) (v := ?va4) rfl (by kernel_rfl) (by kernel_rfl) (by kernel_rfl) (fun _ _ _ h => h) (Or.inl ⟨by rfl, ?hya4⟩) (by assumption) ?_
  case hya4 => (intro wz hSw; (try dsimp only at hSw); go_simp; try with_reducible rfl)
  (try simp only [Act.put, List.setIfInBounds_toArray, List.set_cons_zero, List.set_cons_succ])
  refine wpAnyH_take (i := 6) (oi := { dst := some 11, op := Go.Op.move (Go.Operand.tmp 0), type := 44, pos := _, after := #[], guard := none }) (v := ?va6) rfl (by kernel_rfl) (by kernel_rfl) (by kernel_rfl) (fun _ _ _ h => h) (Or.inl ⟨by rfl, ?hya6⟩) (by assumption) ?_
  case hya6 => (intro wz hSw; (try dsimp only at hSw); go_simp; try with_reducible rfl)
  (try simp only [Act.put, List.setIfInBounds_toArray, List.set_cons_zero, List.set_cons_succ])
  refine wpAnyH_take (i := 7) (oi := { dst := some 12, op := Go.Op.nilCheck (Go.Operand.tmp 11), type := 0, pos := _, after := #[{ on := 6, ground := Go.Ground.data }], guard := none }) (v := ?va7) rfl (by kernel_rfl) (by kernel_rfl) (by kernel_rfl) (fun _ _ _ h => h) (Or.inl ⟨by rfl, ?hya7⟩) (by assumption) ?_
  case hya7 => (intro wz hSw; (try dsimp only at hSw); go_simp; try with_reducible rfl)
  (try simp only [Act.put, List.setIfInBounds_toArray, List.set_cons_zero, List.set_cons_succ])
  refine wpAnyH_take (i := 8) (oi := { dst := some 13, op := Go.Op.fieldAddr 47 (Go.Operand.tmp 12) 2, type := 0, pos := _, after := #[{ on := 7, ground := Go.Ground.data }], guard := none }) (v := ?va8) rfl (by kernel_rfl) (by kernel_rfl) (by kernel_rfl) (fun _ _ _ h => h) (Or.inl ⟨by rfl, ?hya8⟩) (by assumption) ?_
  case hya8 => (intro wz hSw; (try dsimp only at hSw); go_simp; try with_reducible rfl)
  (try simp only [Act.put, List.setIfInBounds_toArray, List.set_cons_zero, List.set_cons_succ])
  refine wpAnyH_take (i := 9) (oi := { dst := some 14, op := Go.Op.load 3 (Go.Operand.tmp 13), type := 3, pos := _, after := #[{ on := 8, ground := Go.Ground.data }], guard := none }) (v := ?va9) rfl (by kernel_rfl) (by kernel_rfl) (by kernel_rfl) (fun _ _ _ h => h) (Or.inl ⟨by rfl, ?hya9⟩) (by assumption) ?_
  case hya9 => (intro wz hSw; (try dsimp only at hSw); go_simp; try with_reducible rfl)
  (try simp only [Act.put, List.setIfInBounds_toArray, List.set_cons_zero, List.set_cons_succ])
  refine wpAnyH_take (i := 10) (oi := { dst := some 15, op := Go.Op.convert 3 27 (Go.Operand.tmp 14), type := 27, pos := _, after := #[{ on := 9, ground := Go.Ground.data }], guard := none }) (v := ?va10) rfl (by kernel_rfl) (by kernel_rfl) (by kernel_rfl) (fun _ _ _ h => h) (Or.inl ⟨by rfl, ?hya10⟩) (by assumption) ?_
  case hya10 => (intro wz hSw; (try dsimp only at hSw); go_simp; try with_reducible rfl)
  (try simp only [Act.put, List.setIfInBounds_toArray, List.set_cons_zero, List.set_cons_succ])
  refine wpAnyH_ready (rs := [5]) (by kernel_rfl) (by simp) ?_
  refine AllReadyH.cons (o := { dst := some 10, op := Go.Op.call { callee := Go.Callee.value (Go.Operand.func 49), args := #[Go.Operand.const (Go.Value.slice none 0 0), Go.Operand.tmp 9], argTypes := #[40, 27] }, type := 40, pos := _, after := #[{ on := 4, ground := Go.Ground.data }], guard := none }) rfl (fun K hK => ?_) AllReadyH.nil
  go_simp
  refine E1.out.mono ?_; rintro e w2 ⟨v2, rfl, own2, fr2⟩
  have B2 : Hid (Below w.heap.size w w2) := Lib.hid (D0.out.trans (fr2.out.below (fun k hk => by simp [Value.ownBlock] at hk) D0.out.size))
  have E2 := Lib.hid (eight_any own2.out B2.out.size (IntKind.u64.wrap tu) (by rw [WT.out]; exact HUT.out) (by omega))
  obtain ⟨q0, q1, q2⟩ := A1C.out w2 B2.out
  go_wp2_with fail
  refine hK.out _ _ ?_ (fun hHeld => ?_)
  · (try dsimp only); go_keep
  clear hK K
  (try simp only [Act.put, List.setIfInBounds_toArray, List.set_cons_zero, List.set_cons_succ])
  refine wpAnyH_ready (rs := [11]) (by kernel_rfl) (by simp) ?_
  refine AllReadyH.cons (o := { dst := some 16, op := Go.Op.call { callee := Go.Callee.value (Go.Operand.func 49), args := #[Go.Operand.tmp 10, Go.Operand.tmp 15], argTypes := #[40, 27] }, type := 40, pos := _, after := #[{ on := 5, ground := Go.Ground.data }, { on := 10, ground := Go.Ground.data }, { on := 5, ground := Go.Ground.chain }], guard := none }) rfl (fun K hK => ?_) AllReadyH.nil
  go_simp
  refine E2.out.mono ?_; rintro e w3 ⟨v3, rfl, own3, fr3⟩
  have B3 : Hid (Below w.heap.size w w3) := Lib.hid (B2.out.trans (fr3.out.below (fun k hk => own_block_ge own2.out k hk) B2.out.size))
  obtain ⟨q0', q1', q2'⟩ := A1C.out w3 B3.out
  go_wp2_with fail
  refine hK.out _ _ ?_ (fun hHeld => ?_)
  · (try dsimp only); go_keep
  clear hK K
  (try simp only [Act.put, List.setIfInBounds_toArray, List.set_cons_zero, List.set_cons_succ])
  refine wpAnyH_take (i := 12) (oi := { dst := some 3, op := Go.Op.assign (Go.Operand.tmp 16), type := 40, pos := _, after := #[{ on := 11, ground := Go.Ground.data }, { on := 11, ground := Go.Ground.chain }, { on := 0, ground := Go.Ground.phase }, { on := 1, ground := Go.Ground.phase }, { on := 2, ground := Go.Ground.phase }, { on := 3, ground := Go.Ground.phase }, { on := 4, ground := Go.Ground.phase }, { on := 5, ground := Go.Ground.phase }, { on := 6, ground := Go.Ground.phase }, { on := 7, ground := Go.Ground.phase }, { on := 8, ground := Go.Ground.phase }, { on := 9, ground := Go.Ground.phase }, { on := 10, ground := Go.Ground.phase }, { on := 11, ground := Go.Ground.phase }], guard := none }) (v := ?vb12) rfl (by kernel_rfl) (by kernel_rfl) (by kernel_rfl) (fun _ _ _ h => h) (Or.inl ⟨by rfl, ?hyb12⟩) (by assumption) ?_
  case hyb12 => (intro wz hSw; (try dsimp only at hSw); go_simp; try with_reducible rfl)
  (try simp only [Act.put, List.setIfInBounds_toArray, List.set_cons_zero, List.set_cons_succ])
  refine wpAnyH_done (by kernel_rfl) ?_ _
  have OWN3 : Hid (w3.ownsRow w.heap.size 5 1 v3 (16 + 8 * 0) (wb (put8 rm ++ put8 tu ++ (m.ws.take 0).flatMap put8))) := Lib.hid (by have z := own3.out; rw [WR.out, WT.out] at z; simpa using z)
  clear E1 E2 own2 own3 fr2 fr3 hHeld
  go_wp2
  go_loopw [3, 4] (fun v i wr => ∃ (k : Nat), i = .int .i64 k ∧ k ≤ n ∧ Hid (wr.ownsRow w.heap.size 5 1 v (16 + 8 * k) (wb (put8 rm ++ put8 tu ++ (m.ws.take k).flatMap put8))) ∧ Hid (Below w.heap.size w wr)) (fun _ i _ => n - (intOf i).toNat)
  case atStart => exact ⟨0, rfl, by omega, OWN3, B3⟩
  case round =>
    obtain ⟨k, rfl, hk, OW, BW⟩ := hrel
    clear OWN3 B3
    obtain ⟨r0, r1, r2⟩ := A1C.out wr BW.out
    by_cases hkn : k < n
    · have hkl : k < m.ws.length := by have := HN.out; omega
      obtain ⟨b, off, rfl, hbl, hc⟩ := HIN.out.at (by omega)
      have hcc : wr.cell? ⟨b, off + k, none⟩ = some (.int .u64 m.ws[k]) := (BW.out.cell (p := ⟨b, off + k, none⟩) hbl).trans (hc k hkl)
      obtain ⟨x, hx⟩ : ∃ x, x = m.ws[k] := ⟨_, rfl⟩
      have HX := Lib.hid hx
      have HUX := Lib.hid (show U64 x from hx ▸ HR.out.full.wf _ (List.getElem_mem hkl))
      rw [← hx] at hcc
      have hkni : (k : Int) < (n : Int) := by omega
      have PX := Lib.hid (eight_any OW.out BW.out.size x HUX.out (by omega))
      clear hc hx
      go_wp2_with fail
      refine PX.out.mono ?_; rintro e w4 ⟨v4, rfl, own4, fr4⟩
      go_wp2
      go_roundw
      case rel =>
        refine ⟨k + 1, by go_num, by omega, Lib.hid ?_, Lib.hid (BW.out.trans (fr4.out.below (fun j hj => own_block_ge OW.out j hj) BW.out.size))⟩
        rw [enc_take hkl, ← HX.out, ← List.append_assoc]
        exact own4.out
      case measure => simp [intOf]; omega
    · obtain rfl : k = n := by omega
      have hkni : ¬ (k : Int) < (k : Int) := by omega
      have e : m.ws.take k = m.ws := List.take_of_length_le (by have := HN.out; omega)
      have OW2 : Hid (wr.ownsRow w.heap.size 5 1 u3 (16 + 8 * k) (wb (put8 rm ++ put8 tu ++ m.ws.flatMap put8))) := Lib.hid (by have z := OW.out; rwa [e] at z)
      clear OW e
      go_wp2
      go_ret
      refine ⟨u3, rfl, ?_, BW⟩
      rw [← HN.out]
      exact OW2
end Go.Proofs.Ytknpgmbniohcnaa
