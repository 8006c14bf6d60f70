import Derived.Test.YtknpgmbniohcnaaAw
namespace Go.Proofs.Ytknpgmbniohcnaa
open Go.ChangeShapes Go.WideShapes Go.ChangeAt Go.RowKit
set_option linter.unusedVariables false
def wb (l : List Int) : List Value := l.map (.int .u8)
theorem wb_len (l : List Int) : (wb l).length = l.length := by simp [wb]
theorem wb_app (a b : List Int) : wb (a ++ b) = wb a ++ wb b := by simp [wb]
theorem wb_at (l : List Int) (j : Nat) (h : j < l.length) : (wb l)[j]? = some (.int .u8 l[j]) := by simp [wb, List.getElem?_eq_getElem h]
def put8 (x : Int) : List Int := [x / 72057594037927936, x / 281474976710656 % 256, x / 1099511627776 % 256, x / 4294967296 % 256, x / 16777216 % 256, x / 65536 % 256, x / 256 % 256, x % 256]
theorem info5 : (Try.prog.info? 5).map (fun i => (i.zero, i.size, i.bytes)) = some (some (.int .u8 0), 1, 1) := by kernel_rfl
set_option maxRecDepth 100000 in
set_option maxHeartbeats 4000000 in
theorem put_any {w : World} {B n : Nat} {v : Value} {l : List Int} (own : w.ownsRow B 5 1 v n (wb l)) (hB : B ≤ w.heap.size) (x : Int) (hx : U64 x) (hn : n ≤ 1000000) :
    Calls Try.prog 42 #[v, .int .u64 x] w fun e w' => ∃ v', e = .returned v' ∧ Hid (w'.ownsRow B 5 1 v' (n + 8) (wb (l ++ put8 x))) ∧ Hid (Frm w w' (fun k => v.ownBlock = some k)) := by
  obtain ⟨k0, hk0, hz0, hz1, hz2⟩ := info_parts info5
  have OW := Lib.hid own
  have HB := Lib.hid hB
  obtain ⟨hx0, hx1⟩ := hx
  obtain ⟨A, c, rfl⟩ := vform own
  clear own hB
  go_enter Try.func42, Try.ntmps42
  go_wp2_with (at_builtin; refine wpList_append_own_at _ rfl (.tmp 5) (.tmp 29) 40 rfl B 5 k0 (.int .u8 0) 1 1 Try.underlying40 hk0 hz0 hz1 hz2 rfl (by decide) _ n (wb l) rfl (OW.out.alloc _) ⟨w.heap.size, 0, none⟩ 8 8 (wb (put8 x)) rfl rfl ?c1 ?c2 (by unfold maxLen; omega) (by omega) ?c3 ?_)
  case c1 => exact World.news_of_block (heap_alloc_new w _)
  case c2 => intro u hu; simp only [wb, List.mem_map] at hu; obtain ⟨_, _, rfl⟩ := hu; rfl
  case c3 => have := HB.out; show B ≤ (w.heap.push _).size; simp; omega
  intro v1 w1 own1 gr1 _ at1
  go_wp2
  go_ret
  refine ⟨v1, rfl, Lib.hid (by rw [wb_app]; exact own1), Lib.hid ((Frm.of_below (below_alloc w _) (Nat.le_refl _) _).trans (Frm.of_grown gr1 (fun k hk => hk)))⟩
theorem put8_len (x : Int) : (put8 x).length = 8 := rfl
def encM (m : Hm) : List Int := put8 m.room ++ put8 m.turns ++ m.ws.flatMap put8
theorem enc_len (l : List Int) : (l.flatMap put8).length = 8 * l.length := by
  induction l with
  | nil => rfl
  | cons a t ih => rw [List.flatMap_cons, List.length_append, ih, put8_len, List.length_cons]; omega
theorem enc_take {l : List Int} {k : Nat} (h : k < l.length) : (l.take (k + 1)).flatMap put8 = (l.take k).flatMap put8 ++ put8 l[k] := by
  rw [List.take_succ_eq_append_getElem h, List.flatMap_append]; simp
theorem own_block_ge {w : World} {B e n : Nat} {v : Value} {xs : List Value} (h : w.ownsRow B e 1 v n xs) (k : Nat) (hk : v.ownBlock = some k) : B ≤ k := (h.lt k hk).1
set_option maxRecDepth 100000 in
set_option maxHeartbeats 4000000 in
theorem putH_any {w : World} {B H o : Nat} {m : Hm} (h : HpAt w B H o m) :
    Calls Try.prog 19 #[.pointer (some ⟨H, o, none⟩)] w fun e w' => ∃ v', e = .returned v' ∧ Hid (w'.ownsRow w.heap.size 5 1 v' (16 + 8 * m.ws.length) (wb (encM m))) ∧ Hid (Below w.heap.size w w') := by
  obtain ⟨k0, hk0, hz0, hz1, hz2⟩ := info_parts info5
  obtain ⟨A1, c1, A2, c2, f0, f1, f2, f3, hw, hs⟩ := h.cells
  have HP := Lib.hid h
  have hlt := h.ok.lt
  have hlti : (m.ws.length : Int) ≤ 65536 := by omega
  have hr0 := h.ok.r0; have hr1 := h.ok.r1
  have ht0 := h.ok.t0; have ht1 := h.ok.t1
  have HW := Lib.hid hw
  obtain ⟨n, hn⟩ : ∃ n, n = m.ws.length := ⟨_, rfl⟩
  rw [← hn] at f2 f3 hlt hlti
  have HN := Lib.hid hn
  clear h hw hs hn
  have HPS := Lib.hid HP.out.lt
  have A1C : Hid (∀ W, Below w.heap.size w W → W.cell? ⟨H, o, none⟩ = some (.int .i64 m.room) ∧ W.cell? ⟨H, o + 1, none⟩ = some (.int .i64 m.turns) ∧ W.cell? ⟨H, o + 2, none⟩ = some (.slice A1 n c1)) := Lib.hid (fun W hb => ⟨(hb.cell (p := ⟨H, o, none⟩) HPS.out).trans f0, (hb.cell (p := ⟨H, o + 1, none⟩) HPS.out).trans f1, (hb.cell (p := ⟨H, o + 2, none⟩) HPS.out).trans f2⟩)
  have HUR := Lib.hid (show U64 m.room from ⟨by omega, by omega⟩)
  have HUT := Lib.hid (show U64 m.turns from ⟨by omega, by omega⟩)
  obtain ⟨rm, hrm⟩ : ∃ rm, rm = m.room := ⟨_, rfl⟩
  obtain ⟨tu, htu⟩ : ∃ tu, tu = m.turns := ⟨_, rfl⟩
  have hE : encM m = put8 rm ++ put8 tu ++ m.ws.flatMap put8 := by unfold encM; rw [hrm, htu]
  rw [hE]
  rw [← hrm] at f0 hr0 hr1 HUR A1C
  rw [← htu] at f1 ht0 ht1 HUT A1C
  clear hrm htu hE
  go_enter Try.func19, Try.ntmps19
  go_wp2_with (at_make; refine wpList_make_own _ rfl (.const (.int .i64 0)) (.tmp 12) 40 rfl w.heap.size 5 k0 (.int .u8 0) 1 Try.underlying40 hk0 hz0 hz1 .i64 .i64 (((n : Int) + 2) * 8) ((n + 2) * 8) rfl rfl (by push_cast; rfl) (by rw [hz2]; omega) (by unfold maxLen; omega) (Nat.le_refl _) ?_)
  intro w1 own1 gr1
  have B1 := Lib.hid (show Below w.heap.size w w1 from ⟨gr1.os, gr1.tape, gr1.output, gr1.size, fun i hi => gr1.block i hi (by simp)⟩)
  have P1 := Lib.hid (put_any (l := []) own1 B1.out.size rm HUR.out (by omega))
  obtain ⟨q0, q1, q2⟩ := A1C.out w1 B1.out
  clear f0 f1 f2 f3
  go_wp2_with fail
  refine P1.out.mono ?_; rintro e w2 ⟨v2, rfl, own2, fr2⟩
  have B2 := Lib.hid (B1.out.trans (fr2.out.below (fun k hk => own_block_ge own1 k hk) B1.out.size))
  have P2 := Lib.hid (put_any own2.out B2.out.size tu HUT.out (by omega))
  obtain ⟨q0', q1', q2'⟩ := A1C.out w2 B2.out
  clear q0 q1 q2 P1 own1 gr1
  go_wp2_with fail
  refine P2.out.mono ?_; rintro e w3 ⟨v3, rfl, own3, fr3⟩
  have B3 := Lib.hid (B2.out.trans (fr3.out.below (fun k hk => own_block_ge own2.out k hk) B2.out.size))
  obtain ⟨r0, r1, r2⟩ := A1C.out w3 B3.out
  have OWN3 : Hid (w3.ownsRow w.heap.size 5 1 v3 (16 + 8 * 0) (wb (put8 rm ++ put8 tu ++ (m.ws.take 0).flatMap put8))) := Lib.hid (by simpa using own3.out)
  clear q0' q1' q2' P2 own2 fr2 own3 fr3
  go_wp2
  go_loopw [3, 33] (fun v i wr => ∃ (k : Nat), i = .int .i64 k ∧ k ≤ n ∧ Hid (wr.ownsRow w.heap.size 5 1 v (16 + 8 * k) (wb (put8 rm ++ put8 tu ++ (m.ws.take k).flatMap put8))) ∧ Hid (Below w.heap.size w wr)) (fun _ i _ => n - (intOf i).toNat)
  case atStart => exact ⟨0, rfl, by omega, OWN3, B3⟩
  case round =>
    obtain ⟨k, rfl, hk, OW, BW⟩ := hrel
    clear OWN3 B3 r0 r1 r2
    by_cases hkn : k < n
    · have hkl : k < m.ws.length := by have := HN.out; omega
      obtain ⟨g, rfl, hc⟩ := HW.out k hkl
      have hgl : g < w.heap.size := World.block_lt_of_cell? w _ hc
      have hcc : wr.cell? ⟨g, k, none⟩ = some (.int .u64 m.ws[k]) := (BW.out.cell (p := ⟨g, k, none⟩) hgl).trans hc
      obtain ⟨x, hx⟩ : ∃ x, x = m.ws[k] := ⟨_, rfl⟩
      have HX := Lib.hid hx
      have HUX := Lib.hid (show U64 x from hx ▸ HP.out.ok.wf _ (List.getElem_mem hkl))
      rw [← hx] at hcc
      have hkni : (k : Int) < (n : Int) := by omega
      have PX := Lib.hid (put_any OW.out BW.out.size x HUX.out (by omega))
      clear hc hx hgl
      go_wp2_with fail
      refine PX.out.mono ?_; rintro e w4 ⟨v4, rfl, own4, fr4⟩
      go_wp2
      go_roundw
      case rel =>
        refine ⟨k + 1, by go_num, by omega, Lib.hid ?_, Lib.hid (BW.out.trans (fr4.out.below (fun j hj => own_block_ge OW.out j hj) BW.out.size))⟩
        rw [enc_take hkl, ← HX.out, ← List.append_assoc]
        exact own4.out
      case measure => simp [intOf]; omega
    · obtain rfl : k = n := by omega
      have hkni : ¬ (k : Int) < (k : Int) := by omega
      have e : m.ws.take k = m.ws := List.take_of_length_le (by have := HN.out; omega)
      have OW2 : Hid (wr.ownsRow w.heap.size 5 1 u3 (16 + 8 * k) (wb (put8 rm ++ put8 tu ++ m.ws.flatMap put8))) := Lib.hid (by have z := OW.out; rwa [e] at z)
      clear OW e
      go_wp2
      go_ret
      refine ⟨u3, rfl, ?_, BW⟩
      rw [← HN.out]
      exact OW2
end Go.Proofs.Ytknpgmbniohcnaa
