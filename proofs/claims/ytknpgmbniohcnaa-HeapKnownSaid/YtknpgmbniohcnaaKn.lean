import Derived.Test.YtknpgmbniohcnaaSo
namespace Go.Proofs.Ytknpgmbniohcnaa
open Go.ChangeShapes Go.WideShapes Go.ChangeAt Go.RowKit
set_option linter.unusedVariables false
set_option linter.unusedSimpArgs false
theorem upon_mono {P : Program} {ops : Array Oper} {Q : Exit → Act → World → Prop} {md : Region.Mode} {S S' : World → Prop} (hs : ∀ w, S' w → S w) : ∀ (fuel : Nat) (listed : Array Bool) (a : Act) (w : World), wpAnyH P md ops Q S' fuel listed a w → wpAnyH P md ops Q S fuel listed a w
  | 0, _, _, _, h => h
  | fuel + 1, _, _, _, h => ⟨h.1, fun i hi => wpOp_mono (fun a' w' h' => ⟨hs _ h'.1, upon_mono hs fuel _ a' w' h'.2⟩) (h.2 i hi)⟩
def k0 : Hm := emp 16
def k1 : Hm := makeM k0 3 0 [1]
def k2 : Hm := setM k1 0 0 0
def k3 : Hm := colM k2 [7, 0, 0]
def z14 : List Int := List.replicate 14 0
def t14 : List Int := List.replicate 14 3
theorem kA : makeV k0 4 0 [] = 0 ∧ makeE k0 4 0 [] = 1 ∧ makeV k0 1 0 [0] = 0 ∧ makeE k0 1 0 [0] = 1 ∧ makeV k0 3 0 [1] = 0 ∧ makeE k0 3 0 [1] = 0 := by decide +kernel
theorem kB : setE k1 0 0 0 = 0 ∧ makeV k2 1 0 z14 = 0 ∧ makeE k2 1 0 z14 = 8 ∧ makeV k2 1 0 t14 = 0 ∧ makeE k2 1 0 t14 = 8 ∧ getR k2 0 1 = (0, 1) ∧ getR k2 1 0 = (0, 4) ∧ setE k2 0 0 2 = 1 := by decide +kernel
theorem kC : colR k2 [7, 0, 0] = [7, 0, 0] ∧ headR k3 0 = (3, 0, 1, 0) ∧ getR k3 0 0 = (0, 0) ∧ k3.room = 16 := by decide +kernel
theorem kD : (loadF (encM k3)).map encM = some (encM k3) := by decide +kernel
theorem kE : loadF (List.replicate 20 0) = none := by
  unfold loadF; rw [if_neg (by decide +kernel)]
theorem own_as {w : World} {B e n : Nat} {v : Value} {xs ys : List Value} (h : w.ownsRow B e 1 v n xs) (he : xs = ys) : w.ownsRow B e 1 v n ys := he ▸ h
theorem make_no {m : Hm} {k t : Int} {xs : List Int} (h : makeE m k t xs ≠ 0) : makeM m k t xs = m := if_neg h
theorem set_no {m : Hm} {p i x : Int} (h : setE m p i x ≠ 0) : setM m p i x = m := if_neg h
theorem load_same {w : World} {A : Option Addr} {c : Nat} {m : Hm} (ok : m.Ok) (hi : InB w A c (encM m)) (hl : loadF (encM m) = none → False) : Calls Try.prog 18 #[.slice A (encM m).length c] w fun e w' => ∃ H2 m2, e = .returned (.tuple #[.pointer (some ⟨H2, 0, none⟩), .int .i64 0]) ∧ Hid (loadF (encM m) = some m2 ∧ HpAt w' w.heap.size H2 0 m2 ∧ Below w.heap.size w w') := by
  have hby := enc_byte (all_u64 ok)
  rw [← enc_all] at hby
  have hlt := ok.lt
  refine (load_any hi hby (by rw [encM_len]; omega)).mono fun e w' ⟨h1, h2⟩ => ?_
  rcases h1.out with ⟨h3, _⟩ | ⟨m2, H2, h3, h4, h5, h6⟩
  · exact (hl h3).elim
  · exact ⟨H2, m2, h5, Lib.hid ⟨h3, h6, h2.out⟩⟩
set_option maxRecDepth 100000 in
set_option maxHeartbeats 16000000 in
theorem known_walk (w : World) : Calls Try.prog 3 #[] w fun e w' => e = .returned (.bool true) ∧ Below w.heap.size w w' := by
  obtain ⟨i0, hi0, hz0, hz1, hz2⟩ := info_parts info28
  obtain ⟨j0, hj0, hy0, hy1, hy2⟩ := info_parts info5
  have AW := Lib.hid (awake_any w)
  have NB1 : Hid (∀ W, Calls Try.prog 10 #[.int .i64 15] W fun e w' => e = .returned (.tuple #[.pointer none, .int .i64 1]) ∧ W = w') := Lib.hid (fun W => new_bad W 15 (by decide))
  have NB2 : Hid (∀ W, Calls Try.prog 10 #[.int .i64 65537] W fun e w' => e = .returned (.tuple #[.pointer none, .int .i64 1]) ∧ W = w') := Lib.hid (fun W => new_bad W 65537 (by decide))
  have NW := Lib.hid (fun W => new_ok W 16 (by decide) (by decide))
  have N0 : Hid (∀ W, Calls Try.prog 13 #[.int .i64 0] W fun e w' => e = .returned (.int .u64 1) ∧ W = w') := Lib.hid (fun W => num_any 0 W)
  have N1 : Hid (∀ W, Calls Try.prog 13 #[.int .i64 1] W fun e w' => e = .returned (.int .u64 3) ∧ W = w') := Lib.hid (fun W => num_any 1 W)
  have N3 : Hid (∀ W, Calls Try.prog 13 #[.int .i64 3] W fun e w' => e = .returned (.int .u64 7) ∧ W = w') := Lib.hid (fun W => num_any 3 W)
  have P0 : Hid (∀ W, Calls Try.prog 12 #[.int .i64 0] W fun e w' => e = .returned (.int .u64 0) ∧ W = w') := Lib.hid (fun W => ptr_any 0 W)
  have P1 : Hid (∀ W, Calls Try.prog 12 #[.int .i64 1] W fun e w' => e = .returned (.int .u64 2) ∧ W = w') := Lib.hid (fun W => ptr_any 1 W)
  go_enter Try.func3, Try.ntmps3
  go_wp2_with fail
  refine AW.out.mono ?_; rintro e w1 ⟨rfl, hb1⟩
  have B1 := Lib.hid hb1
  clear AW hb1
  go_wp2_with fail
  refine (NB1.out _).mono ?_; rintro e w2 ⟨rfl, rfl⟩
  go_wp2_with fail
  refine (NB2.out _).mono ?_; rintro e w2 ⟨rfl, rfl⟩
  clear NB1 NB2
  go_wp2_with fail
  refine (NW.out _).mono ?_; rintro e w2 ⟨rfl, hp2, b2, -⟩
  clear NW
  have BB := Lib.hid (bt B1.out b2.out)
  obtain ⟨B, hB⟩ : ∃ B, B = w1.heap.size + 1 := ⟨_, rfl⟩
  rw [← hB] at hp2
  obtain ⟨H, hH⟩ : ∃ H, H = w1.heap.size := ⟨_, rfl⟩
  rw [← hH] at hp2 ⊢
  have HH : Hid (w.heap.size ≤ H ∧ w.heap.size ≤ B) := Lib.hid (by have := B1.out.size; omega)
  have T2 : Hid (HpAt w2 B H 0 k0) := hp2
  have C2 := BB
  clear hB hH b2 hp2 B1 BB
  have MK := Lib.hid (make_any T2.out (A := none) (c := 0) (k := 4) (t := 0) (xs := []) ⟨fun _ => ⟨rfl, rfl⟩, fun ad h => by cases h⟩ (fun k n c hk off e => by cases e) (fun x hx => by cases hx) (by decide))
  rw [kA.1, kA.2.1, make_no (show makeE k0 4 0 [] ≠ 0 by rw [kA.2.1]; decide)] at MK
  go_wp2_with fail
  refine MK.out.mono ?_; rintro e w3 ⟨rfl, T3, f3⟩
  have C3 := Lib.hid (C2.out.trans (frm_ge T2.out f3.out HH.out.1 HH.out.2 C2.out.size))
  clear MK f3 T2 C2
  have MK3 : Hid (Calls Try.prog 11 #[.pointer (some ⟨H, 0, none⟩), .int .i64 1, .int .i64 0, .slice (some ⟨w3.heap.size, 0, none⟩) 1 1] (w3.alloc (.cells #[.int .u64 0] 28)) fun e w' => e = .returned (.tuple #[.int .u64 0, .int .i64 1]) ∧ Hid (HpAt w' B H 0 k0) ∧ Hid (Frm w3 w' (HR w3 H 0))) := Lib.hid (by
    have z := make_new T3.out 1 0 [0] 1 (u64l (by decide)) (by decide)
    rw [kA.2.2.1, kA.2.2.2.1, make_no (show makeE k0 1 0 [0] ≠ 0 by rw [kA.2.2.2.1]; decide)] at z; exact z)
  go_wp2_with fail
  refine (P0.out _).mono ?_; rintro e w4 ⟨rfl, rfl⟩
  go_wp2_with fail
  refine MK3.out.mono ?_; rintro e w4 ⟨rfl, T4, f4⟩
  have C4 := Lib.hid (C3.out.trans (frm_ge T3.out f4.out HH.out.1 HH.out.2 C3.out.size))
  clear MK3 f4 T3 C3
  have MK4 : Hid (Calls Try.prog 11 #[.pointer (some ⟨H, 0, none⟩), .int .i64 3, .int .i64 0, .slice (some ⟨w4.heap.size, 0, none⟩) 1 1] (w4.alloc (.cells #[.int .u64 1] 28)) fun e w' => e = .returned (.tuple #[.int .u64 0, .int .i64 0]) ∧ Hid (HpAt w' B H 0 k1) ∧ Hid (Frm w4 w' (HR w4 H 0))) := Lib.hid (by
    have z := make_new T4.out 3 0 [1] 1 (u64l (by decide)) (by decide)
    rw [kA.2.2.2.2.1, kA.2.2.2.2.2] at z; exact z)
  go_wp2_with fail
  refine (N0.out _).mono ?_; rintro e w5 ⟨rfl, rfl⟩
  go_wp2_with fail
  refine MK4.out.mono ?_; rintro e w5 ⟨rfl, T5, f5⟩
  have C5 := Lib.hid (C4.out.trans (frm_ge T4.out f5.out HH.out.1 HH.out.2 C4.out.size))
  clear MK4 f5 T4 C4
  have SE : Hid (Calls Try.prog 14 #[.pointer (some ⟨H, 0, none⟩), .int .u64 0, .int .i64 0, .int .u64 0] w5 fun e w' => e = .returned (.int .i64 0) ∧ Hid (HpAt w' B H 0 k2) ∧ Hid (Frm w5 w' (HR w5 H 0))) := Lib.hid (by
    have z := set_any T5.out 0 0 0 ⟨by decide, by decide⟩ ⟨by decide, by decide⟩ (by decide) (by decide)
    rw [kB.1] at z; exact z)
  go_wp2_with fail
  refine SE.out.mono ?_; rintro e w6 ⟨rfl, T6, f6⟩
  have C6 := Lib.hid (C5.out.trans (frm_ge T5.out f6.out HH.out.1 HH.out.2 C5.out.size))
  clear SE f6 T5 C5
  go_wp2_with (at_make; refine wpList_make_full _ rfl (.const (.int .i64 14)) (.const (.int .i64 14)) 34 rfl w6.heap.size 28 i0 (.int .u64 0) 1 Try.underlying34 hi0 hz0 hz1 .i64 .i64 14 14 14 rfl rfl rfl rfl (by rw [hz2]; decide) (by decide) (Nat.le_refl _) ?_)
  intro w7 own7 gr7
  have B7 := Lib.hid (show Below w6.heap.size w6 w7 from ⟨gr7.os, gr7.tape, gr7.output, gr7.size, fun i hi => gr7.block i hi (by simp)⟩)
  have OW7 : Hid (w7.ownsRow w6.heap.size 28 1 (.slice (some ⟨w6.heap.size, 0, none⟩) 14 14) 14 (wd z14)) := Lib.hid (own_as own7 (by rw [toList_madeCells_one]; rfl))
  have MK := Lib.hid (make_own T6.out B7.out OW7.out 1 0 (xs := z14) (u64l (by decide)) (by decide))
  rw [kB.2.1, kB.2.2.1, make_no (show makeE k2 1 0 z14 ≠ 0 by rw [kB.2.2.1]; decide)] at MK
  clear own7 gr7
  go_wp2_with fail
  refine MK.out.mono ?_; rintro e w8 ⟨rfl, T8, f8⟩
  have C8 := Lib.hid (C6.out.trans (frm_ge T6.out f8.out HH.out.1 HH.out.2 C6.out.size))
  clear MK f8 T6 C6 B7 OW7
  have MK8 : Hid (Calls Try.prog 11 #[.pointer (some ⟨H, 0, none⟩), .int .i64 1, .int .i64 0, .slice (some ⟨w8.heap.size, 0, none⟩) 14 14] (w8.alloc (.cells #[.int .u64 3, .int .u64 3, .int .u64 3, .int .u64 3, .int .u64 3, .int .u64 3, .int .u64 3, .int .u64 3, .int .u64 3, .int .u64 3, .int .u64 3, .int .u64 3, .int .u64 3, .int .u64 3] 28)) fun e w' => e = .returned (.tuple #[.int .u64 0, .int .i64 8]) ∧ Hid (HpAt w' B H 0 k2) ∧ Hid (Frm w8 w' (HR w8 H 0))) := Lib.hid (by
    have z := make_new T8.out 1 0 t14 14 (u64l (by decide)) (by decide)
    rw [kB.2.2.2.1, kB.2.2.2.2.1, make_no (show makeE k2 1 0 t14 ≠ 0 by rw [kB.2.2.2.2.1]; decide)] at z; exact z)
  go_wp2_with fail
  refine (N1.out _).mono ?_; rintro e w9 ⟨rfl, rfl⟩
  go_wp2_with fail
  refine (N1.out _).mono ?_; rintro e w9 ⟨rfl, rfl⟩
  go_wp2_with fail
  refine (N1.out _).mono ?_; rintro e w9 ⟨rfl, rfl⟩
  go_wp2_with fail
  refine (N1.out _).mono ?_; rintro e w9 ⟨rfl, rfl⟩
  go_wp2_with fail
  refine (N1.out _).mono ?_; rintro e w9 ⟨rfl, rfl⟩
  go_wp2_with fail
  refine (N1.out _).mono ?_; rintro e w9 ⟨rfl, rfl⟩
  go_wp2_with fail
  refine (N1.out _).mono ?_; rintro e w9 ⟨rfl, rfl⟩
  go_wp2_with fail
  refine (N1.out _).mono ?_; rintro e w9 ⟨rfl, rfl⟩
  go_wp2_with fail
  refine (N1.out _).mono ?_; rintro e w9 ⟨rfl, rfl⟩
  go_wp2_with fail
  refine (N1.out _).mono ?_; rintro e w9 ⟨rfl, rfl⟩
  go_wp2_with fail
  refine (N1.out _).mono ?_; rintro e w9 ⟨rfl, rfl⟩
  go_wp2_with fail
  refine (N1.out _).mono ?_; rintro e w9 ⟨rfl, rfl⟩
  go_wp2_with fail
  refine (N1.out _).mono ?_; rintro e w9 ⟨rfl, rfl⟩
  go_wp2_with fail
  refine (N1.out _).mono ?_; rintro e w9 ⟨rfl, rfl⟩
  go_wp2_with fail
  refine MK8.out.mono ?_; rintro e w9 ⟨rfl, T9, f9⟩
  have C9 := Lib.hid (C8.out.trans (frm_ge T8.out f9.out HH.out.1 HH.out.2 C8.out.size))
  clear MK8 f9 T8 C8
  have GT : Hid (Calls Try.prog 15 #[.pointer (some ⟨H, 0, none⟩), .int .u64 0, .int .i64 1] w9 fun e w' => e = .returned (.tuple #[.int .u64 0, .int .i64 1]) ∧ w9 = w') := Lib.hid (by
    have z := get_any T9.out 0 1 ⟨by decide, by decide⟩ (by decide) (by decide)
    rw [kB.2.2.2.2.2.1] at z; exact z)
  have GT2 : Hid (Calls Try.prog 15 #[.pointer (some ⟨H, 0, none⟩), .int .u64 1, .int .i64 0] w9 fun e w' => e = .returned (.tuple #[.int .u64 0, .int .i64 4]) ∧ w9 = w') := Lib.hid (by
    have z := get_any T9.out 1 0 ⟨by decide, by decide⟩ (by decide) (by decide)
    rw [kB.2.2.2.2.2.2.1] at z; exact z)
  have SE : Hid (Calls Try.prog 14 #[.pointer (some ⟨H, 0, none⟩), .int .u64 0, .int .i64 0, .int .u64 2] w9 fun e w' => e = .returned (.int .i64 1) ∧ Hid (HpAt w' B H 0 k2) ∧ Hid (Frm w9 w' (HR w9 H 0))) := Lib.hid (by
    have z := set_any T9.out 0 0 2 ⟨by decide, by decide⟩ ⟨by decide, by decide⟩ (by decide) (by decide)
    rw [kB.2.2.2.2.2.2.2, set_no (show setE k2 0 0 2 ≠ 0 by rw [kB.2.2.2.2.2.2.2]; decide)] at z; exact z)
  go_wp2_with fail
  refine GT.out.mono ?_; rintro e w10 ⟨rfl, rfl⟩
  clear GT
  go_wp2_with fail
  refine (N0.out _).mono ?_; rintro e w10 ⟨rfl, rfl⟩
  go_wp2_with fail
  refine GT2.out.mono ?_; rintro e w10 ⟨rfl, rfl⟩
  clear GT2
  go_wp2_with fail
  refine (P1.out _).mono ?_; rintro e w10 ⟨rfl, rfl⟩
  go_wp2_with fail
  refine SE.out.mono ?_; rintro e w10 ⟨rfl, T10, f10⟩
  have C10 := Lib.hid (C9.out.trans (frm_ge T9.out f10.out HH.out.1 HH.out.2 C9.out.size))
  clear SE f10 T9 C9
  have CO : Hid (Calls Try.prog 16 #[.pointer (some ⟨H, 0, none⟩), .slice (some ⟨w10.heap.size, 0, none⟩) 3 3] (w10.alloc (.cells #[.int .u64 7, .int .u64 0, .int .u64 0] 28)) fun e w' => ∃ O, e = .returned (.slice (some ⟨O, 0, none⟩) 3 3) ∧ Hid (HpAt w' B H 0 k3 ∧ Below w.heap.size w w' ∧ w'.cell? ⟨O, 0, none⟩ = some (.int .u64 7) ∧ w'.cell? ⟨O, 1, none⟩ = some (.int .u64 0) ∧ w'.cell? ⟨O, 2, none⟩ = some (.int .u64 0))) := Lib.hid (by
    have z := collect_any (T10.out.below (below_alloc w10 _)) (inW_new w10 [7, 0, 0] 3) (u64l (by decide)) (by decide)
    refine z.mono fun e w' ⟨O, h1, h2⟩ => ⟨O, h1, Lib.hid ⟨h2.out.1, (C10.out.trans ((below_alloc w10 _).mono C10.out.size)).trans (h2.out.2.1.below (fun k hk => by have := HH.out.1; omega) (Nat.le_trans C10.out.size (below_alloc w10 _).size)), ?_, ?_, ?_⟩⟩
    all_goals (have q0 := h2.out.2.2.1.cellAt 0 (by decide); have q1 := h2.out.2.2.1.cellAt 1 (by decide); have q2 := h2.out.2.2.1.cellAt 2 (by decide); rw [kC.1] at q0 q1 q2; first | exact q0 | exact q1 | exact q2))
  go_wp2_with fail
  refine (N3.out _).mono ?_; rintro e w11 ⟨rfl, rfl⟩
  go_wp2_with fail
  refine CO.out.mono ?_; rintro e w11 ⟨O, rfl, h11⟩
  clear CO T10 C10
  have HD : Hid (Calls Try.prog 17 #[.pointer (some ⟨H, 0, none⟩), .int .u64 0] w11 fun e w' => e = .returned (.tuple #[.int .i64 3, .int .i64 0, .int .i64 1, .int .i64 0]) ∧ w11 = w') := Lib.hid (by
    have z := hhead_any h11.out.1 0 ⟨by decide, by decide⟩
    rw [kC.2.1] at z; exact z)
  have GT : Hid (Calls Try.prog 15 #[.pointer (some ⟨H, 0, none⟩), .int .u64 0, .int .i64 0] w11 fun e w' => e = .returned (.tuple #[.int .u64 0, .int .i64 0]) ∧ w11 = w') := Lib.hid (by
    have z := get_any h11.out.1 0 0 ⟨by decide, by decide⟩ (by decide) (by decide)
    rw [kC.2.2.1] at z; exact z)
  have PU := Lib.hid (putH_any h11.out.1)
  go_wp2_with fail
  refine (P0.out _).mono ?_; rintro e w12 ⟨rfl, rfl⟩
  go_wp2_with fail
  refine HD.out.mono ?_; rintro e w12 ⟨rfl, rfl⟩
  clear HD
  go_wp2_with fail
  refine (P0.out _).mono ?_; rintro e w12 ⟨rfl, rfl⟩
  go_wp2_with fail
  refine GT.out.mono ?_; rintro e w12 ⟨rfl, rfl⟩
  clear GT
  go_wp2_with fail
  refine PU.out.mono ?_; rintro e w12 ⟨v12, rfl, own12, b12⟩
  clear PU
  obtain ⟨A12, c12, rfl, hi12, hl12⟩ := own_inB own12.out
  have LD := Lib.hid (load_same h11.out.1.ok hi12 (fun h => by have := kD; rw [h] at this; cases this))
  rw [hl12] at LD
  have HP12 := Lib.hid (h11.out.1.below b12.out)
  have B12 := Lib.hid (h11.out.2.1.trans (b12.out.mono h11.out.2.1.size))
  have OC12 : Hid (∀ W, Below w12.heap.size w12 W → W.cell? ⟨O, 0, none⟩ = some (.int .u64 7) ∧ W.cell? ⟨O, 1, none⟩ = some (.int .u64 0) ∧ W.cell? ⟨O, 2, none⟩ = some (.int .u64 0)) := Lib.hid (fun W hW => by
    have hO := World.block_lt_of_cell? w11 _ h11.out.2.2.1
    have bb := bt b12.out hW
    exact ⟨(bb.cell (p := ⟨O, 0, none⟩) hO).trans h11.out.2.2.1, (bb.cell (p := ⟨O, 1, none⟩) hO).trans h11.out.2.2.2.1, (bb.cell (p := ⟨O, 2, none⟩) hO).trans h11.out.2.2.2.2⟩)
  clear hi12 hl12 own12 b12 h11
  go_wp2_with fail
  refine LD.out.mono ?_; rintro e w13 ⟨H2, m2, rfl, h13⟩
  clear LD
  have EM : Hid (encM m2 = encM k3) := Lib.hid (by have := kD; rw [h13.out.1] at this; simpa using this)
  go_wp2_with (at_make; refine wpList_make_full _ rfl (.const (.int .i64 20)) (.const (.int .i64 20)) 40 rfl w13.heap.size 5 j0 (.int .u8 0) 1 Try.underlying40 hj0 hy0 hy1 .i64 .i64 20 20 20 rfl rfl rfl rfl (by rw [hy2]; decide) (by decide) (Nat.le_refl _) ?_)
  intro w14 own14 gr14
  have B14 := Lib.hid (show Below w13.heap.size w13 w14 from ⟨gr14.os, gr14.tape, gr14.output, gr14.size, fun i hi => gr14.block i hi (by simp)⟩)
  have OW14 : Hid (w14.ownsRow w13.heap.size 5 1 (.slice (some ⟨w13.heap.size, 0, none⟩) 20 20) 20 (wb (List.replicate 20 0))) := Lib.hid (own_as own14 (by rw [toList_madeCells_one]; rfl))
  have LD : Hid (Calls Try.prog 18 #[.slice (some ⟨w13.heap.size, 0, none⟩) 20 20] w14 fun e w' => e = .returned (.tuple #[.pointer none, .int .i64 3]) ∧ Hid (Below w14.heap.size w14 w')) := Lib.hid (by
    obtain ⟨A, c, e, hi, hl⟩ := own_inB OW14.out
    injection e with e1 e2 e3
    subst e1 e3
    refine (load_any hi (fun x hx => by rw [List.eq_of_mem_replicate hx]; exact ⟨by decide, by decide⟩) (by decide)).mono fun e w' ⟨h1, h2⟩ => ⟨?_, h2⟩
    rcases h1.out with ⟨_, h4⟩ | ⟨m3, H3, h3, _⟩
    · exact h4
    · rw [kE] at h3; cases h3)
  clear own14 gr14
  go_wp2_with fail
  refine LD.out.mono ?_; rintro e w15 ⟨rfl, b15⟩
  have bw := bt (bt h13.out.2.2 B14.out) b15.out
  have HPH : Hid (HpAt w15.drew B H 0 k3) := Lib.hid (HP12.out.below (bt bw (bdr w15)))
  have HPX : Hid (HpAt w15.drew w12.heap.size H2 0 m2) := Lib.hid (h13.out.2.1.below (bt (bt B14.out b15.out) (bdr w15)))
  have BF : Hid (Below w.heap.size w w15.drew) := Lib.hid (B12.out.trans ((bt bw (bdr w15)).mono B12.out.size))
  obtain ⟨q0, q1, q2⟩ := OC12.out w15 bw
  obtain ⟨SS, hSS⟩ : ∃ SS, SS = strOfNums (encM k3) := ⟨_, rfl⟩
  have ESS := Lib.hid hSS
  have P1X : Hid (Calls Try.prog 19 #[.pointer (some ⟨H2, 0, none⟩)] w15.drew fun e w' => ∃ v', e = .returned v' ∧ Hid ((∀ W, Below w'.heap.size w' W → (convert 40 9 v').run Try.prog W = .ok (.string SS) W) ∧ Below w15.drew.heap.size w15.drew w')) := Lib.hid (by
    refine (putH_any HPX.out).mono fun e w' ⟨v', h1, h2, h3⟩ => ⟨v', h1, Lib.hid ⟨fun W hW => ?_, h3.out⟩⟩
    have ow : W.ownsRow w15.drew.heap.size 5 1 v' (16 + 8 * m2.ws.length) (wb (encM m2)) := own_frm h2.out (R := fun k => w'.heap.size ≤ k) (Frm.of_below hW (Nat.le_refl _) _) (fun k hk hr => by have := (h2.out.lt k hk).2; omega)
    rw [ESS.out, ← EM.out]
    exact str_own ow)
  clear hSS EM LD OW14 bw B14 b15 h13 OC12 B12 HP12 HPX
  go_wp2_with fail
  refine wp_region_held_drew (S := fun w' => w'.cell? ⟨O, 0, none⟩ = some (.int .u64 7) ∧ w'.cell? ⟨O, 1, none⟩ = some (.int .u64 0) ∧ w'.cell? ⟨O, 2, none⟩ = some (.int .u64 0)) (by kernel_rfl) ?_ (fun hHeld => ?_)
  · (try dsimp only); go_keep
  refine wpAnyH_take (i := 0) (oi := { dst := some 144, op := Go.Op.move (Go.Operand.tmp 2), type := 24, pos := _, after := #[], guard := none }) (v := ?va0) rfl (by kernel_rfl) (by kernel_rfl) (by kernel_rfl) (fun _ _ _ h => h) (Or.inl ⟨by rfl, ?hya0⟩) (by assumption) ?_
  case hya0 => (intro wz hSw; (try dsimp only at hSw); go_simp; try with_reducible rfl)
  (try simp only [Act.put, List.setIfInBounds_toArray, List.set_cons_zero, List.set_cons_succ])
  refine wpAnyH_take (i := 1) (oi := { dst := some 145, op := Go.Op.binOp Go.BinOp.eql 24 (Go.Operand.tmp 144) (Go.Operand.const (Go.Value.int Go.IntKind.i64 1)) 24, type := 4, pos := _, after := #[{ on := 0, ground := Go.Ground.data }], guard := none }) (v := ?va1) rfl (by kernel_rfl) (by kernel_rfl) (by kernel_rfl) (fun _ _ _ h => h) (Or.inl ⟨by rfl, ?hya1⟩) (by assumption) ?_
  case hya1 => (intro wz hSw; (try dsimp only at hSw); go_simp; try with_reducible rfl)
  (try simp only [Act.put, List.setIfInBounds_toArray, List.set_cons_zero, List.set_cons_succ])
  refine wpAnyH_take (i := 2) (oi := { dst := some 146, op := Go.Op.move (Go.Operand.tmp 145), type := 4, pos := _, after := #[{ on := 1, ground := Go.Ground.data }], guard := none }) (v := ?va2) rfl (by kernel_rfl) (by kernel_rfl) (by kernel_rfl) (fun _ _ _ h => h) (Or.inl ⟨by rfl, ?hya2⟩) (by assumption) ?_
  case hya2 => (intro wz hSw; (try dsimp only at hSw); go_simp; try with_reducible rfl)
  (try simp only [Act.put, List.setIfInBounds_toArray, List.set_cons_zero, List.set_cons_succ])
  refine wpAnyH_take (i := 3) (oi := { dst := some 147, op := Go.Op.move (Go.Operand.tmp 4), type := 24, pos := _, after := #[{ on := 2, ground := Go.Ground.guard }], guard := some (2, true) }) (v := ?va3) rfl (by kernel_rfl) (by kernel_rfl) (by kernel_rfl) (fun _ _ _ h => h) (Or.inl ⟨by rfl, ?hya3⟩) (by assumption) ?_
  case hya3 => (intro wz hSw; (try dsimp only at hSw); go_simp; try with_reducible rfl)
  (try simp only [Act.put, List.setIfInBounds_toArray, List.set_cons_zero, List.set_cons_succ])
  refine wpAnyH_take (i := 4) (oi := { dst := some 148, op := Go.Op.binOp Go.BinOp.eql 24 (Go.Operand.tmp 147) (Go.Operand.const (Go.Value.int Go.IntKind.i64 1)) 24, type := 4, pos := _, after := #[{ on := 3, ground := Go.Ground.data }, { on := 2, ground := Go.Ground.guard }], guard := some (2, true) }) (v := ?va4) rfl (by kernel_rfl) (by kernel_rfl) (by kernel_rfl) (fun _ _ _ h => h) (Or.inl ⟨by rfl, ?hya4⟩) (by assumption) ?_
  case hya4 => (intro wz hSw; (try dsimp only at hSw); go_simp; try with_reducible rfl)
  (try simp only [Act.put, List.setIfInBounds_toArray, List.set_cons_zero, List.set_cons_succ])
  refine wpAnyH_take (i := 5) (oi := { dst := some 149, op := Go.Op.pick (Go.Operand.tmp 146) (Go.Operand.tmp 148) (Go.Operand.const (Go.Value.bool false)), type := 4, pos := _, after := #[{ on := 2, ground := Go.Ground.data }, { on := 4, ground := Go.Ground.data }], guard := none }) (v := ?va5) rfl (by kernel_rfl) (by kernel_rfl) (by kernel_rfl) (fun _ _ _ h => h) (Or.inl ⟨by rfl, ?hya5⟩) (by assumption) ?_
  case hya5 => (intro wz hSw; (try dsimp only at hSw); go_simp; try with_reducible rfl)
  (try simp only [Act.put, List.setIfInBounds_toArray, List.set_cons_zero, List.set_cons_succ])
  refine wpAnyH_take (i := 6) (oi := { dst := some 150, op := Go.Op.move (Go.Operand.tmp 149), type := 4, pos := _, after := #[{ on := 5, ground := Go.Ground.data }, { on := 2, ground := Go.Ground.chain }], guard := none }) (v := ?va6) rfl (by kernel_rfl) (by kernel_rfl) (by kernel_rfl) (fun _ _ _ h => h) (Or.inl ⟨by rfl, ?hya6⟩) (by assumption) ?_
  case hya6 => (intro wz hSw; (try dsimp only at hSw); go_simp; try with_reducible rfl)
  (try simp only [Act.put, List.setIfInBounds_toArray, List.set_cons_zero, List.set_cons_succ])
  refine wpAnyH_take (i := 7) (oi := { dst := some 151, op := Go.Op.move (Go.Operand.tmp 8), type := 24, pos := _, after := #[{ on := 6, ground := Go.Ground.guard }], guard := some (6, true) }) (v := ?va7) rfl (by kernel_rfl) (by kernel_rfl) (by kernel_rfl) (fun _ _ _ h => h) (Or.inl ⟨by rfl, ?hya7⟩) (by assumption) ?_
  case hya7 => (intro wz hSw; (try dsimp only at hSw); go_simp; try with_reducible rfl)
  (try simp only [Act.put, List.setIfInBounds_toArray, List.set_cons_zero, List.set_cons_succ])
  refine wpAnyH_take (i := 8) (oi := { dst := some 152, op := Go.Op.binOp Go.BinOp.eql 24 (Go.Operand.tmp 151) (Go.Operand.const (Go.Value.int Go.IntKind.i64 1)) 24, type := 4, pos := _, after := #[{ on := 7, ground := Go.Ground.data }, { on := 6, ground := Go.Ground.guard }], guard := some (6, true) }) (v := ?va8) rfl (by kernel_rfl) (by kernel_rfl) (by kernel_rfl) (fun _ _ _ h => h) (Or.inl ⟨by rfl, ?hya8⟩) (by assumption) ?_
  case hya8 => (intro wz hSw; (try dsimp only at hSw); go_simp; try with_reducible rfl)
  (try simp only [Act.put, List.setIfInBounds_toArray, List.set_cons_zero, List.set_cons_succ])
  refine wpAnyH_take (i := 9) (oi := { dst := some 153, op := Go.Op.pick (Go.Operand.tmp 150) (Go.Operand.tmp 152) (Go.Operand.const (Go.Value.bool false)), type := 4, pos := _, after := #[{ on := 6, ground := Go.Ground.data }, { on := 8, ground := Go.Ground.data }], guard := none }) (v := ?va9) rfl (by kernel_rfl) (by kernel_rfl) (by kernel_rfl) (fun _ _ _ h => h) (Or.inl ⟨by rfl, ?hya9⟩) (by assumption) ?_
  case hya9 => (intro wz hSw; (try dsimp only at hSw); go_simp; try with_reducible rfl)
  (try simp only [Act.put, List.setIfInBounds_toArray, List.set_cons_zero, List.set_cons_succ])
  refine wpAnyH_take (i := 10) (oi := { dst := some 154, op := Go.Op.move (Go.Operand.tmp 153), type := 4, pos := _, after := #[{ on := 9, ground := Go.Ground.data }, { on := 6, ground := Go.Ground.chain }], guard := none }) (v := ?va10) rfl (by kernel_rfl) (by kernel_rfl) (by kernel_rfl) (fun _ _ _ h => h) (Or.inl ⟨by rfl, ?hya10⟩) (by assumption) ?_
  case hya10 => (intro wz hSw; (try dsimp only at hSw); go_simp; try with_reducible rfl)
  (try simp only [Act.put, List.setIfInBounds_toArray, List.set_cons_zero, List.set_cons_succ])
  refine wpAnyH_take (i := 11) (oi := { dst := some 155, op := Go.Op.move (Go.Operand.tmp 10), type := 24, pos := _, after := #[{ on := 10, ground := Go.Ground.guard }], guard := some (10, true) }) (v := ?va11) rfl (by kernel_rfl) (by kernel_rfl) (by kernel_rfl) (fun _ _ _ h => h) (Or.inl ⟨by rfl, ?hya11⟩) (by assumption) ?_
  case hya11 => (intro wz hSw; (try dsimp only at hSw); go_simp; try with_reducible rfl)
  (try simp only [Act.put, List.setIfInBounds_toArray, List.set_cons_zero, List.set_cons_succ])
  as_aux_lemma =>
    refine wpAnyH_take (i := 12) (oi := { dst := some 156, op := Go.Op.binOp Go.BinOp.eql 24 (Go.Operand.tmp 155) (Go.Operand.const (Go.Value.int Go.IntKind.i64 1)) 24, type := 4, pos := _, after := #[{ on := 11, ground := Go.Ground.data }, { on := 10, ground := Go.Ground.guard }], guard := some (10, true) }) (v := ?va12) rfl (by kernel_rfl) (by kernel_rfl) (by kernel_rfl) (fun _ _ _ h => h) (Or.inl ⟨by rfl, ?hya12⟩) (by assumption) ?_
    case hya12 => (intro wz hSw; (try dsimp only at hSw); go_simp; try with_reducible rfl)
    (try simp only [Act.put, List.setIfInBounds_toArray, List.set_cons_zero, List.set_cons_succ])
    refine wpAnyH_take (i := 13) (oi := { dst := some 157, op := Go.Op.pick (Go.Operand.tmp 154) (Go.Operand.tmp 156) (Go.Operand.const (Go.Value.bool false)), type := 4, pos := _, after := #[{ on := 10, ground := Go.Ground.data }, { on := 12, ground := Go.Ground.data }], guard := none }) (v := ?va13) rfl (by kernel_rfl) (by kernel_rfl) (by kernel_rfl) (fun _ _ _ h => h) (Or.inl ⟨by rfl, ?hya13⟩) (by assumption) ?_
    case hya13 => (intro wz hSw; (try dsimp only at hSw); go_simp; try with_reducible rfl)
    (try simp only [Act.put, List.setIfInBounds_toArray, List.set_cons_zero, List.set_cons_succ])
    refine wpAnyH_take (i := 14) (oi := { dst := some 158, op := Go.Op.move (Go.Operand.tmp 157), type := 4, pos := _, after := #[{ on := 13, ground := Go.Ground.data }, { on := 10, ground := Go.Ground.chain }], guard := none }) (v := ?va14) rfl (by kernel_rfl) (by kernel_rfl) (by kernel_rfl) (fun _ _ _ h => h) (Or.inl ⟨by rfl, ?hya14⟩) (by assumption) ?_
    case hya14 => (intro wz hSw; (try dsimp only at hSw); go_simp; try with_reducible rfl)
    (try simp only [Act.put, List.setIfInBounds_toArray, List.set_cons_zero, List.set_cons_succ])
    refine wpAnyH_take (i := 15) (oi := { dst := some 159, op := Go.Op.move (Go.Operand.tmp 12), type := 24, pos := _, after := #[{ on := 14, ground := Go.Ground.guard }], guard := some (14, true) }) (v := ?va15) rfl (by kernel_rfl) (by kernel_rfl) (by kernel_rfl) (fun _ _ _ h => h) (Or.inl ⟨by rfl, ?hya15⟩) (by assumption) ?_
    case hya15 => (intro wz hSw; (try dsimp only at hSw); go_simp; try with_reducible rfl)
    (try simp only [Act.put, List.setIfInBounds_toArray, List.set_cons_zero, List.set_cons_succ])
    refine wpAnyH_take (i := 16) (oi := { dst := some 160, op := Go.Op.binOp Go.BinOp.eql 24 (Go.Operand.tmp 159) (Go.Operand.const (Go.Value.int Go.IntKind.i64 0)) 24, type := 4, pos := _, after := #[{ on := 15, ground := Go.Ground.data }, { on := 14, ground := Go.Ground.guard }], guard := some (14, true) }) (v := ?va16) rfl (by kernel_rfl) (by kernel_rfl) (by kernel_rfl) (fun _ _ _ h => h) (Or.inl ⟨by rfl, ?hya16⟩) (by assumption) ?_
    case hya16 => (intro wz hSw; (try dsimp only at hSw); go_simp; try with_reducible rfl)
    (try simp only [Act.put, List.setIfInBounds_toArray, List.set_cons_zero, List.set_cons_succ])
    refine wpAnyH_take (i := 17) (oi := { dst := some 161, op := Go.Op.pick (Go.Operand.tmp 158) (Go.Operand.tmp 160) (Go.Operand.const (Go.Value.bool false)), type := 4, pos := _, after := #[{ on := 14, ground := Go.Ground.data }, { on := 16, ground := Go.Ground.data }], guard := none }) (v := ?va17) rfl (by kernel_rfl) (by kernel_rfl) (by kernel_rfl) (fun _ _ _ h => h) (Or.inl ⟨by rfl, ?hya17⟩) (by assumption) ?_
    case hya17 => (intro wz hSw; (try dsimp only at hSw); go_simp; try with_reducible rfl)
    (try simp only [Act.put, List.setIfInBounds_toArray, List.set_cons_zero, List.set_cons_succ])
    refine wpAnyH_take (i := 18) (oi := { dst := some 162, op := Go.Op.move (Go.Operand.tmp 161), type := 4, pos := _, after := #[{ on := 17, ground := Go.Ground.data }, { on := 14, ground := Go.Ground.chain }], guard := none }) (v := ?va18) rfl (by kernel_rfl) (by kernel_rfl) (by kernel_rfl) (fun _ _ _ h => h) (Or.inl ⟨by rfl, ?hya18⟩) (by assumption) ?_
    case hya18 => (intro wz hSw; (try dsimp only at hSw); go_simp; try with_reducible rfl)
    (try simp only [Act.put, List.setIfInBounds_toArray, List.set_cons_zero, List.set_cons_succ])
    refine wpAnyH_take (i := 19) (oi := { dst := some 163, op := Go.Op.move (Go.Operand.tmp 13), type := 24, pos := _, after := #[{ on := 18, ground := Go.Ground.guard }], guard := some (18, true) }) (v := ?va19) rfl (by kernel_rfl) (by kernel_rfl) (by kernel_rfl) (fun _ _ _ h => h) (Or.inl ⟨by rfl, ?hya19⟩) (by assumption) ?_
    case hya19 => (intro wz hSw; (try dsimp only at hSw); go_simp; try with_reducible rfl)
    (try simp only [Act.put, List.setIfInBounds_toArray, List.set_cons_zero, List.set_cons_succ])
    refine wpAnyH_take (i := 20) (oi := { dst := some 164, op := Go.Op.binOp Go.BinOp.eql 24 (Go.Operand.tmp 163) (Go.Operand.const (Go.Value.int Go.IntKind.i64 0)) 24, type := 4, pos := _, after := #[{ on := 19, ground := Go.Ground.data }, { on := 18, ground := Go.Ground.guard }], guard := some (18, true) }) (v := ?va20) rfl (by kernel_rfl) (by kernel_rfl) (by kernel_rfl) (fun _ _ _ h => h) (Or.inl ⟨by rfl, ?hya20⟩) (by assumption) ?_
    case hya20 => (intro wz hSw; (try dsimp only at hSw); go_simp; try with_reducible rfl)
    (try simp only [Act.put, List.setIfInBounds_toArray, List.set_cons_zero, List.set_cons_succ])
    refine wpAnyH_take (i := 21) (oi := { dst := some 165, op := Go.Op.pick (Go.Operand.tmp 162) (Go.Operand.tmp 164) (Go.Operand.const (Go.Value.bool false)), type := 4, pos := _, after := #[{ on := 18, ground := Go.Ground.data }, { on := 20, ground := Go.Ground.data }], guard := none }) (v := ?va21) rfl (by kernel_rfl) (by kernel_rfl) (by kernel_rfl) (fun _ _ _ h => h) (Or.inl ⟨by rfl, ?hya21⟩) (by assumption) ?_
    case hya21 => (intro wz hSw; (try dsimp only at hSw); go_simp; try with_reducible rfl)
    (try simp only [Act.put, List.setIfInBounds_toArray, List.set_cons_zero, List.set_cons_succ])
    refine wpAnyH_take (i := 22) (oi := { dst := some 166, op := Go.Op.move (Go.Operand.tmp 165), type := 4, pos := _, after := #[{ on := 21, ground := Go.Ground.data }, { on := 18, ground := Go.Ground.chain }], guard := none }) (v := ?va22) rfl (by kernel_rfl) (by kernel_rfl) (by kernel_rfl) (fun _ _ _ h => h) (Or.inl ⟨by rfl, ?hya22⟩) (by assumption) ?_
    case hya22 => (intro wz hSw; (try dsimp only at hSw); go_simp; try with_reducible rfl)
    (try simp only [Act.put, List.setIfInBounds_toArray, List.set_cons_zero, List.set_cons_succ])
    refine wpAnyH_take (i := 23) (oi := { dst := some 167, op := Go.Op.move (Go.Operand.tmp 15), type := 24, pos := _, after := #[{ on := 22, ground := Go.Ground.guard }], guard := some (22, true) }) (v := ?va23) rfl (by kernel_rfl) (by kernel_rfl) (by kernel_rfl) (fun _ _ _ h => h) (Or.inl ⟨by rfl, ?hya23⟩) (by assumption) ?_
    case hya23 => (intro wz hSw; (try dsimp only at hSw); go_simp; try with_reducible rfl)
    (try simp only [Act.put, List.setIfInBounds_toArray, List.set_cons_zero, List.set_cons_succ])
    as_aux_lemma =>
      refine wpAnyH_take (i := 24) (oi := { dst := some 168, op := Go.Op.binOp Go.BinOp.eql 24 (Go.Operand.tmp 167) (Go.Operand.const (Go.Value.int Go.IntKind.i64 8)) 24, type := 4, pos := _, after := #[{ on := 23, ground := Go.Ground.data }, { on := 22, ground := Go.Ground.guard }], guard := some (22, true) }) (v := ?va24) rfl (by kernel_rfl) (by kernel_rfl) (by kernel_rfl) (fun _ _ _ h => h) (Or.inl ⟨by rfl, ?hya24⟩) (by assumption) ?_
      case hya24 => (intro wz hSw; (try dsimp only at hSw); go_simp; try with_reducible rfl)
      (try simp only [Act.put, List.setIfInBounds_toArray, List.set_cons_zero, List.set_cons_succ])
      refine wpAnyH_take (i := 25) (oi := { dst := some 169, op := Go.Op.pick (Go.Operand.tmp 166) (Go.Operand.tmp 168) (Go.Operand.const (Go.Value.bool false)), type := 4, pos := _, after := #[{ on := 22, ground := Go.Ground.data }, { on := 24, ground := Go.Ground.data }], guard := none }) (v := ?va25) rfl (by kernel_rfl) (by kernel_rfl) (by kernel_rfl) (fun _ _ _ h => h) (Or.inl ⟨by rfl, ?hya25⟩) (by assumption) ?_
      case hya25 => (intro wz hSw; (try dsimp only at hSw); go_simp; try with_reducible rfl)
      (try simp only [Act.put, List.setIfInBounds_toArray, List.set_cons_zero, List.set_cons_succ])
      refine wpAnyH_take (i := 26) (oi := { dst := some 170, op := Go.Op.move (Go.Operand.tmp 169), type := 4, pos := _, after := #[{ on := 25, ground := Go.Ground.data }, { on := 22, ground := Go.Ground.chain }], guard := none }) (v := ?va26) rfl (by kernel_rfl) (by kernel_rfl) (by kernel_rfl) (fun _ _ _ h => h) (Or.inl ⟨by rfl, ?hya26⟩) (by assumption) ?_
      case hya26 => (intro wz hSw; (try dsimp only at hSw); go_simp; try with_reducible rfl)
      (try simp only [Act.put, List.setIfInBounds_toArray, List.set_cons_zero, List.set_cons_succ])
      refine wpAnyH_take (i := 27) (oi := { dst := some 171, op := Go.Op.move (Go.Operand.tmp 17), type := 24, pos := _, after := #[{ on := 26, ground := Go.Ground.guard }], guard := some (26, true) }) (v := ?va27) rfl (by kernel_rfl) (by kernel_rfl) (by kernel_rfl) (fun _ _ _ h => h) (Or.inl ⟨by rfl, ?hya27⟩) (by assumption) ?_
      case hya27 => (intro wz hSw; (try dsimp only at hSw); go_simp; try with_reducible rfl)
      (try simp only [Act.put, List.setIfInBounds_toArray, List.set_cons_zero, List.set_cons_succ])
      refine wpAnyH_take (i := 28) (oi := { dst := some 172, op := Go.Op.binOp Go.BinOp.eql 24 (Go.Operand.tmp 171) (Go.Operand.const (Go.Value.int Go.IntKind.i64 8)) 24, type := 4, pos := _, after := #[{ on := 27, ground := Go.Ground.data }, { on := 26, ground := Go.Ground.guard }], guard := some (26, true) }) (v := ?va28) rfl (by kernel_rfl) (by kernel_rfl) (by kernel_rfl) (fun _ _ _ h => h) (Or.inl ⟨by rfl, ?hya28⟩) (by assumption) ?_
      case hya28 => (intro wz hSw; (try dsimp only at hSw); go_simp; try with_reducible rfl)
      (try simp only [Act.put, List.setIfInBounds_toArray, List.set_cons_zero, List.set_cons_succ])
      refine wpAnyH_take (i := 29) (oi := { dst := some 173, op := Go.Op.pick (Go.Operand.tmp 170) (Go.Operand.tmp 172) (Go.Operand.const (Go.Value.bool false)), type := 4, pos := _, after := #[{ on := 26, ground := Go.Ground.data }, { on := 28, ground := Go.Ground.data }], guard := none }) (v := ?va29) rfl (by kernel_rfl) (by kernel_rfl) (by kernel_rfl) (fun _ _ _ h => h) (Or.inl ⟨by rfl, ?hya29⟩) (by assumption) ?_
      case hya29 => (intro wz hSw; (try dsimp only at hSw); go_simp; try with_reducible rfl)
      (try simp only [Act.put, List.setIfInBounds_toArray, List.set_cons_zero, List.set_cons_succ])
      refine wpAnyH_take (i := 30) (oi := { dst := some 174, op := Go.Op.move (Go.Operand.tmp 173), type := 4, pos := _, after := #[{ on := 29, ground := Go.Ground.data }, { on := 26, ground := Go.Ground.chain }], guard := none }) (v := ?va30) rfl (by kernel_rfl) (by kernel_rfl) (by kernel_rfl) (fun _ _ _ h => h) (Or.inl ⟨by rfl, ?hya30⟩) (by assumption) ?_
      case hya30 => (intro wz hSw; (try dsimp only at hSw); go_simp; try with_reducible rfl)
      (try simp only [Act.put, List.setIfInBounds_toArray, List.set_cons_zero, List.set_cons_succ])
      refine wpAnyH_take (i := 31) (oi := { dst := some 175, op := Go.Op.move (Go.Operand.tmp 19), type := 24, pos := _, after := #[{ on := 30, ground := Go.Ground.guard }], guard := some (30, true) }) (v := ?va31) rfl (by kernel_rfl) (by kernel_rfl) (by kernel_rfl) (fun _ _ _ h => h) (Or.inl ⟨by rfl, ?hya31⟩) (by assumption) ?_
      case hya31 => (intro wz hSw; (try dsimp only at hSw); go_simp; try with_reducible rfl)
      (try simp only [Act.put, List.setIfInBounds_toArray, List.set_cons_zero, List.set_cons_succ])
      refine wpAnyH_take (i := 32) (oi := { dst := some 176, op := Go.Op.binOp Go.BinOp.eql 24 (Go.Operand.tmp 175) (Go.Operand.const (Go.Value.int Go.IntKind.i64 1)) 24, type := 4, pos := _, after := #[{ on := 31, ground := Go.Ground.data }, { on := 30, ground := Go.Ground.guard }], guard := some (30, true) }) (v := ?va32) rfl (by kernel_rfl) (by kernel_rfl) (by kernel_rfl) (fun _ _ _ h => h) (Or.inl ⟨by rfl, ?hya32⟩) (by assumption) ?_
      case hya32 => (intro wz hSw; (try dsimp only at hSw); go_simp; try with_reducible rfl)
      (try simp only [Act.put, List.setIfInBounds_toArray, List.set_cons_zero, List.set_cons_succ])
      refine wpAnyH_take (i := 33) (oi := { dst := some 177, op := Go.Op.pick (Go.Operand.tmp 174) (Go.Operand.tmp 176) (Go.Operand.const (Go.Value.bool false)), type := 4, pos := _, after := #[{ on := 30, ground := Go.Ground.data }, { on := 32, ground := Go.Ground.data }], guard := none }) (v := ?va33) rfl (by kernel_rfl) (by kernel_rfl) (by kernel_rfl) (fun _ _ _ h => h) (Or.inl ⟨by rfl, ?hya33⟩) (by assumption) ?_
      case hya33 => (intro wz hSw; (try dsimp only at hSw); go_simp; try with_reducible rfl)
      (try simp only [Act.put, List.setIfInBounds_toArray, List.set_cons_zero, List.set_cons_succ])
      refine wpAnyH_take (i := 34) (oi := { dst := some 178, op := Go.Op.move (Go.Operand.tmp 177), type := 4, pos := _, after := #[{ on := 33, ground := Go.Ground.data }, { on := 30, ground := Go.Ground.chain }], guard := none }) (v := ?va34) rfl (by kernel_rfl) (by kernel_rfl) (by kernel_rfl) (fun _ _ _ h => h) (Or.inl ⟨by rfl, ?hya34⟩) (by assumption) ?_
      case hya34 => (intro wz hSw; (try dsimp only at hSw); go_simp; try with_reducible rfl)
      (try simp only [Act.put, List.setIfInBounds_toArray, List.set_cons_zero, List.set_cons_succ])
      refine wpAnyH_take (i := 35) (oi := { dst := some 179, op := Go.Op.move (Go.Operand.tmp 21), type := 24, pos := _, after := #[{ on := 34, ground := Go.Ground.guard }], guard := some (34, true) }) (v := ?va35) rfl (by kernel_rfl) (by kernel_rfl) (by kernel_rfl) (fun _ _ _ h => h) (Or.inl ⟨by rfl, ?hya35⟩) (by assumption) ?_
      case hya35 => (intro wz hSw; (try dsimp only at hSw); go_simp; try with_reducible rfl)
      (try simp only [Act.put, List.setIfInBounds_toArray, List.set_cons_zero, List.set_cons_succ])
      as_aux_lemma =>
        refine wpAnyH_take (i := 36) (oi := { dst := some 180, op := Go.Op.binOp Go.BinOp.eql 24 (Go.Operand.tmp 179) (Go.Operand.const (Go.Value.int Go.IntKind.i64 4)) 24, type := 4, pos := _, after := #[{ on := 35, ground := Go.Ground.data }, { on := 34, ground := Go.Ground.guard }], guard := some (34, true) }) (v := ?va36) rfl (by kernel_rfl) (by kernel_rfl) (by kernel_rfl) (fun _ _ _ h => h) (Or.inl ⟨by rfl, ?hya36⟩) (by assumption) ?_
        case hya36 => (intro wz hSw; (try dsimp only at hSw); go_simp; try with_reducible rfl)
        (try simp only [Act.put, List.setIfInBounds_toArray, List.set_cons_zero, List.set_cons_succ])
        refine wpAnyH_take (i := 37) (oi := { dst := some 181, op := Go.Op.pick (Go.Operand.tmp 178) (Go.Operand.tmp 180) (Go.Operand.const (Go.Value.bool false)), type := 4, pos := _, after := #[{ on := 34, ground := Go.Ground.data }, { on := 36, ground := Go.Ground.data }], guard := none }) (v := ?va37) rfl (by kernel_rfl) (by kernel_rfl) (by kernel_rfl) (fun _ _ _ h => h) (Or.inl ⟨by rfl, ?hya37⟩) (by assumption) ?_
        case hya37 => (intro wz hSw; (try dsimp only at hSw); go_simp; try with_reducible rfl)
        (try simp only [Act.put, List.setIfInBounds_toArray, List.set_cons_zero, List.set_cons_succ])
        refine wpAnyH_take (i := 38) (oi := { dst := some 182, op := Go.Op.move (Go.Operand.tmp 181), type := 4, pos := _, after := #[{ on := 37, ground := Go.Ground.data }, { on := 34, ground := Go.Ground.chain }], guard := none }) (v := ?va38) rfl (by kernel_rfl) (by kernel_rfl) (by kernel_rfl) (fun _ _ _ h => h) (Or.inl ⟨by rfl, ?hya38⟩) (by assumption) ?_
        case hya38 => (intro wz hSw; (try dsimp only at hSw); go_simp; try with_reducible rfl)
        (try simp only [Act.put, List.setIfInBounds_toArray, List.set_cons_zero, List.set_cons_succ])
        refine wpAnyH_take (i := 39) (oi := { dst := some 183, op := Go.Op.move (Go.Operand.tmp 22), type := 24, pos := _, after := #[{ on := 38, ground := Go.Ground.guard }], guard := some (38, true) }) (v := ?va39) rfl (by kernel_rfl) (by kernel_rfl) (by kernel_rfl) (fun _ _ _ h => h) (Or.inl ⟨by rfl, ?hya39⟩) (by assumption) ?_
        case hya39 => (intro wz hSw; (try dsimp only at hSw); go_simp; try with_reducible rfl)
        (try simp only [Act.put, List.setIfInBounds_toArray, List.set_cons_zero, List.set_cons_succ])
        refine wpAnyH_take (i := 40) (oi := { dst := some 184, op := Go.Op.binOp Go.BinOp.eql 24 (Go.Operand.tmp 183) (Go.Operand.const (Go.Value.int Go.IntKind.i64 1)) 24, type := 4, pos := _, after := #[{ on := 39, ground := Go.Ground.data }, { on := 38, ground := Go.Ground.guard }], guard := some (38, true) }) (v := ?va40) rfl (by kernel_rfl) (by kernel_rfl) (by kernel_rfl) (fun _ _ _ h => h) (Or.inl ⟨by rfl, ?hya40⟩) (by assumption) ?_
        case hya40 => (intro wz hSw; (try dsimp only at hSw); go_simp; try with_reducible rfl)
        (try simp only [Act.put, List.setIfInBounds_toArray, List.set_cons_zero, List.set_cons_succ])
        refine wpAnyH_take (i := 41) (oi := { dst := some 185, op := Go.Op.pick (Go.Operand.tmp 182) (Go.Operand.tmp 184) (Go.Operand.const (Go.Value.bool false)), type := 4, pos := _, after := #[{ on := 38, ground := Go.Ground.data }, { on := 40, ground := Go.Ground.data }], guard := none }) (v := ?va41) rfl (by kernel_rfl) (by kernel_rfl) (by kernel_rfl) (fun _ _ _ h => h) (Or.inl ⟨by rfl, ?hya41⟩) (by assumption) ?_
        case hya41 => (intro wz hSw; (try dsimp only at hSw); go_simp; try with_reducible rfl)
        (try simp only [Act.put, List.setIfInBounds_toArray, List.set_cons_zero, List.set_cons_succ])
        refine wpAnyH_take (i := 42) (oi := { dst := some 186, op := Go.Op.move (Go.Operand.tmp 185), type := 4, pos := _, after := #[{ on := 41, ground := Go.Ground.data }, { on := 38, ground := Go.Ground.chain }], guard := none }) (v := ?va42) rfl (by kernel_rfl) (by kernel_rfl) (by kernel_rfl) (fun _ _ _ h => h) (Or.inl ⟨by rfl, ?hya42⟩) (by assumption) ?_
        case hya42 => (intro wz hSw; (try dsimp only at hSw); go_simp; try with_reducible rfl)
        (try simp only [Act.put, List.setIfInBounds_toArray, List.set_cons_zero, List.set_cons_succ])
        refine wpAnyH_take (i := 43) (oi := { dst := some 187, op := Go.Op.move (Go.Operand.tmp 23), type := 34, pos := _, after := #[{ on := 42, ground := Go.Ground.guard }], guard := some (42, true) }) (v := ?va43) rfl (by kernel_rfl) (by kernel_rfl) (by kernel_rfl) (fun _ _ _ h => h) (Or.inl ⟨by rfl, ?hya43⟩) (by assumption) ?_
        case hya43 => (intro wz hSw; (try dsimp only at hSw); go_simp; try with_reducible rfl)
        (try simp only [Act.put, List.setIfInBounds_toArray, List.set_cons_zero, List.set_cons_succ])
        refine wpAnyH_take (i := 44) (oi := { dst := some 188, op := Go.Op.call { callee := Go.Callee.builtin Go.Builtin.len, args := #[Go.Operand.tmp 187], argTypes := #[34] }, type := 3, pos := _, after := #[{ on := 43, ground := Go.Ground.data }, { on := 42, ground := Go.Ground.guard }], guard := some (42, true) }) (v := ?va44) rfl (by kernel_rfl) (by kernel_rfl) (by kernel_rfl) (fun _ _ _ h => h) (Or.inl ⟨by rfl, ?hya44⟩) (by assumption) ?_
        case hya44 => (intro wz hSw; (try dsimp only at hSw); go_simp; try with_reducible rfl)
        (try simp only [Act.put, List.setIfInBounds_toArray, List.set_cons_zero, List.set_cons_succ])
        refine wpAnyH_take (i := 45) (oi := { dst := some 189, op := Go.Op.binOp Go.BinOp.eql 3 (Go.Operand.tmp 188) (Go.Operand.const (Go.Value.int Go.IntKind.i64 3)) 3, type := 4, pos := _, after := #[{ on := 44, ground := Go.Ground.data }, { on := 42, ground := Go.Ground.guard }], guard := some (42, true) }) (v := ?va45) rfl (by kernel_rfl) (by kernel_rfl) (by kernel_rfl) (fun _ _ _ h => h) (Or.inl ⟨by rfl, ?hya45⟩) (by assumption) ?_
        case hya45 => (intro wz hSw; (try dsimp only at hSw); go_simp; try with_reducible rfl)
        (try simp only [Act.put, List.setIfInBounds_toArray, List.set_cons_zero, List.set_cons_succ])
        refine wpAnyH_take (i := 46) (oi := { dst := some 190, op := Go.Op.pick (Go.Operand.tmp 186) (Go.Operand.tmp 189) (Go.Operand.const (Go.Value.bool false)), type := 4, pos := _, after := #[{ on := 42, ground := Go.Ground.data }, { on := 45, ground := Go.Ground.data }], guard := none }) (v := ?va46) rfl (by kernel_rfl) (by kernel_rfl) (by kernel_rfl) (fun _ _ _ h => h) (Or.inl ⟨by rfl, ?hya46⟩) (by assumption) ?_
        case hya46 => (intro wz hSw; (try dsimp only at hSw); go_simp; try with_reducible rfl)
        (try simp only [Act.put, List.setIfInBounds_toArray, List.set_cons_zero, List.set_cons_succ])
        refine wpAnyH_take (i := 47) (oi := { dst := some 191, op := Go.Op.move (Go.Operand.tmp 190), type := 4, pos := _, after := #[{ on := 46, ground := Go.Ground.data }, { on := 42, ground := Go.Ground.chain }], guard := none }) (v := ?va47) rfl (by kernel_rfl) (by kernel_rfl) (by kernel_rfl) (fun _ _ _ h => h) (Or.inl ⟨by rfl, ?hya47⟩) (by assumption) ?_
        case hya47 => (intro wz hSw; (try dsimp only at hSw); go_simp; try with_reducible rfl)
        (try simp only [Act.put, List.setIfInBounds_toArray, List.set_cons_zero, List.set_cons_succ])
        as_aux_lemma =>
          refine wpAnyH_take (i := 48) (oi := { dst := some 192, op := Go.Op.move (Go.Operand.tmp 23), type := 34, pos := _, after := #[{ on := 47, ground := Go.Ground.guard }], guard := some (47, true) }) (v := ?va48) rfl (by kernel_rfl) (by kernel_rfl) (by kernel_rfl) (fun _ _ _ h => h) (Or.inl ⟨by rfl, ?hya48⟩) (by assumption) ?_
          case hya48 => (intro wz hSw; (try dsimp only at hSw); go_simp; try with_reducible rfl)
          (try simp only [Act.put, List.setIfInBounds_toArray, List.set_cons_zero, List.set_cons_succ])
          refine wpAnyH_take (i := 49) (oi := { dst := some 193, op := Go.Op.indexAddr 34 (Go.Operand.tmp 192) (Go.Operand.const (Go.Value.int Go.IntKind.i64 0)), type := 0, pos := _, after := #[{ on := 48, ground := Go.Ground.data }, { on := 47, ground := Go.Ground.guard }], guard := some (47, true) }) (v := ?va49) rfl (by kernel_rfl) (by kernel_rfl) (by kernel_rfl) (fun _ _ _ h => h) (Or.inl ⟨by rfl, ?hya49⟩) (by assumption) ?_
          case hya49 => (intro wz hSw; (try dsimp only at hSw); go_simp; try with_reducible rfl)
          (try simp only [Act.put, List.setIfInBounds_toArray, List.set_cons_zero, List.set_cons_succ])
          refine wpAnyH_take (i := 50) (oi := { dst := some 194, op := Go.Op.load 28 (Go.Operand.tmp 193), type := 28, pos := _, after := #[{ on := 49, ground := Go.Ground.data }, { on := 47, ground := Go.Ground.guard }], guard := some (47, true) }) (v := ?va50) rfl (by kernel_rfl) (by kernel_rfl) (by kernel_rfl) (fun _ _ _ h => h) (Or.inl ⟨by rfl, ?hya50⟩) (by assumption) ?_
          case hya50 => (intro wz hSw; (try dsimp only at hSw); go_simp; try with_reducible rfl)
          (try simp only [Act.put, List.setIfInBounds_toArray, List.set_cons_zero, List.set_cons_succ])
          refine wpAnyH_ready (rs := [51]) (by kernel_rfl) (by simp) ?_
          refine AllReadyH.cons (o := { dst := some 195, op := Go.Op.call { callee := Go.Callee.value (Go.Operand.func 13), args := #[Go.Operand.const (Go.Value.int Go.IntKind.i64 3)], argTypes := #[2] }, type := 28, pos := _, after := #[{ on := 47, ground := Go.Ground.chain }, { on := 47, ground := Go.Ground.guard }], guard := some (47, true) }) rfl (fun K hK => ?_) AllReadyH.nil
          rw [if_pos (by rfl)]
          go_simp
          refine (N3.out _).mono ?_; rintro e w16 ⟨rfl, rfl⟩
          go_wp2_with fail
          refine hK.out _ _ ?_ (fun hHeld => ?_)
          · (try dsimp only); go_keep
          clear hK K
          (try simp only [Act.put, List.setIfInBounds_toArray, List.set_cons_zero, List.set_cons_succ])
          refine wpAnyH_take (i := 52) (oi := { dst := some 196, op := Go.Op.binOp Go.BinOp.eql 28 (Go.Operand.tmp 194) (Go.Operand.tmp 195) 28, type := 4, pos := _, after := #[{ on := 50, ground := Go.Ground.data }, { on := 51, ground := Go.Ground.data }, { on := 47, ground := Go.Ground.guard }], guard := some (47, true) }) (v := ?va52) rfl (by kernel_rfl) (by kernel_rfl) (by kernel_rfl) (fun _ _ _ h => h) (Or.inl ⟨by rfl, ?hya52⟩) (by assumption) ?_
          case hya52 => (intro wz hSw; (try dsimp only at hSw); go_simp; try with_reducible rfl)
          (try simp only [Act.put, List.setIfInBounds_toArray, List.set_cons_zero, List.set_cons_succ])
          refine wpAnyH_take (i := 53) (oi := { dst := some 197, op := Go.Op.pick (Go.Operand.tmp 191) (Go.Operand.tmp 196) (Go.Operand.const (Go.Value.bool false)), type := 4, pos := _, after := #[{ on := 47, ground := Go.Ground.data }, { on := 52, ground := Go.Ground.data }], guard := none }) (v := ?va53) rfl (by kernel_rfl) (by kernel_rfl) (by kernel_rfl) (fun _ _ _ h => h) (Or.inl ⟨by rfl, ?hya53⟩) (by assumption) ?_
          case hya53 => (intro wz hSw; (try dsimp only at hSw); go_simp; try with_reducible rfl)
          (try simp only [Act.put, List.setIfInBounds_toArray, List.set_cons_zero, List.set_cons_succ])
          refine wpAnyH_take (i := 54) (oi := { dst := some 198, op := Go.Op.move (Go.Operand.tmp 197), type := 4, pos := _, after := #[{ on := 53, ground := Go.Ground.data }, { on := 51, ground := Go.Ground.chain }], guard := none }) (v := ?va54) rfl (by kernel_rfl) (by kernel_rfl) (by kernel_rfl) (fun _ _ _ h => h) (Or.inl ⟨by rfl, ?hya54⟩) (by assumption) ?_
          case hya54 => (intro wz hSw; (try dsimp only at hSw); go_simp; try with_reducible rfl)
          (try simp only [Act.put, List.setIfInBounds_toArray, List.set_cons_zero, List.set_cons_succ])
          refine wpAnyH_take (i := 55) (oi := { dst := some 199, op := Go.Op.move (Go.Operand.tmp 23), type := 34, pos := _, after := #[{ on := 54, ground := Go.Ground.guard }], guard := some (54, true) }) (v := ?va55) rfl (by kernel_rfl) (by kernel_rfl) (by kernel_rfl) (fun _ _ _ h => h) (Or.inl ⟨by rfl, ?hya55⟩) (by assumption) ?_
          case hya55 => (intro wz hSw; (try dsimp only at hSw); go_simp; try with_reducible rfl)
          (try simp only [Act.put, List.setIfInBounds_toArray, List.set_cons_zero, List.set_cons_succ])
          refine wpAnyH_take (i := 56) (oi := { dst := some 200, op := Go.Op.indexAddr 34 (Go.Operand.tmp 199) (Go.Operand.const (Go.Value.int Go.IntKind.i64 1)), type := 0, pos := _, after := #[{ on := 55, ground := Go.Ground.data }, { on := 54, ground := Go.Ground.guard }], guard := some (54, true) }) (v := ?va56) rfl (by kernel_rfl) (by kernel_rfl) (by kernel_rfl) (fun _ _ _ h => h) (Or.inl ⟨by rfl, ?hya56⟩) (by assumption) ?_
          case hya56 => (intro wz hSw; (try dsimp only at hSw); go_simp; try with_reducible rfl)
          (try simp only [Act.put, List.setIfInBounds_toArray, List.set_cons_zero, List.set_cons_succ])
          refine wpAnyH_take (i := 57) (oi := { dst := some 201, op := Go.Op.load 28 (Go.Operand.tmp 200), type := 28, pos := _, after := #[{ on := 56, ground := Go.Ground.data }, { on := 54, ground := Go.Ground.guard }], guard := some (54, true) }) (v := ?va57) rfl (by kernel_rfl) (by kernel_rfl) (by kernel_rfl) (fun _ _ _ h => h) (Or.inl ⟨by rfl, ?hya57⟩) (by assumption) ?_
          case hya57 => (intro wz hSw; (try dsimp only at hSw); go_simp; try with_reducible rfl)
          (try simp only [Act.put, List.setIfInBounds_toArray, List.set_cons_zero, List.set_cons_succ])
          refine wpAnyH_ready (rs := [58]) (by kernel_rfl) (by simp) ?_
          refine AllReadyH.cons (o := { dst := some 202, op := Go.Op.call { callee := Go.Callee.value (Go.Operand.func 12), args := #[Go.Operand.const (Go.Value.int Go.IntKind.i64 0)], argTypes := #[3] }, type := 28, pos := _, after := #[{ on := 54, ground := Go.Ground.chain }, { on := 54, ground := Go.Ground.guard }], guard := some (54, true) }) rfl (fun K hK => ?_) AllReadyH.nil
          rw [if_pos (by rfl)]
          go_simp
          refine (P0.out _).mono ?_; rintro e w16 ⟨rfl, rfl⟩
          go_wp2_with fail
          refine hK.out _ _ ?_ (fun hHeld => ?_)
          · (try dsimp only); go_keep
          clear hK K
          (try simp only [Act.put, List.setIfInBounds_toArray, List.set_cons_zero, List.set_cons_succ])
          refine wpAnyH_take (i := 59) (oi := { dst := some 203, op := Go.Op.binOp Go.BinOp.eql 28 (Go.Operand.tmp 201) (Go.Operand.tmp 202) 28, type := 4, pos := _, after := #[{ on := 57, ground := Go.Ground.data }, { on := 58, ground := Go.Ground.data }, { on := 54, ground := Go.Ground.guard }], guard := some (54, true) }) (v := ?va59) rfl (by kernel_rfl) (by kernel_rfl) (by kernel_rfl) (fun _ _ _ h => h) (Or.inl ⟨by rfl, ?hya59⟩) (by assumption) ?_
          case hya59 => (intro wz hSw; (try dsimp only at hSw); go_simp; try with_reducible rfl)
          (try simp only [Act.put, List.setIfInBounds_toArray, List.set_cons_zero, List.set_cons_succ])
          as_aux_lemma =>
            refine wpAnyH_take (i := 60) (oi := { dst := some 204, op := Go.Op.pick (Go.Operand.tmp 198) (Go.Operand.tmp 203) (Go.Operand.const (Go.Value.bool false)), type := 4, pos := _, after := #[{ on := 54, ground := Go.Ground.data }, { on := 59, ground := Go.Ground.data }], guard := none }) (v := ?va60) rfl (by kernel_rfl) (by kernel_rfl) (by kernel_rfl) (fun _ _ _ h => h) (Or.inl ⟨by rfl, ?hya60⟩) (by assumption) ?_
            case hya60 => (intro wz hSw; (try dsimp only at hSw); go_simp; try with_reducible rfl)
            (try simp only [Act.put, List.setIfInBounds_toArray, List.set_cons_zero, List.set_cons_succ])
            refine wpAnyH_take (i := 61) (oi := { dst := some 205, op := Go.Op.move (Go.Operand.tmp 204), type := 4, pos := _, after := #[{ on := 60, ground := Go.Ground.data }, { on := 58, ground := Go.Ground.chain }], guard := none }) (v := ?va61) rfl (by kernel_rfl) (by kernel_rfl) (by kernel_rfl) (fun _ _ _ h => h) (Or.inl ⟨by rfl, ?hya61⟩) (by assumption) ?_
            case hya61 => (intro wz hSw; (try dsimp only at hSw); go_simp; try with_reducible rfl)
            (try simp only [Act.put, List.setIfInBounds_toArray, List.set_cons_zero, List.set_cons_succ])
            refine wpAnyH_take (i := 62) (oi := { dst := some 206, op := Go.Op.move (Go.Operand.tmp 23), type := 34, pos := _, after := #[{ on := 61, ground := Go.Ground.guard }], guard := some (61, true) }) (v := ?va62) rfl (by kernel_rfl) (by kernel_rfl) (by kernel_rfl) (fun _ _ _ h => h) (Or.inl ⟨by rfl, ?hya62⟩) (by assumption) ?_
            case hya62 => (intro wz hSw; (try dsimp only at hSw); go_simp; try with_reducible rfl)
            (try simp only [Act.put, List.setIfInBounds_toArray, List.set_cons_zero, List.set_cons_succ])
            refine wpAnyH_take (i := 63) (oi := { dst := some 207, op := Go.Op.indexAddr 34 (Go.Operand.tmp 206) (Go.Operand.const (Go.Value.int Go.IntKind.i64 2)), type := 0, pos := _, after := #[{ on := 62, ground := Go.Ground.data }, { on := 61, ground := Go.Ground.guard }], guard := some (61, true) }) (v := ?va63) rfl (by kernel_rfl) (by kernel_rfl) (by kernel_rfl) (fun _ _ _ h => h) (Or.inl ⟨by rfl, ?hya63⟩) (by assumption) ?_
            case hya63 => (intro wz hSw; (try dsimp only at hSw); go_simp; try with_reducible rfl)
            (try simp only [Act.put, List.setIfInBounds_toArray, List.set_cons_zero, List.set_cons_succ])
            refine wpAnyH_take (i := 64) (oi := { dst := some 208, op := Go.Op.load 28 (Go.Operand.tmp 207), type := 28, pos := _, after := #[{ on := 63, ground := Go.Ground.data }, { on := 61, ground := Go.Ground.guard }], guard := some (61, true) }) (v := ?va64) rfl (by kernel_rfl) (by kernel_rfl) (by kernel_rfl) (fun _ _ _ h => h) (Or.inl ⟨by rfl, ?hya64⟩) (by assumption) ?_
            case hya64 => (intro wz hSw; (try dsimp only at hSw); go_simp; try with_reducible rfl)
            (try simp only [Act.put, List.setIfInBounds_toArray, List.set_cons_zero, List.set_cons_succ])
            refine wpAnyH_ready (rs := [65]) (by kernel_rfl) (by simp) ?_
            refine AllReadyH.cons (o := { dst := some 209, op := Go.Op.call { callee := Go.Callee.value (Go.Operand.func 12), args := #[Go.Operand.const (Go.Value.int Go.IntKind.i64 0)], argTypes := #[3] }, type := 28, pos := _, after := #[{ on := 61, ground := Go.Ground.chain }, { on := 61, ground := Go.Ground.guard }], guard := some (61, true) }) rfl (fun K hK => ?_) AllReadyH.nil
            rw [if_pos (by rfl)]
            go_simp
            refine (P0.out _).mono ?_; rintro e w16 ⟨rfl, rfl⟩
            go_wp2_with fail
            refine hK.out _ _ ?_ (fun hHeld => ?_)
            · (try dsimp only); go_keep
            clear hK K
            (try simp only [Act.put, List.setIfInBounds_toArray, List.set_cons_zero, List.set_cons_succ])
            refine wpAnyH_take (i := 66) (oi := { dst := some 210, op := Go.Op.binOp Go.BinOp.eql 28 (Go.Operand.tmp 208) (Go.Operand.tmp 209) 28, type := 4, pos := _, after := #[{ on := 64, ground := Go.Ground.data }, { on := 65, ground := Go.Ground.data }, { on := 61, ground := Go.Ground.guard }], guard := some (61, true) }) (v := ?va66) rfl (by kernel_rfl) (by kernel_rfl) (by kernel_rfl) (fun _ _ _ h => h) (Or.inl ⟨by rfl, ?hya66⟩) (by assumption) ?_
            case hya66 => (intro wz hSw; (try dsimp only at hSw); go_simp; try with_reducible rfl)
            (try simp only [Act.put, List.setIfInBounds_toArray, List.set_cons_zero, List.set_cons_succ])
            refine wpAnyH_take (i := 67) (oi := { dst := some 211, op := Go.Op.pick (Go.Operand.tmp 205) (Go.Operand.tmp 210) (Go.Operand.const (Go.Value.bool false)), type := 4, pos := _, after := #[{ on := 61, ground := Go.Ground.data }, { on := 66, ground := Go.Ground.data }], guard := none }) (v := ?va67) rfl (by kernel_rfl) (by kernel_rfl) (by kernel_rfl) (fun _ _ _ h => h) (Or.inl ⟨by rfl, ?hya67⟩) (by assumption) ?_
            case hya67 => (intro wz hSw; (try dsimp only at hSw); go_simp; try with_reducible rfl)
            (try simp only [Act.put, List.setIfInBounds_toArray, List.set_cons_zero, List.set_cons_succ])
            refine wpAnyH_take (i := 68) (oi := { dst := some 212, op := Go.Op.move (Go.Operand.tmp 211), type := 4, pos := _, after := #[{ on := 67, ground := Go.Ground.data }, { on := 65, ground := Go.Ground.chain }], guard := none }) (v := ?va68) rfl (by kernel_rfl) (by kernel_rfl) (by kernel_rfl) (fun _ _ _ h => h) (Or.inl ⟨by rfl, ?hya68⟩) (by assumption) ?_
            case hya68 => (intro wz hSw; (try dsimp only at hSw); go_simp; try with_reducible rfl)
            (try simp only [Act.put, List.setIfInBounds_toArray, List.set_cons_zero, List.set_cons_succ])
            refine wpAnyH_take (i := 69) (oi := { dst := some 213, op := Go.Op.move (Go.Operand.tmp 24), type := 3, pos := _, after := #[{ on := 68, ground := Go.Ground.guard }], guard := some (68, true) }) (v := ?va69) rfl (by kernel_rfl) (by kernel_rfl) (by kernel_rfl) (fun _ _ _ h => h) (Or.inl ⟨by rfl, ?hya69⟩) (by assumption) ?_
            case hya69 => (intro wz hSw; (try dsimp only at hSw); go_simp; try with_reducible rfl)
            (try simp only [Act.put, List.setIfInBounds_toArray, List.set_cons_zero, List.set_cons_succ])
            as_aux_lemma =>
              refine wpAnyH_take (i := 70) (oi := { dst := some 214, op := Go.Op.binOp Go.BinOp.eql 3 (Go.Operand.tmp 213) (Go.Operand.const (Go.Value.int Go.IntKind.i64 3)) 3, type := 4, pos := _, after := #[{ on := 69, ground := Go.Ground.data }, { on := 68, ground := Go.Ground.guard }], guard := some (68, true) }) (v := ?va70) rfl (by kernel_rfl) (by kernel_rfl) (by kernel_rfl) (fun _ _ _ h => h) (Or.inl ⟨by rfl, ?hya70⟩) (by assumption) ?_
              case hya70 => (intro wz hSw; (try dsimp only at hSw); go_simp; try with_reducible rfl)
              (try simp only [Act.put, List.setIfInBounds_toArray, List.set_cons_zero, List.set_cons_succ])
              refine wpAnyH_take (i := 71) (oi := { dst := some 215, op := Go.Op.pick (Go.Operand.tmp 212) (Go.Operand.tmp 214) (Go.Operand.const (Go.Value.bool false)), type := 4, pos := _, after := #[{ on := 68, ground := Go.Ground.data }, { on := 70, ground := Go.Ground.data }], guard := none }) (v := ?va71) rfl (by kernel_rfl) (by kernel_rfl) (by kernel_rfl) (fun _ _ _ h => h) (Or.inl ⟨by rfl, ?hya71⟩) (by assumption) ?_
              case hya71 => (intro wz hSw; (try dsimp only at hSw); go_simp; try with_reducible rfl)
              (try simp only [Act.put, List.setIfInBounds_toArray, List.set_cons_zero, List.set_cons_succ])
              refine wpAnyH_take (i := 72) (oi := { dst := some 216, op := Go.Op.move (Go.Operand.tmp 215), type := 4, pos := _, after := #[{ on := 71, ground := Go.Ground.data }, { on := 68, ground := Go.Ground.chain }], guard := none }) (v := ?va72) rfl (by kernel_rfl) (by kernel_rfl) (by kernel_rfl) (fun _ _ _ h => h) (Or.inl ⟨by rfl, ?hya72⟩) (by assumption) ?_
              case hya72 => (intro wz hSw; (try dsimp only at hSw); go_simp; try with_reducible rfl)
              (try simp only [Act.put, List.setIfInBounds_toArray, List.set_cons_zero, List.set_cons_succ])
              refine wpAnyH_take (i := 73) (oi := { dst := some 217, op := Go.Op.move (Go.Operand.tmp 25), type := 3, pos := _, after := #[{ on := 72, ground := Go.Ground.guard }], guard := some (72, true) }) (v := ?va73) rfl (by kernel_rfl) (by kernel_rfl) (by kernel_rfl) (fun _ _ _ h => h) (Or.inl ⟨by rfl, ?hya73⟩) (by assumption) ?_
              case hya73 => (intro wz hSw; (try dsimp only at hSw); go_simp; try with_reducible rfl)
              (try simp only [Act.put, List.setIfInBounds_toArray, List.set_cons_zero, List.set_cons_succ])
              refine wpAnyH_take (i := 74) (oi := { dst := some 218, op := Go.Op.binOp Go.BinOp.eql 3 (Go.Operand.tmp 217) (Go.Operand.const (Go.Value.int Go.IntKind.i64 0)) 3, type := 4, pos := _, after := #[{ on := 73, ground := Go.Ground.data }, { on := 72, ground := Go.Ground.guard }], guard := some (72, true) }) (v := ?va74) rfl (by kernel_rfl) (by kernel_rfl) (by kernel_rfl) (fun _ _ _ h => h) (Or.inl ⟨by rfl, ?hya74⟩) (by assumption) ?_
              case hya74 => (intro wz hSw; (try dsimp only at hSw); go_simp; try with_reducible rfl)
              (try simp only [Act.put, List.setIfInBounds_toArray, List.set_cons_zero, List.set_cons_succ])
              refine wpAnyH_take (i := 75) (oi := { dst := some 219, op := Go.Op.pick (Go.Operand.tmp 216) (Go.Operand.tmp 218) (Go.Operand.const (Go.Value.bool false)), type := 4, pos := _, after := #[{ on := 72, ground := Go.Ground.data }, { on := 74, ground := Go.Ground.data }], guard := none }) (v := ?va75) rfl (by kernel_rfl) (by kernel_rfl) (by kernel_rfl) (fun _ _ _ h => h) (Or.inl ⟨by rfl, ?hya75⟩) (by assumption) ?_
              case hya75 => (intro wz hSw; (try dsimp only at hSw); go_simp; try with_reducible rfl)
              (try simp only [Act.put, List.setIfInBounds_toArray, List.set_cons_zero, List.set_cons_succ])
              refine wpAnyH_take (i := 76) (oi := { dst := some 220, op := Go.Op.move (Go.Operand.tmp 219), type := 4, pos := _, after := #[{ on := 75, ground := Go.Ground.data }, { on := 72, ground := Go.Ground.chain }], guard := none }) (v := ?va76) rfl (by kernel_rfl) (by kernel_rfl) (by kernel_rfl) (fun _ _ _ h => h) (Or.inl ⟨by rfl, ?hya76⟩) (by assumption) ?_
              case hya76 => (intro wz hSw; (try dsimp only at hSw); go_simp; try with_reducible rfl)
              (try simp only [Act.put, List.setIfInBounds_toArray, List.set_cons_zero, List.set_cons_succ])
              refine wpAnyH_take (i := 77) (oi := { dst := some 221, op := Go.Op.move (Go.Operand.tmp 26), type := 3, pos := _, after := #[{ on := 76, ground := Go.Ground.guard }], guard := some (76, true) }) (v := ?va77) rfl (by kernel_rfl) (by kernel_rfl) (by kernel_rfl) (fun _ _ _ h => h) (Or.inl ⟨by rfl, ?hya77⟩) (by assumption) ?_
              case hya77 => (intro wz hSw; (try dsimp only at hSw); go_simp; try with_reducible rfl)
              (try simp only [Act.put, List.setIfInBounds_toArray, List.set_cons_zero, List.set_cons_succ])
              refine wpAnyH_take (i := 78) (oi := { dst := some 222, op := Go.Op.binOp Go.BinOp.eql 3 (Go.Operand.tmp 221) (Go.Operand.const (Go.Value.int Go.IntKind.i64 1)) 3, type := 4, pos := _, after := #[{ on := 77, ground := Go.Ground.data }, { on := 76, ground := Go.Ground.guard }], guard := some (76, true) }) (v := ?va78) rfl (by kernel_rfl) (by kernel_rfl) (by kernel_rfl) (fun _ _ _ h => h) (Or.inl ⟨by rfl, ?hya78⟩) (by assumption) ?_
              case hya78 => (intro wz hSw; (try dsimp only at hSw); go_simp; try with_reducible rfl)
              (try simp only [Act.put, List.setIfInBounds_toArray, List.set_cons_zero, List.set_cons_succ])
              refine wpAnyH_take (i := 79) (oi := { dst := some 223, op := Go.Op.pick (Go.Operand.tmp 220) (Go.Operand.tmp 222) (Go.Operand.const (Go.Value.bool false)), type := 4, pos := _, after := #[{ on := 76, ground := Go.Ground.data }, { on := 78, ground := Go.Ground.data }], guard := none }) (v := ?va79) rfl (by kernel_rfl) (by kernel_rfl) (by kernel_rfl) (fun _ _ _ h => h) (Or.inl ⟨by rfl, ?hya79⟩) (by assumption) ?_
              case hya79 => (intro wz hSw; (try dsimp only at hSw); go_simp; try with_reducible rfl)
              (try simp only [Act.put, List.setIfInBounds_toArray, List.set_cons_zero, List.set_cons_succ])
              as_aux_lemma =>
                refine wpAnyH_take (i := 80) (oi := { dst := some 224, op := Go.Op.move (Go.Operand.tmp 223), type := 4, pos := _, after := #[{ on := 79, ground := Go.Ground.data }, { on := 76, ground := Go.Ground.chain }], guard := none }) (v := ?va80) rfl (by kernel_rfl) (by kernel_rfl) (by kernel_rfl) (fun _ _ _ h => h) (Or.inl ⟨by rfl, ?hya80⟩) (by assumption) ?_
                case hya80 => (intro wz hSw; (try dsimp only at hSw); go_simp; try with_reducible rfl)
                (try simp only [Act.put, List.setIfInBounds_toArray, List.set_cons_zero, List.set_cons_succ])
                refine wpAnyH_take (i := 81) (oi := { dst := some 225, op := Go.Op.move (Go.Operand.tmp 27), type := 24, pos := _, after := #[{ on := 80, ground := Go.Ground.guard }], guard := some (80, true) }) (v := ?va81) rfl (by kernel_rfl) (by kernel_rfl) (by kernel_rfl) (fun _ _ _ h => h) (Or.inl ⟨by rfl, ?hya81⟩) (by assumption) ?_
                case hya81 => (intro wz hSw; (try dsimp only at hSw); go_simp; try with_reducible rfl)
                (try simp only [Act.put, List.setIfInBounds_toArray, List.set_cons_zero, List.set_cons_succ])
                refine wpAnyH_take (i := 82) (oi := { dst := some 226, op := Go.Op.binOp Go.BinOp.eql 24 (Go.Operand.tmp 225) (Go.Operand.const (Go.Value.int Go.IntKind.i64 0)) 24, type := 4, pos := _, after := #[{ on := 81, ground := Go.Ground.data }, { on := 80, ground := Go.Ground.guard }], guard := some (80, true) }) (v := ?va82) rfl (by kernel_rfl) (by kernel_rfl) (by kernel_rfl) (fun _ _ _ h => h) (Or.inl ⟨by rfl, ?hya82⟩) (by assumption) ?_
                case hya82 => (intro wz hSw; (try dsimp only at hSw); go_simp; try with_reducible rfl)
                (try simp only [Act.put, List.setIfInBounds_toArray, List.set_cons_zero, List.set_cons_succ])
                refine wpAnyH_take (i := 83) (oi := { dst := some 227, op := Go.Op.pick (Go.Operand.tmp 224) (Go.Operand.tmp 226) (Go.Operand.const (Go.Value.bool false)), type := 4, pos := _, after := #[{ on := 80, ground := Go.Ground.data }, { on := 82, ground := Go.Ground.data }], guard := none }) (v := ?va83) rfl (by kernel_rfl) (by kernel_rfl) (by kernel_rfl) (fun _ _ _ h => h) (Or.inl ⟨by rfl, ?hya83⟩) (by assumption) ?_
                case hya83 => (intro wz hSw; (try dsimp only at hSw); go_simp; try with_reducible rfl)
                (try simp only [Act.put, List.setIfInBounds_toArray, List.set_cons_zero, List.set_cons_succ])
                refine wpAnyH_take (i := 84) (oi := { dst := some 228, op := Go.Op.move (Go.Operand.tmp 227), type := 4, pos := _, after := #[{ on := 83, ground := Go.Ground.data }, { on := 80, ground := Go.Ground.chain }], guard := none }) (v := ?va84) rfl (by kernel_rfl) (by kernel_rfl) (by kernel_rfl) (fun _ _ _ h => h) (Or.inl ⟨by rfl, ?hya84⟩) (by assumption) ?_
                case hya84 => (intro wz hSw; (try dsimp only at hSw); go_simp; try with_reducible rfl)
                (try simp only [Act.put, List.setIfInBounds_toArray, List.set_cons_zero, List.set_cons_succ])
                refine wpAnyH_take (i := 85) (oi := { dst := some 229, op := Go.Op.move (Go.Operand.tmp 29), type := 24, pos := _, after := #[{ on := 84, ground := Go.Ground.guard }], guard := some (84, true) }) (v := ?va85) rfl (by kernel_rfl) (by kernel_rfl) (by kernel_rfl) (fun _ _ _ h => h) (Or.inl ⟨by rfl, ?hya85⟩) (by assumption) ?_
                case hya85 => (intro wz hSw; (try dsimp only at hSw); go_simp; try with_reducible rfl)
                (try simp only [Act.put, List.setIfInBounds_toArray, List.set_cons_zero, List.set_cons_succ])
                refine wpAnyH_take (i := 86) (oi := { dst := some 230, op := Go.Op.binOp Go.BinOp.eql 24 (Go.Operand.tmp 229) (Go.Operand.const (Go.Value.int Go.IntKind.i64 0)) 24, type := 4, pos := _, after := #[{ on := 85, ground := Go.Ground.data }, { on := 84, ground := Go.Ground.guard }], guard := some (84, true) }) (v := ?va86) rfl (by kernel_rfl) (by kernel_rfl) (by kernel_rfl) (fun _ _ _ h => h) (Or.inl ⟨by rfl, ?hya86⟩) (by assumption) ?_
                case hya86 => (intro wz hSw; (try dsimp only at hSw); go_simp; try with_reducible rfl)
                (try simp only [Act.put, List.setIfInBounds_toArray, List.set_cons_zero, List.set_cons_succ])
                refine wpAnyH_take (i := 87) (oi := { dst := some 231, op := Go.Op.pick (Go.Operand.tmp 228) (Go.Operand.tmp 230) (Go.Operand.const (Go.Value.bool false)), type := 4, pos := _, after := #[{ on := 84, ground := Go.Ground.data }, { on := 86, ground := Go.Ground.data }], guard := none }) (v := ?va87) rfl (by kernel_rfl) (by kernel_rfl) (by kernel_rfl) (fun _ _ _ h => h) (Or.inl ⟨by rfl, ?hya87⟩) (by assumption) ?_
                case hya87 => (intro wz hSw; (try dsimp only at hSw); go_simp; try with_reducible rfl)
                (try simp only [Act.put, List.setIfInBounds_toArray, List.set_cons_zero, List.set_cons_succ])
                refine wpAnyH_take (i := 88) (oi := { dst := some 232, op := Go.Op.move (Go.Operand.tmp 231), type := 4, pos := _, after := #[{ on := 87, ground := Go.Ground.data }, { on := 84, ground := Go.Ground.chain }], guard := none }) (v := ?va88) rfl (by kernel_rfl) (by kernel_rfl) (by kernel_rfl) (fun _ _ _ h => h) (Or.inl ⟨by rfl, ?hya88⟩) (by assumption) ?_
                case hya88 => (intro wz hSw; (try dsimp only at hSw); go_simp; try with_reducible rfl)
                (try simp only [Act.put, List.setIfInBounds_toArray, List.set_cons_zero, List.set_cons_succ])
                refine wpAnyH_take (i := 89) (oi := { dst := some 233, op := Go.Op.move (Go.Operand.tmp 28), type := 28, pos := _, after := #[{ on := 88, ground := Go.Ground.guard }], guard := some (88, true) }) (v := ?va89) rfl (by kernel_rfl) (by kernel_rfl) (by kernel_rfl) (fun _ _ _ h => h) (Or.inl ⟨by rfl, ?hya89⟩) (by assumption) ?_
                case hya89 => (intro wz hSw; (try dsimp only at hSw); go_simp; try with_reducible rfl)
                (try simp only [Act.put, List.setIfInBounds_toArray, List.set_cons_zero, List.set_cons_succ])
                as_aux_lemma =>
                  refine wpAnyH_ready (rs := [90]) (by kernel_rfl) (by simp) ?_
                  refine AllReadyH.cons (o := { dst := some 234, op := Go.Op.call { callee := Go.Callee.value (Go.Operand.func 12), args := #[Go.Operand.const (Go.Value.int Go.IntKind.i64 0)], argTypes := #[3] }, type := 28, pos := _, after := #[{ on := 88, ground := Go.Ground.chain }, { on := 88, ground := Go.Ground.guard }], guard := some (88, true) }) rfl (fun K hK => ?_) AllReadyH.nil
                  rw [if_pos (by rfl)]
                  go_simp
                  refine (P0.out _).mono ?_; rintro e w16 ⟨rfl, rfl⟩
                  go_wp2_with fail
                  refine hK.out _ _ ?_ (fun hHeld => ?_)
                  · (try dsimp only); go_keep
                  clear hK K
                  (try simp only [Act.put, List.setIfInBounds_toArray, List.set_cons_zero, List.set_cons_succ])
                  refine wpAnyH_take (i := 91) (oi := { dst := some 235, op := Go.Op.binOp Go.BinOp.eql 28 (Go.Operand.tmp 233) (Go.Operand.tmp 234) 28, type := 4, pos := _, after := #[{ on := 89, ground := Go.Ground.data }, { on := 90, ground := Go.Ground.data }, { on := 88, ground := Go.Ground.guard }], guard := some (88, true) }) (v := ?va91) rfl (by kernel_rfl) (by kernel_rfl) (by kernel_rfl) (fun _ _ _ h => h) (Or.inl ⟨by rfl, ?hya91⟩) (by assumption) ?_
                  case hya91 => (intro wz hSw; (try dsimp only at hSw); go_simp; try with_reducible rfl)
                  (try simp only [Act.put, List.setIfInBounds_toArray, List.set_cons_zero, List.set_cons_succ])
                  refine wpAnyH_take (i := 92) (oi := { dst := some 236, op := Go.Op.pick (Go.Operand.tmp 232) (Go.Operand.tmp 235) (Go.Operand.const (Go.Value.bool false)), type := 4, pos := _, after := #[{ on := 88, ground := Go.Ground.data }, { on := 91, ground := Go.Ground.data }], guard := none }) (v := ?va92) rfl (by kernel_rfl) (by kernel_rfl) (by kernel_rfl) (fun _ _ _ h => h) (Or.inl ⟨by rfl, ?hya92⟩) (by assumption) ?_
                  case hya92 => (intro wz hSw; (try dsimp only at hSw); go_simp; try with_reducible rfl)
                  (try simp only [Act.put, List.setIfInBounds_toArray, List.set_cons_zero, List.set_cons_succ])
                  refine wpAnyH_take (i := 93) (oi := { dst := some 237, op := Go.Op.move (Go.Operand.tmp 236), type := 4, pos := _, after := #[{ on := 92, ground := Go.Ground.data }, { on := 90, ground := Go.Ground.chain }], guard := none }) (v := ?va93) rfl (by kernel_rfl) (by kernel_rfl) (by kernel_rfl) (fun _ _ _ h => h) (Or.inl ⟨by rfl, ?hya93⟩) (by assumption) ?_
                  case hya93 => (intro wz hSw; (try dsimp only at hSw); go_simp; try with_reducible rfl)
                  (try simp only [Act.put, List.setIfInBounds_toArray, List.set_cons_zero, List.set_cons_succ])
                  refine wpAnyH_take (i := 94) (oi := { dst := some 238, op := Go.Op.move (Go.Operand.tmp 31), type := 24, pos := _, after := #[{ on := 93, ground := Go.Ground.guard }], guard := some (93, true) }) (v := ?va94) rfl (by kernel_rfl) (by kernel_rfl) (by kernel_rfl) (fun _ _ _ h => h) (Or.inl ⟨by rfl, ?hya94⟩) (by assumption) ?_
                  case hya94 => (intro wz hSw; (try dsimp only at hSw); go_simp; try with_reducible rfl)
                  (try simp only [Act.put, List.setIfInBounds_toArray, List.set_cons_zero, List.set_cons_succ])
                  refine wpAnyH_take (i := 95) (oi := { dst := some 239, op := Go.Op.binOp Go.BinOp.eql 24 (Go.Operand.tmp 238) (Go.Operand.const (Go.Value.int Go.IntKind.i64 0)) 24, type := 4, pos := _, after := #[{ on := 94, ground := Go.Ground.data }, { on := 93, ground := Go.Ground.guard }], guard := some (93, true) }) (v := ?va95) rfl (by kernel_rfl) (by kernel_rfl) (by kernel_rfl) (fun _ _ _ h => h) (Or.inl ⟨by rfl, ?hya95⟩) (by assumption) ?_
                  case hya95 => (intro wz hSw; (try dsimp only at hSw); go_simp; try with_reducible rfl)
                  (try simp only [Act.put, List.setIfInBounds_toArray, List.set_cons_zero, List.set_cons_succ])
                  refine wpAnyH_take (i := 96) (oi := { dst := some 240, op := Go.Op.pick (Go.Operand.tmp 237) (Go.Operand.tmp 239) (Go.Operand.const (Go.Value.bool false)), type := 4, pos := _, after := #[{ on := 93, ground := Go.Ground.data }, { on := 95, ground := Go.Ground.data }], guard := none }) (v := ?va96) rfl (by kernel_rfl) (by kernel_rfl) (by kernel_rfl) (fun _ _ _ h => h) (Or.inl ⟨by rfl, ?hya96⟩) (by assumption) ?_
                  case hya96 => (intro wz hSw; (try dsimp only at hSw); go_simp; try with_reducible rfl)
                  (try simp only [Act.put, List.setIfInBounds_toArray, List.set_cons_zero, List.set_cons_succ])
                  refine wpAnyH_take (i := 97) (oi := { dst := some 241, op := Go.Op.move (Go.Operand.tmp 240), type := 4, pos := _, after := #[{ on := 96, ground := Go.Ground.data }, { on := 93, ground := Go.Ground.chain }], guard := none }) (v := ?va97) rfl (by kernel_rfl) (by kernel_rfl) (by kernel_rfl) (fun _ _ _ h => h) (Or.inl ⟨by rfl, ?hya97⟩) (by assumption) ?_
                  case hya97 => (intro wz hSw; (try dsimp only at hSw); go_simp; try with_reducible rfl)
                  (try simp only [Act.put, List.setIfInBounds_toArray, List.set_cons_zero, List.set_cons_succ])
                  as_aux_lemma =>
                    refine wpAnyH_take (i := 98) (oi := { dst := some 242, op := Go.Op.move (Go.Operand.tmp 30), type := 23, pos := _, after := #[{ on := 97, ground := Go.Ground.guard }], guard := some (97, true) }) (v := ?va98) rfl (by kernel_rfl) (by kernel_rfl) (by kernel_rfl) (fun _ _ _ h => h) (Or.inl ⟨by rfl, ?hya98⟩) (by assumption) ?_
                    case hya98 => (intro wz hSw; (try dsimp only at hSw); go_simp; try with_reducible rfl)
                    (try simp only [Act.put, List.setIfInBounds_toArray, List.set_cons_zero, List.set_cons_succ])
                    refine wpAnyH_take (i := 99) (oi := { dst := some 243, op := Go.Op.binOp Go.BinOp.neq 23 (Go.Operand.tmp 242) (Go.Operand.const (Go.Value.pointer none)) 23, type := 4, pos := _, after := #[{ on := 98, ground := Go.Ground.data }, { on := 97, ground := Go.Ground.guard }], guard := some (97, true) }) (v := ?va99) rfl (by kernel_rfl) (by kernel_rfl) (by kernel_rfl) (fun _ _ _ h => h) (Or.inl ⟨by rfl, ?hya99⟩) (by assumption) ?_
                    case hya99 => (intro wz hSw; (try dsimp only at hSw); go_simp; try with_reducible rfl)
                    (try simp only [Act.put, List.setIfInBounds_toArray, List.set_cons_zero, List.set_cons_succ])
                    refine wpAnyH_take (i := 100) (oi := { dst := some 244, op := Go.Op.pick (Go.Operand.tmp 241) (Go.Operand.tmp 243) (Go.Operand.const (Go.Value.bool false)), type := 4, pos := _, after := #[{ on := 97, ground := Go.Ground.data }, { on := 99, ground := Go.Ground.data }], guard := none }) (v := ?va100) rfl (by kernel_rfl) (by kernel_rfl) (by kernel_rfl) (fun _ _ _ h => h) (Or.inl ⟨by rfl, ?hya100⟩) (by assumption) ?_
                    case hya100 => (intro wz hSw; (try dsimp only at hSw); go_simp; try with_reducible rfl)
                    (try simp only [Act.put, List.setIfInBounds_toArray, List.set_cons_zero, List.set_cons_succ])
                    refine wpAnyH_take (i := 101) (oi := { dst := some 245, op := Go.Op.move (Go.Operand.tmp 244), type := 4, pos := _, after := #[{ on := 100, ground := Go.Ground.data }, { on := 97, ground := Go.Ground.chain }], guard := none }) (v := ?va101) rfl (by kernel_rfl) (by kernel_rfl) (by kernel_rfl) (fun _ _ _ h => h) (Or.inl ⟨by rfl, ?hya101⟩) (by assumption) ?_
                    case hya101 => (intro wz hSw; (try dsimp only at hSw); go_simp; try with_reducible rfl)
                    (try simp only [Act.put, List.setIfInBounds_toArray, List.set_cons_zero, List.set_cons_succ])
                    refine wpAnyH_take (i := 102) (oi := { dst := some 246, op := Go.Op.move (Go.Operand.tmp 30), type := 23, pos := _, after := #[{ on := 101, ground := Go.Ground.guard }], guard := some (101, true) }) (v := ?va102) rfl (by kernel_rfl) (by kernel_rfl) (by kernel_rfl) (fun _ _ _ h => h) (Or.inl ⟨by rfl, ?hya102⟩) (by assumption) ?_
                    case hya102 => (intro wz hSw; (try dsimp only at hSw); go_simp; try with_reducible rfl)
                    (try simp only [Act.put, List.setIfInBounds_toArray, List.set_cons_zero, List.set_cons_succ])
                    as_aux_lemma =>
                      refine wpAnyH_take (i := 105) (oi := { dst := some 249, op := Go.Op.move (Go.Operand.tmp 5), type := 23, pos := _, after := #[{ on := 101, ground := Go.Ground.guard }], guard := some (101, true) }) (v := ?vb105) rfl (by kernel_rfl) (by kernel_rfl) (by kernel_rfl) (fun _ _ _ h => h) (Or.inl ⟨by rfl, ?hyb105⟩) (by assumption) ?_
                      case hyb105 => (intro wz hSw; (try dsimp only at hSw); go_simp; try with_reducible rfl)
                      (try simp only [Act.put, List.setIfInBounds_toArray, List.set_cons_zero, List.set_cons_succ])
                      refine wpAnyH_ready (rs := [103]) (by kernel_rfl) (by simp) ?_
                      refine AllReadyH.cons (o := { dst := some 247, op := Go.Op.call { callee := Go.Callee.value (Go.Operand.func 19), args := #[Go.Operand.tmp 246], argTypes := #[23] }, type := 40, pos := _, after := #[{ on := 102, ground := Go.Ground.data }, { on := 101, ground := Go.Ground.chain }, { on := 101, ground := Go.Ground.guard }], guard := some (101, true) }) rfl (fun K hK => ?_) AllReadyH.nil
                      rw [if_pos (by rfl)]
                      go_simp
                      refine (P1X.out).mono ?_; rintro e w16 ⟨vx, rfl, hx16⟩
                      have hbx := hx16.out.2
                      have y0 := (hbx.cell (p := ⟨O, 0, none⟩) (World.block_lt_of_cell? _ _ hHeld.1)).trans hHeld.1
                      have y1 := (hbx.cell (p := ⟨O, 1, none⟩) (World.block_lt_of_cell? _ _ hHeld.2.1)).trans hHeld.2.1
                      have y2 := (hbx.cell (p := ⟨O, 2, none⟩) (World.block_lt_of_cell? _ _ hHeld.2.2)).trans hHeld.2.2
                      go_wp2_with fail
                      refine hK.out _ _ ?_ (fun hHeld => ?_)
                      · (try dsimp only); go_keep
                      clear hK K
                      (try simp only [Act.put, List.setIfInBounds_toArray, List.set_cons_zero, List.set_cons_succ])
                      have PH : Hid (Calls Try.prog 19 #[.pointer (some ⟨H, 0, none⟩)] w16 fun e w' => ∃ v', e = .returned v' ∧ Hid ((convert 40 9 v').run Try.prog w' = .ok (.string SS) w' ∧ (convert 40 9 vx).run Try.prog w' = .ok (.string SS) w' ∧ Below w16.heap.size w16 w' ∧ HpAt w' B H 0 k3 ∧ Below w.heap.size w w')) := Lib.hid (by
                        have h1 := HPH.out.below hx16.out.2
                        refine (putH_any h1).mono fun e w' ⟨v', h2, h3, h4⟩ => ⟨v', h2, Lib.hid ⟨?_, hx16.out.1 w' h4.out, h4.out, h1.below h4.out, (BF.out.trans (hx16.out.2.mono BF.out.size)).trans (h4.out.mono (Nat.le_trans BF.out.size hx16.out.2.size))⟩⟩
                        rw [ESS.out]
                        exact str_own h3.out)
                      have cx : (convert 40 9 vx).run Try.prog w16 = .ok (.string SS) w16 := hx16.out.1 w16 (Below.refl _ _)
                      refine upon_mono (S' := fun w' => (w'.cell? ⟨O, 0, none⟩ = some (.int .u64 7) ∧ w'.cell? ⟨O, 1, none⟩ = some (.int .u64 0) ∧ w'.cell? ⟨O, 2, none⟩ = some (.int .u64 0)) ∧ (convert 40 9 vx).run Try.prog w' = .ok (.string SS) w') (fun _ h => h.1) _ _ _ _ ?_
                      have hHeld2 := And.intro hHeld cx
                      refine wpAnyH_take (i := 104) (oi := { dst := some 248, op := Go.Op.convert 40 9 (Go.Operand.tmp 247), type := 9, pos := _, after := #[{ on := 103, ground := Go.Ground.data }, { on := 101, ground := Go.Ground.guard }], guard := some (101, true) }) (v := ?vb104) rfl (by kernel_rfl) (by kernel_rfl) (by kernel_rfl) (fun _ _ _ h => h) (Or.inl ⟨by rfl, ?hyb104⟩) hHeld2 ?_
                      case hyb104 => (intro wz hSw; (try dsimp only at hSw); have hcv := hSw.2; go_simp; try with_reducible rfl)
                      (try simp only [Act.put, List.setIfInBounds_toArray, List.set_cons_zero, List.set_cons_succ])
                      refine wpAnyH_ready (rs := [106]) (by kernel_rfl) (by simp) ?_
                      refine AllReadyH.cons (o := { dst := some 250, op := Go.Op.call { callee := Go.Callee.value (Go.Operand.func 19), args := #[Go.Operand.tmp 249], argTypes := #[23] }, type := 40, pos := _, after := #[{ on := 105, ground := Go.Ground.data }, { on := 103, ground := Go.Ground.chain }, { on := 101, ground := Go.Ground.guard }], guard := some (101, true) }) rfl (fun K hK => ?_) AllReadyH.nil
                      rw [if_pos (by rfl)]
                      go_simp
                      refine (PH.out).mono ?_; rintro e w17 ⟨vh, rfl, hx17⟩
                      obtain ⟨cv1, cv2, hb17, hp17, bf17⟩ := hx17.out
                      have y0 := (hb17.cell (p := ⟨O, 0, none⟩) (World.block_lt_of_cell? _ _ hHeld.1)).trans hHeld.1
                      have y1 := (hb17.cell (p := ⟨O, 1, none⟩) (World.block_lt_of_cell? _ _ hHeld.2.1)).trans hHeld.2.1
                      have y2 := (hb17.cell (p := ⟨O, 2, none⟩) (World.block_lt_of_cell? _ _ hHeld.2.2)).trans hHeld.2.2
                      go_wp2_with fail
                      refine hK.out _ _ ⟨⟨y0, y1, y2⟩, cv2⟩ (fun hHeld3 => ?_)
                      clear hK K
                      (try simp only [Act.put, List.setIfInBounds_toArray, List.set_cons_zero, List.set_cons_succ])
                      refine wpAnyH_ready (rs := [107]) (by kernel_rfl) (by simp) ?_
                      refine AllReadyH.cons (o := { dst := some 251, op := Go.Op.convert 40 9 (Go.Operand.tmp 250), type := 9, pos := _, after := #[{ on := 106, ground := Go.Ground.data }, { on := 101, ground := Go.Ground.guard }], guard := some (101, true) }) rfl (fun K hK => ?_) AllReadyH.nil
                      rw [if_pos (by rfl)]
                      go_simp
                      refine hK.out _ _ hHeld3 (fun hHeld4 => ?_)
                      clear hK K
                      (try simp only [Act.put, List.setIfInBounds_toArray, List.set_cons_zero, List.set_cons_succ])
                      as_aux_lemma =>
                        have RM : Hid (Calls Try.prog 20 #[.pointer (some ⟨H, 0, none⟩)] w17 fun e w' => e = .returned (.int .i64 16) ∧ w17 = w') := Lib.hid (by
                          have z := room_any hp17
                          rw [kC.2.2.2] at z; exact z)
                        refine wpAnyH_take (i := 108) (oi := { dst := some 252, op := Go.Op.binOp Go.BinOp.eql 9 (Go.Operand.tmp 248) (Go.Operand.tmp 251) 9, type := 4, pos := _, after := #[{ on := 104, ground := Go.Ground.data }, { on := 107, ground := Go.Ground.data }, { on := 101, ground := Go.Ground.guard }], guard := some (101, true) }) (v := ?vc108) rfl (by kernel_rfl) (by kernel_rfl) (by kernel_rfl) (fun _ _ _ h => h) (Or.inl ⟨by rfl, ?hyc108⟩) (by assumption) ?_
                        case hyc108 => (intro wz hSw; (try dsimp only at hSw); go_simp; try with_reducible rfl)
                        (try simp only [Act.put, List.setIfInBounds_toArray, List.set_cons_zero, List.set_cons_succ])
                        refine wpAnyH_take (i := 109) (oi := { dst := some 253, op := Go.Op.pick (Go.Operand.tmp 245) (Go.Operand.tmp 252) (Go.Operand.const (Go.Value.bool false)), type := 4, pos := _, after := #[{ on := 101, ground := Go.Ground.data }, { on := 108, ground := Go.Ground.data }], guard := none }) (v := ?vc109) rfl (by kernel_rfl) (by kernel_rfl) (by kernel_rfl) (fun _ _ _ h => h) (Or.inl ⟨by rfl, ?hyc109⟩) (by assumption) ?_
                        case hyc109 => (intro wz hSw; (try dsimp only at hSw); go_simp; try with_reducible rfl)
                        (try simp only [Act.put, List.setIfInBounds_toArray, List.set_cons_zero, List.set_cons_succ])
                        refine wpAnyH_take (i := 110) (oi := { dst := some 254, op := Go.Op.move (Go.Operand.tmp 253), type := 4, pos := _, after := #[{ on := 109, ground := Go.Ground.data }, { on := 106, ground := Go.Ground.chain }], guard := none }) (v := ?vc110) rfl (by kernel_rfl) (by kernel_rfl) (by kernel_rfl) (fun _ _ _ h => h) (Or.inl ⟨by rfl, ?hyc110⟩) (by assumption) ?_
                        case hyc110 => (intro wz hSw; (try dsimp only at hSw); go_simp; try with_reducible rfl)
                        (try simp only [Act.put, List.setIfInBounds_toArray, List.set_cons_zero, List.set_cons_succ])
                        refine wpAnyH_take (i := 111) (oi := { dst := some 255, op := Go.Op.move (Go.Operand.tmp 33), type := 24, pos := _, after := #[{ on := 110, ground := Go.Ground.guard }], guard := some (110, true) }) (v := ?vc111) rfl (by kernel_rfl) (by kernel_rfl) (by kernel_rfl) (fun _ _ _ h => h) (Or.inl ⟨by rfl, ?hyc111⟩) (by assumption) ?_
                        case hyc111 => (intro wz hSw; (try dsimp only at hSw); go_simp; try with_reducible rfl)
                        (try simp only [Act.put, List.setIfInBounds_toArray, List.set_cons_zero, List.set_cons_succ])
                        refine wpAnyH_take (i := 112) (oi := { dst := some 256, op := Go.Op.binOp Go.BinOp.eql 24 (Go.Operand.tmp 255) (Go.Operand.const (Go.Value.int Go.IntKind.i64 3)) 24, type := 4, pos := _, after := #[{ on := 111, ground := Go.Ground.data }, { on := 110, ground := Go.Ground.guard }], guard := some (110, true) }) (v := ?vc112) rfl (by kernel_rfl) (by kernel_rfl) (by kernel_rfl) (fun _ _ _ h => h) (Or.inl ⟨by rfl, ?hyc112⟩) (by assumption) ?_
                        case hyc112 => (intro wz hSw; (try dsimp only at hSw); go_simp; try with_reducible rfl)
                        (try simp only [Act.put, List.setIfInBounds_toArray, List.set_cons_zero, List.set_cons_succ])
                        refine wpAnyH_take (i := 113) (oi := { dst := some 257, op := Go.Op.pick (Go.Operand.tmp 254) (Go.Operand.tmp 256) (Go.Operand.const (Go.Value.bool false)), type := 4, pos := _, after := #[{ on := 110, ground := Go.Ground.data }, { on := 112, ground := Go.Ground.data }], guard := none }) (v := ?vc113) rfl (by kernel_rfl) (by kernel_rfl) (by kernel_rfl) (fun _ _ _ h => h) (Or.inl ⟨by rfl, ?hyc113⟩) (by assumption) ?_
                        case hyc113 => (intro wz hSw; (try dsimp only at hSw); go_simp; try with_reducible rfl)
                        (try simp only [Act.put, List.setIfInBounds_toArray, List.set_cons_zero, List.set_cons_succ])
                        refine wpAnyH_take (i := 114) (oi := { dst := some 258, op := Go.Op.move (Go.Operand.tmp 257), type := 4, pos := _, after := #[{ on := 113, ground := Go.Ground.data }, { on := 110, ground := Go.Ground.chain }], guard := none }) (v := ?vc114) rfl (by kernel_rfl) (by kernel_rfl) (by kernel_rfl) (fun _ _ _ h => h) (Or.inl ⟨by rfl, ?hyc114⟩) (by assumption) ?_
                        case hyc114 => (intro wz hSw; (try dsimp only at hSw); go_simp; try with_reducible rfl)
                        (try simp only [Act.put, List.setIfInBounds_toArray, List.set_cons_zero, List.set_cons_succ])
                        refine wpAnyH_take (i := 115) (oi := { dst := some 259, op := Go.Op.move (Go.Operand.tmp 5), type := 23, pos := _, after := #[{ on := 114, ground := Go.Ground.guard }], guard := some (114, true) }) (v := ?vc115) rfl (by kernel_rfl) (by kernel_rfl) (by kernel_rfl) (fun _ _ _ h => h) (Or.inl ⟨by rfl, ?hyc115⟩) (by assumption) ?_
                        case hyc115 => (intro wz hSw; (try dsimp only at hSw); go_simp; try with_reducible rfl)
                        (try simp only [Act.put, List.setIfInBounds_toArray, List.set_cons_zero, List.set_cons_succ])
                        refine wpAnyH_ready (rs := [116]) (by kernel_rfl) (by simp) ?_
                        refine AllReadyH.cons (o := { dst := some 260, op := Go.Op.call { callee := Go.Callee.value (Go.Operand.func 20), args := #[Go.Operand.tmp 259], argTypes := #[23] }, type := 3, pos := _, after := #[{ on := 115, ground := Go.Ground.data }, { on := 114, ground := Go.Ground.chain }, { on := 114, ground := Go.Ground.guard }], guard := some (114, true) }) rfl (fun K hK => ?_) AllReadyH.nil
                        rw [if_pos (by rfl)]
                        go_simp
                        refine (RM.out).mono ?_; rintro e w18 ⟨rfl, rfl⟩
                        go_wp2_with fail
                        refine hK.out _ _ hHeld3 (fun hHeld5 => ?_)
                        clear hK K
                        (try simp only [Act.put, List.setIfInBounds_toArray, List.set_cons_zero, List.set_cons_succ])
                        refine wpAnyH_take (i := 117) (oi := { dst := some 261, op := Go.Op.binOp Go.BinOp.eql 3 (Go.Operand.tmp 260) (Go.Operand.const (Go.Value.int Go.IntKind.i64 16)) 3, type := 4, pos := _, after := #[{ on := 116, ground := Go.Ground.data }, { on := 114, ground := Go.Ground.guard }], guard := some (114, true) }) (v := ?vd117) rfl (by kernel_rfl) (by kernel_rfl) (by kernel_rfl) (fun _ _ _ h => h) (Or.inl ⟨by rfl, ?hyd117⟩) (by assumption) ?_
                        case hyd117 => (intro wz hSw; (try dsimp only at hSw); go_simp; try with_reducible rfl)
                        (try simp only [Act.put, List.setIfInBounds_toArray, List.set_cons_zero, List.set_cons_succ])
                        refine wpAnyH_take (i := 118) (oi := { dst := some 262, op := Go.Op.pick (Go.Operand.tmp 258) (Go.Operand.tmp 261) (Go.Operand.const (Go.Value.bool false)), type := 4, pos := _, after := #[{ on := 114, ground := Go.Ground.data }, { on := 117, ground := Go.Ground.data }], guard := none }) (v := ?vd118) rfl (by kernel_rfl) (by kernel_rfl) (by kernel_rfl) (fun _ _ _ h => h) (Or.inl ⟨by rfl, ?hyd118⟩) (by assumption) ?_
                        case hyd118 => (intro wz hSw; (try dsimp only at hSw); go_simp; try with_reducible rfl)
                        (try simp only [Act.put, List.setIfInBounds_toArray, List.set_cons_zero, List.set_cons_succ])
                        refine wpAnyH_take (i := 119) (oi := { dst := some 0, op := Go.Op.assign (Go.Operand.tmp 262), type := 4, pos := _, after := ([{ on := 118, ground := Go.Ground.data }, { on := 116, ground := Go.Ground.chain }, { on := 0, ground := Go.Ground.phase }, { on := 1, ground := Go.Ground.phase }, { on := 2, ground := Go.Ground.phase }, { on := 3, ground := Go.Ground.phase }, { on := 4, ground := Go.Ground.phase }, { on := 5, ground := Go.Ground.phase }, { on := 6, ground := Go.Ground.phase }, { on := 7, ground := Go.Ground.phase }, { on := 8, ground := Go.Ground.phase }, { on := 9, ground := Go.Ground.phase }, { on := 10, ground := Go.Ground.phase }, { on := 11, ground := Go.Ground.phase }, { on := 12, ground := Go.Ground.phase }, { on := 13, ground := Go.Ground.phase }, { on := 14, ground := Go.Ground.phase }, { on := 15, ground := Go.Ground.phase }, { on := 16, ground := Go.Ground.phase }, { on := 17, ground := Go.Ground.phase }, { on := 18, ground := Go.Ground.phase }, { on := 19, ground := Go.Ground.phase }, { on := 20, ground := Go.Ground.phase }, { on := 21, ground := Go.Ground.phase }, { on := 22, ground := Go.Ground.phase }, { on := 23, ground := Go.Ground.phase }, { on := 24, ground := Go.Ground.phase }, { on := 25, ground := Go.Ground.phase }, { on := 26, ground := Go.Ground.phase }, { on := 27, ground := Go.Ground.phase }, { on := 28, ground := Go.Ground.phase }, { on := 29, ground := Go.Ground.phase }, { on := 30, ground := Go.Ground.phase }, { on := 31, ground := Go.Ground.phase }, { on := 32, ground := Go.Ground.phase }, { on := 33, ground := Go.Ground.phase }, { on := 34, ground := Go.Ground.phase }, { on := 35, ground := Go.Ground.phase }, { on := 36, ground := Go.Ground.phase }, { on := 37, ground := Go.Ground.phase }, { on := 38, ground := Go.Ground.phase }, { on := 39, ground := Go.Ground.phase }, { on := 40, ground := Go.Ground.phase }, { on := 41, ground := Go.Ground.phase }, { on := 42, ground := Go.Ground.phase }, { on := 43, ground := Go.Ground.phase }, { on := 44, ground := Go.Ground.phase }, { on := 45, ground := Go.Ground.phase }, { on := 46, ground := Go.Ground.phase }, { on := 47, ground := Go.Ground.phase }, { on := 48, ground := Go.Ground.phase }, { on := 49, ground := Go.Ground.phase }, { on := 50, ground := Go.Ground.phase }, { on := 51, ground := Go.Ground.phase }, { on := 52, ground := Go.Ground.phase }, { on := 53, ground := Go.Ground.phase }, { on := 54, ground := Go.Ground.phase }, { on := 55, ground := Go.Ground.phase }, { on := 56, ground := Go.Ground.phase }, { on := 57, ground := Go.Ground.phase }].append [{ on := 58, ground := Go.Ground.phase }, { on := 59, ground := Go.Ground.phase }, { on := 60, ground := Go.Ground.phase }, { on := 61, ground := Go.Ground.phase }, { on := 62, ground := Go.Ground.phase }, { on := 63, ground := Go.Ground.phase }, { on := 64, ground := Go.Ground.phase }, { on := 65, ground := Go.Ground.phase }, { on := 66, ground := Go.Ground.phase }, { on := 67, ground := Go.Ground.phase }, { on := 68, ground := Go.Ground.phase }, { on := 69, ground := Go.Ground.phase }, { on := 70, ground := Go.Ground.phase }, { on := 71, ground := Go.Ground.phase }, { on := 72, ground := Go.Ground.phase }, { on := 73, ground := Go.Ground.phase }, { on := 74, ground := Go.Ground.phase }, { on := 75, ground := Go.Ground.phase }, { on := 76, ground := Go.Ground.phase }, { on := 77, ground := Go.Ground.phase }, { on := 78, ground := Go.Ground.phase }, { on := 79, ground := Go.Ground.phase }, { on := 80, ground := Go.Ground.phase }, { on := 81, ground := Go.Ground.phase }, { on := 82, ground := Go.Ground.phase }, { on := 83, ground := Go.Ground.phase }, { on := 84, ground := Go.Ground.phase }, { on := 85, ground := Go.Ground.phase }, { on := 86, ground := Go.Ground.phase }, { on := 87, ground := Go.Ground.phase }, { on := 88, ground := Go.Ground.phase }, { on := 89, ground := Go.Ground.phase }, { on := 90, ground := Go.Ground.phase }, { on := 91, ground := Go.Ground.phase }, { on := 92, ground := Go.Ground.phase }, { on := 93, ground := Go.Ground.phase }, { on := 94, ground := Go.Ground.phase }, { on := 95, ground := Go.Ground.phase }, { on := 96, ground := Go.Ground.phase }, { on := 97, ground := Go.Ground.phase }, { on := 98, ground := Go.Ground.phase }, { on := 99, ground := Go.Ground.phase }, { on := 100, ground := Go.Ground.phase }, { on := 101, ground := Go.Ground.phase }, { on := 102, ground := Go.Ground.phase }, { on := 103, ground := Go.Ground.phase }, { on := 104, ground := Go.Ground.phase }, { on := 105, ground := Go.Ground.phase }, { on := 106, ground := Go.Ground.phase }, { on := 107, ground := Go.Ground.phase }, { on := 108, ground := Go.Ground.phase }, { on := 109, ground := Go.Ground.phase }, { on := 110, ground := Go.Ground.phase }, { on := 111, ground := Go.Ground.phase }, { on := 112, ground := Go.Ground.phase }, { on := 113, ground := Go.Ground.phase }, { on := 114, ground := Go.Ground.phase }, { on := 115, ground := Go.Ground.phase }, { on := 116, ground := Go.Ground.phase }, { on := 117, ground := Go.Ground.phase }, { on := 118, ground := Go.Ground.phase }]).toArray, guard := none }) (v := ?vd119) rfl (by kernel_rfl) (by kernel_rfl) (by kernel_rfl) (fun _ _ _ h => h) (Or.inl ⟨by rfl, ?hyd119⟩) (by assumption) ?_
                        case hyd119 => (intro wz hSw; (try dsimp only at hSw); go_simp; try with_reducible rfl)
                        (try simp only [Act.put, List.setIfInBounds_toArray, List.set_cons_zero, List.set_cons_succ])
                        refine wpAnyH_done (by kernel_rfl) ?_ _
                        go_wp2
                        go_ret
                        exact ⟨rfl, bf17⟩
end Go.Proofs.Ytknpgmbniohcnaa
