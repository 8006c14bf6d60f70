import Derived.Test.YtknpgmbniohcnaaAdd
namespace Go.Proofs.Ytknpgmbniohcnaa
open Go.ChangeShapes Go.WideShapes Go.ChangeAt Go.RowKit
set_option linter.unusedVariables false
theorem headV_ok {k t : Int} {n : Nat} (h : headB k t n = true) : U64 (headV k t n) ∧ okS (headV k t n) ∧ splS (headV k t n) = n ∧ splK (headV k t n) = k ∧ splT (headV k t n) = t := by
  have hp : headP k t n := of_decide_eq_true h
  obtain ⟨⟨a1, a2⟩, ⟨b1, b2⟩, c1, c2⟩ := hp
  have e : headV k t n = 2 * (k * 16777216 + t * 65536 + n) + 1 := by
    unfold headV
    rw [if_pos ⟨⟨a1, a2⟩, ⟨b1, b2⟩, c1, c2⟩]
    unfold numW; omega
  rw [e]
  have ho : okS (2 * (k * 16777216 + t * 65536 + n) + 1) := by unfold okS; omega
  refine ⟨⟨by omega, by omega⟩, ho, ?_, ?_, ?_⟩
  · unfold splS; rw [if_pos ho]; omega
  · unfold splK; rw [if_pos ho]; omega
  · unfold splT; rw [if_pos ho]; omega
def makeE (m : Hm) (k t : Int) (xs : List Int) : Int :=
  if headB k t xs.length = false then 1 else if xs.all (fitsB m) = false then 1 else if m.room < m.ws.length + xs.length + 1 then 8 else 0
def makeM (m : Hm) (k t : Int) (xs : List Int) : Hm := if makeE m k t xs = 0 then m.add (headV k t xs.length) xs else m
def makeV (m : Hm) (k t : Int) (xs : List Int) : Int := if makeE m k t xs = 0 then (m.ws.length : Int) * 2 else 0
theorem all_take {α : Type} {p : α → Bool} {l : List α} {k : Nat} (h : k < l.length) (ha : (l.take k).all p = true) : (l.take (k + 1)).all p = p l[k] := by
  rw [List.take_succ_eq_append_getElem h, List.all_append, ha]; simp
theorem all_no {α : Type} {p : α → Bool} {l : List α} {k : Nat} (h : k < l.length) (ha : p l[k] = false) : l.all p = false := by
  rw [List.all_eq_false]; exact ⟨l[k], List.getElem_mem h, by simp [ha]⟩
theorem InW.at {w : World} {A : Option Addr} {c : Nat} {xs : List Int} (h : InW w A c xs) (hn : 0 < xs.length) : ∃ b off, A = some ⟨b, off, none⟩ ∧ b < w.heap.size ∧ ∀ j (h : j < xs.length), w.cell? ⟨b, off + j, none⟩ = some (.int .u64 xs[j]) := by
  cases A with
  | none => have := (h.1 rfl).1; omega
  | some ad =>
    obtain ⟨b, off, rfl, hb, hc⟩ := h.2 ad rfl
    exact ⟨b, off, rfl, hb, hc⟩
theorem InW.below {w w' : World} {A : Option Addr} {c : Nat} {xs : List Int} (h : InW w A c xs) (hb : Below w.heap.size w w') : InW w' A c xs := ⟨h.1, fun ad had => by
  obtain ⟨b, off, rfl, hbl, hc⟩ := h.2 ad had
  exact ⟨b, off, rfl, Nat.lt_of_lt_of_le hbl hb.size, fun j hj => (hb.cell (p := ⟨b, off + j, none⟩) hbl).trans (hc j hj)⟩⟩
theorem HR_below {w w' : World} {H o k : Nat} (hb : Below w.heap.size w w') (hH : H < w.heap.size) (h : HR w' H o k) : HR w H o k := by
  rcases h with h | ⟨n, c, h⟩ | ⟨n, c, h⟩
  · exact .inl h
  · exact .inr (.inl ⟨n, c, (hb.cell (p := ⟨H, o + 2, none⟩) hH).symm.trans h⟩)
  · exact .inr (.inr ⟨n, c, (hb.cell (p := ⟨H, o + 3, none⟩) hH).symm.trans h⟩)
theorem bN (n : Nat) (w : World) : Below w.heap.size w (w.drewN n) := ⟨rfl, rfl, rfl, Nat.le_refl _, fun _ _ => rfl⟩
def Sep (w : World) (H o : Nat) (A : Option Addr) : Prop := ∀ k n c, w.cell? ⟨H, o + 2, none⟩ = some (.slice (some ⟨k, 0, none⟩) n c) → ∀ off, A ≠ some ⟨k, off, none⟩
set_option maxRecDepth 100000 in
set_option maxHeartbeats 4000000 in
theorem make_any4 {w : World} {B H o : Nat} {m : Hm} (h : HpAt w B H o m) {A : Option Addr} {c : Nat} {k t : Int} {xs : List Int} (hx : InW w A c xs) (hsep : Sep w H o A) (hxs : ∀ x ∈ xs, U64 x) (hl : xs.length ≤ 100000) :
    Calls Try.prog 11 #[.pointer (some ⟨H, o, none⟩), .int .i64 k, .int .i64 t, .slice A xs.length c] w fun e w' => e = .returned (.tuple #[.int .u64 (makeV m k t xs), .int .i64 (makeE m k t xs)]) ∧ Hid (HpAt w' B H o (makeM m k t xs)) ∧ Hid (Frm w w' (HR w H o)) ∧ Hid (∀ k, HR w' H o k → HR w H o k ∨ w.heap.size ≤ k) := by
  have HD := Lib.hid (head_any k t xs.length w)
  have HP := Lib.hid h
  have HX := Lib.hid hx
  cases hh : headB k t xs.length
  · have e1 : makeE m k t xs = 1 := by unfold makeE; rw [if_pos hh]
    have e2 : makeM m k t xs = m := by unfold makeM; rw [e1]; rfl
    have e3 : makeV m k t xs = 0 := by unfold makeV; rw [e1]; rfl
    rw [e1, e2, e3]
    rw [hh] at HD
    clear h hx hsep hxs e1 e2 e3 hh
    go_enter Try.func11, Try.ntmps11
    go_wp2_with fail
    refine HD.out.mono ?_; rintro e w1 ⟨rfl, rfl⟩
    clear HD
    go_wp2
    go_ret2
    exact ⟨rfl, HP, Lib.hid (Frm.refl _ _), Lib.hid (fun k hk => .inl hk)⟩
  obtain ⟨hu, hok, hsz, _, _⟩ := headV_ok hh
  rw [hh] at HD
  have FT := Lib.hid (fun x hx => fits_any h x hx)
  have HU := Lib.hid hxs
  obtain ⟨hd, hhd⟩ : ∃ hd, hd = headV k t xs.length := ⟨_, rfl⟩
  rw [← hhd] at HD hu hok hsz
  have HHD := Lib.hid hhd
  have HOK := Lib.hid (show U64 hd ∧ okS hd ∧ splS hd = xs.length from ⟨hu, hok, hsz⟩)
  have HSEP := Lib.hid hsep
  obtain ⟨q, hq⟩ : ∃ q, q = xs.length := ⟨_, rfl⟩
  have HQ := Lib.hid hq
  have HHH := Lib.hid hh
  rw [← hq] at HD hl ⊢
  obtain ⟨A1, c1, A2, c2, f0, f1, f2, f3, hw, hs⟩ := h.cells
  have hlt := h.ok.lt
  have hr0 := h.ok.r0; have hr1 := h.ok.r1
  clear hw hs h hx hsep hxs hhd hu hok hsz hq hh
  obtain ⟨n, hn⟩ : ∃ n, n = m.ws.length := ⟨_, rfl⟩
  rw [← hn] at f2 f3 hlt
  have HNN := Lib.hid hn
  clear hn
  go_enter Try.func11, Try.ntmps11
  go_wp2_with fail
  refine HD.out.mono ?_; rintro e w1 ⟨rfl, rfl⟩
  clear HD
  go_wp2
  go_loop [13, 26] (fun _ i => ∃ j : Nat, j ≤ q ∧ i = .int .i64 j ∧ (xs.take j).all (fitsB m) = true) (fun _ i => q - (intOf i).toNat)
  case atStart => exact ⟨0, by omega, rfl, by simp⟩
  case round =>
    obtain ⟨j, hj, rfl, hall⟩ := hrel
    have HALL := Lib.hid hall
    clear hall
    by_cases hlt2 : j < q
    · have hjx : j < xs.length := by have := HQ.out; omega
      obtain ⟨b, off, rfl, hb, hc⟩ := HX.out.at (by omega)
      have hcj := hc j hjx
      have hat := all_take (p := fitsB m) hjx HALL.out
      have FX := Lib.hid (FT.out xs[j] (HU.out _ (List.getElem_mem hjx)))
      obtain ⟨x, hx⟩ : ∃ x, x = xs[j] := ⟨_, rfl⟩
      rw [← hx] at hcj FX hat
      have hji : (j : Int) < (q : Int) := by omega
      clear hc hb
      cases hf : fitsB m x
      · rw [hf] at FX
        have e1 : makeE m k t xs = 1 := by
          unfold makeE
          rw [if_neg (by rw [HHH.out]; decide), if_pos (all_no hjx (by rw [← hx]; exact hf))]
        have e2 : makeM m k t xs = m := by unfold makeM; rw [e1]; rfl
        have e3 : makeV m k t xs = 0 := by unfold makeV; rw [e1]; rfl
        have E1 := Lib.hid e1; have E2 := Lib.hid e2; have E3 := Lib.hid e3
        clear e1 e2 e3 hf hat hx
        go_wp2_with fail
        refine FX.out.mono ?_; rintro e w1 ⟨rfl, rfl⟩
        clear FX
        go_wp2
        go_ret2
        exact ⟨by rw [E1.out, E3.out]; rfl, by rw [E2.out]; exact HP, Lib.hid (Frm.refl _ _), Lib.hid (fun k hk => .inl hk)⟩
      · rw [hf] at FX
        have HN : Hid ((xs.take (j + 1)).all (fitsB m) = true) := Lib.hid (hat.trans hf)
        clear hf hat hx
        go_wp2_with fail
        refine FX.out.mono ?_; rintro e w1 ⟨rfl, rfl⟩
        clear FX
        go_wp2
        go_round
        case rel => exact ⟨j + 1, by omega, by go_num, HN.out⟩
        case measure => simp [intOf]; omega
    · have HN : Hid (xs.all (fitsB m) = true) := Lib.hid (by have := HALL.out; rwa [List.take_of_length_le (by have := HQ.out; omega)] at this)
      have hji : ¬ (j : Int) < (q : Int) := by omega
      by_cases hroom : m.room < (n : Int) + (q : Int) + 1
      · have e1 : makeE m k t xs = 8 := by
          unfold makeE
          rw [if_neg (by rw [HHH.out]; decide), if_neg (by rw [HN.out]; decide), if_pos (by have := HQ.out; have := HNN.out; omega)]
        have e2 : makeM m k t xs = m := by unfold makeM; rw [e1]; rfl
        have e3 : makeV m k t xs = 0 := by unfold makeV; rw [e1]; rfl
        have d := decide_eq_true hroom
        have E1 := Lib.hid e1; have E2 := Lib.hid e2; have E3 := Lib.hid e3
        clear e1 e2 e3 HALL
        go_wp2
        go_quiet (fail)
        have FIN : Hid (HpAt (w.drewN nq) B H o m) := Lib.hid (HP.out.below (bN _ _))
        have FF : Hid (Frm w (w.drewN nq) (HR w H o)) := Lib.hid (Frm.of_below (bN nq w) (Nat.le_refl _) _)
        go_wp2
        go_ret2
        exact ⟨by rw [E1.out, E3.out]; rfl, by rw [E2.out]; exact FIN, FF, Lib.hid (fun k hk => .inl (HR_below (bN nq w) HP.out.lt hk))⟩
      · have e1 : makeE m k t xs = 0 := by
          unfold makeE
          rw [if_neg (by rw [HHH.out]; decide), if_neg (by rw [HN.out]; decide), if_neg (by have := HQ.out; have := HNN.out; omega)]
        have e2 : makeM m k t xs = m.add hd xs := by unfold makeM; rw [e1, if_pos rfl, HHD.out]
        have e3 : makeV m k t xs = (n : Int) * 2 := by unfold makeV; rw [e1, if_pos rfl, HNN.out]
        have d := decide_eq_false hroom
        have E1 := Lib.hid e1; have E2 := Lib.hid e2; have E3 := Lib.hid e3
        have AD : Hid (∀ p, Calls Try.prog 35 #[.pointer (some ⟨H, o, none⟩), .int .u64 hd, .slice A q c] (w.drewN p) fun e w' => e = .returned (.int .u64 ((n : Int) * 2)) ∧ Hid (HpAt w' B H o (m.add hd xs)) ∧ Hid (Frm w w' (HR w H o)) ∧ Hid (∀ k, HR w' H o k → HR w H o k ∨ w.heap.size ≤ k)) := Lib.hid (fun p => by
          have := add_any5 (HP.out.below (bN p w)) (HX.out.below (bN p w)) (head := hd) (fun k n c h off => HSEP.out k n c h off) HOK.out.1 HU.out HOK.out.2.1 HOK.out.2.2 (by have := HQ.out; have := HNN.out; omega)
          rw [← HQ.out, ← HNN.out] at this
          exact this.mono fun e w' ⟨h1, h2, h3, _, h5⟩ => ⟨h1, h2, Lib.hid ((Frm.of_below (bN p w) (Nat.le_refl _) _).trans (h3.out.mono fun k _ hk => hk)), Lib.hid (fun k hk => (h5.out k hk).imp (HR_below (bN p w) HP.out.lt) id)⟩)
        clear e1 e2 e3 HALL
        go_wp2
        go_quiet (fail)
        go_wp2_with fail
        refine (AD.out _).mono ?_; rintro e w2 ⟨rfl, H2, F2, H5⟩
        clear AD
        go_wp2
        go_ret2
        exact ⟨by rw [E1.out, E3.out]; rfl, by rw [E2.out]; exact H2, F2, H5⟩
theorem make_any {w : World} {B H o : Nat} {m : Hm} (h : HpAt w B H o m) {A : Option Addr} {c : Nat} {k t : Int} {xs : List Int} (hx : InW w A c xs) (hsep : Sep w H o A) (hxs : ∀ x ∈ xs, U64 x) (hl : xs.length ≤ 100000) :
    Calls Try.prog 11 #[.pointer (some ⟨H, o, none⟩), .int .i64 k, .int .i64 t, .slice A xs.length c] w fun e w' => e = .returned (.tuple #[.int .u64 (makeV m k t xs), .int .i64 (makeE m k t xs)]) ∧ Hid (HpAt w' B H o (makeM m k t xs)) ∧ Hid (Frm w w' (HR w H o)) :=
  (make_any4 h hx hsep hxs hl).mono fun e w' ⟨h1, h2, h3, _⟩ => ⟨h1, h2, h3⟩
end Go.Proofs.Ytknpgmbniohcnaa
