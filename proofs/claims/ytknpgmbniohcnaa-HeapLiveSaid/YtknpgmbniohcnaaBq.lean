import Derived.Test.YtknpgmbniohcnaaHr
import Derived.Test.YtknpgmbniohcnaaPl
import Derived.Test.YtknpgmbniohcnaaSo
namespace Go.Proofs.Ytknpgmbniohcnaa
open Go.ChangeShapes Go.WideShapes Go.ChangeAt Go.RowKit
set_option linter.unusedVariables false
theorem upon_mono {P : Program} {ops : Array Oper} {Q : Exit → Act → World → Prop} {md : Region.Mode} {S S' : World → Prop} (hs : ∀ w, S' w → S w) : ∀ (fuel : Nat) (listed : Array Bool) (a : Act) (w : World), wpAnyH P md ops Q S' fuel listed a w → wpAnyH P md ops Q S fuel listed a w
  | 0, _, _, _, h => h
  | fuel + 1, _, _, _, h => ⟨h.1, fun i hi => wpOp_mono (fun a' w' h' => ⟨hs _ h'.1, upon_mono hs fuel _ a' w' h'.2⟩) (h.2 i hi)⟩
theorem HR_frm {w w' : World} {R : Nat → Prop} {H o k : Nat} (f : Frm w w' R) (hH : H < w.heap.size) (hR : ¬ R H) (h : HR w' H o k) : HR w H o k := HR_eq (frm_cell f hH hR) (frm_cell f hH hR) h
theorem notin {w : World} {B B2 H H2 o o2 : Nat} {m m' : Hm} (h : HpAt w B H o m) (h2 : HpAt w B2 H2 o2 m') (ne : H2 ≠ H) : ¬ HR w H o H2 := fun hk => by
  obtain ⟨cc, T, A1, c1, A2, c2, t1, t2, t3, e1, e2, e3, e4, e5, o1, o2⟩ := h.at_
  obtain ⟨cc', T', A1', c1', A2', c2', t1', t2', t3', e1', _⟩ := h2.at_
  have f2 : w.cell? ⟨H, o + 2, none⟩ = some (.slice A1 m.ws.length c1) := by simp [World.cell?, e1, e4]
  have f3 : w.cell? ⟨H, o + 3, none⟩ = some (.slice A2 m.st.length c2) := by simp [World.cell?, e1, e5]
  rcases hk with e | ⟨n, c, hc⟩ | ⟨n, c, hc⟩
  · exact ne e
  · rw [f2] at hc; injection hc with hc; rw [hc] at o1; exact row_ne o1 e1' t1' rfl
  · rw [f3] at hc; injection hc with hc; rw [hc] at o2; exact row_ne o2 e1' t2' rfl
/-- two heaps of the program, apart from each other. -/
structure PQ (w wr : World) (H B H2 B2 : Nat) (m m' : Hm) : Prop where
  hp : HpAt wr B H 0 m
  hq : HpAt wr B2 H2 0 m'
  dis : ∀ k, HR wr H 0 k → ¬ HR wr H2 0 k
  bel : Below w.heap.size w wr
  ge : w.heap.size ≤ H ∧ w.heap.size ≤ B ∧ w.heap.size ≤ H2 ∧ w.heap.size ≤ B2
section
variable {w wr w' : World} {H B H2 B2 : Nat} {m m' n : Hm}
theorem PQ.below (h : PQ w wr H B H2 B2 m m') (hb : Below wr.heap.size wr w') : PQ w w' H B H2 B2 m m' :=
  ⟨h.hp.below hb, h.hq.below hb, fun k h1 h2 => h.dis k (HR_below hb h.hp.lt h1) (HR_below hb h.hq.lt h2), h.bel.trans (hb.mono h.bel.size), h.ge⟩
theorem PQ.putP (h : PQ w wr H B H2 B2 m m') (hp : HpAt w' B H 0 n) (f : Frm wr w' (HR wr H 0)) (nw : ∀ k, HR w' H 0 k → HR wr H 0 k ∨ wr.heap.size ≤ k) : PQ w w' H B H2 B2 n m' := by
  refine ⟨hp, h.hq.frm f (fun k hk hk' => h.dis k hk' hk), fun k h1 h2 => ?_, h.bel.trans (f.below (fun k hk => ?_) h.bel.size), h.ge⟩
  · have h3 := HR_frm f h.hq.lt (fun e => h.dis H2 e (.inl rfl)) h2
    rcases nw k h1 with e | e
    · exact h.dis k e h3
    · have := h.hq.lt
      rcases h.hq.ge h3 with e2 | e2 <;> omega
  · have := h.ge
    rcases h.hp.ge hk with e2 | e2 <;> omega
theorem PQ.putQ (h : PQ w wr H B H2 B2 m m') (hq : HpAt w' B2 H2 0 n) (f : Frm wr w' (HR wr H2 0)) (nw : ∀ k, HR w' H2 0 k → HR wr H2 0 k ∨ wr.heap.size ≤ k) : PQ w w' H B H2 B2 m n := by
  refine ⟨h.hp.frm f (fun k hk hk' => h.dis k hk hk'), hq, fun k h1 h2 => ?_, h.bel.trans (f.below (fun k hk => ?_) h.bel.size), h.ge⟩
  · have h3 := HR_frm f h.hp.lt (fun e => h.dis H (.inl rfl) e) h1
    rcases nw k h2 with e | e
    · exact h.dis k h3 e
    · have := h.hp.lt
      rcases h.hp.ge h3 with e2 | e2 <;> omega
  · have := h.ge
    rcases h.hq.ge hk with e2 | e2 <;> omega
/-- two heaps; only their records are known to be apart. -/
structure PW (w wr : World) (H B H2 B2 : Nat) (m m' : Hm) : Prop where
  hp : HpAt wr B H 0 m
  hq : HpAt wr B2 H2 0 m'
  ne : H ≠ H2
  bel : Below w.heap.size w wr
  ge : w.heap.size ≤ H ∧ w.heap.size ≤ H2
theorem PQ.pw (h : PQ w wr H B H2 B2 m m') : PW w wr H B H2 B2 m m' := ⟨h.hp, h.hq, fun e => h.dis H (.inl rfl) (.inl e), h.bel, h.ge.1, h.ge.2.2.1⟩
theorem PW.below (h : PW w wr H B H2 B2 m m') (hb : Below wr.heap.size wr w') : PW w w' H B H2 B2 m m' :=
  ⟨h.hp.below hb, h.hq.below hb, h.ne, h.bel.trans (hb.mono h.bel.size), h.ge⟩
theorem PW.colP (h : PW w wr H B H2 B2 m m') (hp : HpAt w' B H 0 n) (f : Frm wr w' (fun k => k = H)) : PW w w' H B H2 B2 n m' :=
  ⟨hp, h.hq.frm f (fun k hk e => notin h.hq h.hp h.ne (e ▸ hk)), h.ne, h.bel.trans (f.below (fun k hk => by have := h.ge; omega) h.bel.size), h.ge⟩
theorem PW.colQ (h : PW w wr H B H2 B2 m m') (hq : HpAt w' B2 H2 0 n) (f : Frm wr w' (fun k => k = H2)) : PW w w' H B H2 B2 m n :=
  ⟨h.hp.frm f (fun k hk e => notin h.hp h.hq (Ne.symm h.ne) (e ▸ hk)), hq, h.ne, h.bel.trans (f.below (fun k hk => by have := h.ge; omega) h.bel.size), h.ge⟩
end
structure BsI (w wr : World) (H B : Nat) (m : Hm) : Prop where
  full : Full m
  room : m.room = 200
  le : (m.ws.length : Int) ≤ m.room
  hp : HpAt wr B H 0 m
  bel : Below w.heap.size w wr
  ge : w.heap.size ≤ H ∧ w.heap.size ≤ B
theorem BsI.make {w wr w' : World} {H B : Nat} {m : Hm} {k t : Int} {xs : List Int} (h : BsI w wr H B m) (hx : ∀ x ∈ xs, U64 x) (hp : HpAt w' B H 0 (makeM m k t xs)) (f : Frm wr w' (HR wr H 0)) : BsI w w' H B (makeM m k t xs) :=
  ⟨full_make h.full hx, (make_room _ _ _ _).1.trans h.room, make_len h.le, hp, h.bel.trans (frm_ge h.hp f h.ge.1 h.ge.2 h.bel.size), h.ge⟩
section
variable {H : Type} {enc : TypeId × Value → H} {w : World} {base : Nat}
theorem cellsOf5 : Try.prog.cellsOf 5 = 1 := by kernel_rfl
theorem wf_byte {x : Int} (h : (Lit.int .u8 x).wf = true) : Byte x := by
  simp [Lit.wf, IntKind.min, IntKind.max, IntKind.signed, IntKind.bits] at h
  exact ⟨by omega, by omega⟩
theorem open_bytes {fuel n c : Nat} {a : Option Addr} {x : DataW H × List MemPlace} (h : DataW.trod enc Try.prog w base (fun _ => true) true fuel 40 [.slice a n c] = some x) : ∃ l : List Int, l.length = n ∧ (∀ y ∈ l, Byte y) ∧ (0 < n → InB w a c l) := by
  rcases open_ints Try.underlying40 Try.underlying5 cellsOf5 h with ⟨hcs, hx⟩ | ⟨a', len', cap', zs, hcs, _, hl, hm, hz, hx, hcell, hwz⟩
  · simp at hcs
    obtain ⟨rfl, rfl, rfl⟩ := hcs
    exact ⟨[], rfl, fun x hx => (by cases hx), fun h => by omega⟩
  · simp at hcs
    obtain ⟨rfl, rfl, rfl⟩ := hcs
    simp only [if_true] at hz
    refine ⟨zs.take n, by rw [List.length_take]; omega, fun y hy => wf_byte (hwz y (List.mem_of_mem_take hy)), fun hn => ?_⟩
    obtain ⟨b, off, rfl, hc⟩ := ints_at hcell (by omega)
    refine ⟨fun h => (by cases h), fun ad had => ?_⟩
    injection had with had; subst had
    refine ⟨b, off, rfl, World.block_lt_of_cell? w ⟨b, off + 0, none⟩ (hc 0 (by omega)), by rw [List.length_take]; omega, fun j hj => ?_⟩
    rw [List.length_take] at hj
    rw [hc j (by omega)]
    simp [List.getD, List.getElem?_eq_getElem (show j < zs.length by omega)]
end
set_option maxRecDepth 100000 in
set_option maxHeartbeats 4000000 in
theorem load_short {w : World} {A : Option Addr} {n c : Nat} (hn : n < 16) :
    Calls Try.prog 18 #[.slice A n c] w fun e w' => e = .returned (.tuple #[.pointer none, .int .i64 3]) ∧ Below w.heap.size w w' := by
  by_cases h1 : n % 8 = 0
  case neg =>
    have d1 : ¬ ((n : Int) % 8 = 0) := by omega
    clear h1
    go_enter Try.func18, Try.ntmps18
    go_wp2
    go_ret2
    exact ⟨rfl, Below.refl _ _⟩
  have d1 : (n : Int) % 8 = 0 := by omega
  have d2 : ¬ (0 ≤ (n : Int) / 8 - 2) := by omega
  have d3 : (n : Int) / 8 - 2 < 0 := by omega
  clear h1 hn
  go_enter Try.func18, Try.ntmps18
  go_wp2
  go_ret2
  exact ⟨rfl, Below.refl _ _⟩
set_option maxRecDepth 100000 in
set_option maxHeartbeats 4000000 in
theorem rload_short {w : World} {A : Option Addr} {n c : Nat} (hn : n < 16) :
    Calls Try.prog 32 #[.slice A n c] w fun e w' => e = .returned (.tuple #[.pointer none, .bool false]) ∧ Below w.heap.size w w' := by
  have d1 : decide ((n : Int) < 16) = true := decide_eq_true (by omega)
  have d2 : (n : Int) < 16 := by omega
  clear hn
  go_enter Try.func32, Try.ntmps32
  go_wp2
  go_ret2
  exact ⟨rfl, Below.refl _ _⟩
theorem load_arg {w : World} {A : Option Addr} {n c : Nat} {l : List Int} (hl : l.length = n) (hi : 0 < n → InB w A c l) (hb : ∀ x ∈ l, Byte x) (h6 : n ≤ 600) :
    Calls Try.prog 18 #[.slice A n c] w fun e w' => Hid (LoadE w w' l e) ∧ Hid (Below w.heap.size w w') := by
  by_cases h : n < 16
  · exact (load_short h).mono fun e w' ⟨h1, h2⟩ => ⟨Lib.hid (.inl ⟨if_neg (fun g => by have := g.1.2; omega), h1⟩), Lib.hid h2⟩
  · subst hl; exact load_any (hi (by omega)) hb (by omega)
theorem rload_arg {w : World} {A : Option Addr} {n c : Nat} {l : List Int} (hl : l.length = n) (hi : 0 < n → InB w A c l) (hb : ∀ x ∈ l, Byte x) (h6 : n ≤ 600) :
    Calls Try.prog 32 #[.slice A n c] w fun e w' => Hid (LoadR w w' l e) ∧ Hid (Below w.heap.size w w') := by
  by_cases h : n < 16
  · exact (rload_short h).mono fun e w' ⟨h1, h2⟩ => ⟨Lib.hid (.inl ⟨if_neg (fun g => by have := g.1.2; omega), h1⟩), Lib.hid h2⟩
  · subst hl; exact rload_any (hi (by omega)) hb (by omega)
theorem InW.frm {w w' : World} {R : Nat → Prop} {A : Option Addr} {c : Nat} {xs : List Int} (h : InW w A c xs) (f : Frm w w' R) (hr : ∀ b off v, A = some ⟨b, off, v⟩ → ¬ R b) : InW w' A c xs := ⟨h.1, fun ad had => by
  obtain ⟨b, off, e, hb, hc⟩ := h.2 ad had
  subst e
  exact ⟨b, off, rfl, Nat.lt_of_lt_of_le hb f.size, fun j hj => (frm_cell f hb (hr b off none had)).trans (hc j hj)⟩⟩
theorem makeV_u64 {m : Hm} (ok : m.Ok) (k t : Int) (xs : List Int) : U64 (makeV m k t xs) := by
  have := ok.lt
  unfold makeV
  split
  · exact ⟨by omega, by omega⟩
  · exact ⟨by decide, by decide⟩
theorem one_u64 {x : Int} (h : U64 x) : ∀ y ∈ [x], U64 y := fun y hy => by
  rw [List.mem_singleton] at hy; exact hy ▸ h
theorem row_frm {w w' : World} {R : Nat → Prop} {B e n : Nat} {v : Value} {xs : List Value} (h : w.ownsRow B e 1 v n xs) (f : Frm w w' R) (hr : ∀ k, R k → k < B) : w'.ownsRow B e 1 v n xs :=
  own_frm h f (fun k hk hR => by have := (h.lt k hk).1; have := hr k hR; omega)
/-- what a call of Load answers on a heap's own bytes: that heap again. -/
theorem load_own {w3 : World} {B n : Nat} {v : Value} {m : Hm} (hf : Full m) (h16 : 16 ≤ m.room) (hr : (m.ws.length : Int) ≤ m.room) (own : w3.ownsRow B 5 1 v n (wb (encM m))) : Calls Try.prog 18 #[v] w3 fun e w' => ∃ H2, e = .returned (.tuple #[.pointer (some ⟨H2, 0, none⟩), .int .i64 0]) ∧ Hid (w3.heap.size ≤ H2 ∧ HpAt w' w3.heap.size H2 0 m ∧ Below w3.heap.size w3 w') := by
  obtain ⟨A6, c6, e6, hi6, hl6⟩ := own_inB own
  have hby := enc_byte (all_u64 hf.toOk)
  rw [← enc_all] at hby
  have hlt := hf.toOk.lt
  have z := load_any hi6 hby (by rw [encM_len]; omega)
  rw [hl6, ← e6] at z
  refine z.mono fun e w' ⟨h1, h2⟩ => ?_
  have hle := load_enc hf h16 hr
  rcases h1.out with ⟨h3, _⟩ | ⟨m2, H2, h3, h4, h5, h6⟩
  · rw [hle] at h3; cases h3
  · rw [hle] at h3; injection h3 with h3; subst h3
    exact ⟨H2, h5, Lib.hid ⟨h4, h6, h2.out⟩⟩
theorem PQ.start {w wA w3 w4 : World} {H B H2 : Nat} {m : Hm} (h : BsI w wA H B m) (b3 : Below wA.heap.size wA w3) (h2 : w3.heap.size ≤ H2) (hq : HpAt w4 w3.heap.size H2 0 m) (b4 : Below w3.heap.size w3 w4) : PQ w w4 H B H2 w3.heap.size m m := by
  have h3 := b3.size
  have h0 := h.bel.size
  refine ⟨(h.hp.below b3).below b4, hq, fun k k1 k2 => ?_, h.bel.trans ((bt b3 b4).mono h.bel.size), h.ge.1, h.ge.2, by omega, by omega⟩
  have k3 := HR_lt h.hp (bt b3 b4) k1
  rcases hq.ge k2 with e | e <;> omega
theorem inW_of {w : World} {B n O k c : Nat} {xs : List Int} (h : w.ownsRow B 28 1 (.slice (some ⟨O, 0, none⟩) k c) n (wd xs)) : InW w (some ⟨O, 0, none⟩) c xs ∧ xs.length = k := by
  obtain ⟨A, c', e, hi, hl⟩ := own_inW h
  injection e with e1 e2 e3
  subst e1 e2 e3
  exact ⟨hi, hl⟩
/-- what Load answered, as two values. -/
def LV (w : World) (B : Nat) (l : List Int) (v7 v8 : Value) : Prop := (loadF l = none ∧ v7 = .pointer none ∧ v8 = .int .i64 3) ∨ ∃ m H, loadF l = some m ∧ v7 = .pointer (some ⟨H, 0, none⟩) ∧ v8 = .int .i64 0 ∧ HpAt w B H 0 m
def RV (w : World) (l : List Int) (v7 v8 : Value) : Prop := (loadF l = none ∧ v7 = .pointer none ∧ v8 = .bool false) ∨ ∃ m H, loadF l = some m ∧ v7 = .pointer (some ⟨H, 0, none⟩) ∧ v8 = .bool true ∧ RH0 w H m
theorem LoadE.vals {w w' : World} {l : List Int} {e : Ending} (h : LoadE w w' l e) : ∃ v7 v8, e = .returned (.tuple #[v7, v8]) ∧ Hid (LV w' w.heap.size l v7 v8) := by
  rcases h with ⟨h1, rfl⟩ | ⟨m, H, h1, _, rfl, h2⟩
  · exact ⟨_, _, rfl, Lib.hid (.inl ⟨h1, rfl, rfl⟩)⟩
  · exact ⟨_, _, rfl, Lib.hid (.inr ⟨m, H, h1, rfl, rfl, h2⟩)⟩
theorem LoadR.vals {w w' : World} {l : List Int} {e : Ending} (h : LoadR w w' l e) : ∃ v7 v8, e = .returned (.tuple #[v7, v8]) ∧ Hid (RV w' l v7 v8) := by
  rcases h with ⟨h1, rfl⟩ | ⟨m, H, h1, _, rfl, h2⟩
  · exact ⟨_, _, rfl, Lib.hid (.inl ⟨h1, rfl, rfl⟩)⟩
  · exact ⟨_, _, rfl, Lib.hid (.inr ⟨m, H, h1, rfl, rfl, h2⟩)⟩
theorem LV.below {w w' : World} {B : Nat} {l : List Int} {v7 v8 : Value} (h : LV w B l v7 v8) (hb : Below w.heap.size w w') : LV w' B l v7 v8 := by
  rcases h with h | ⟨m, H, h1, h2, h3, h4⟩
  · exact .inl h
  · exact .inr ⟨m, H, h1, h2, h3, h4.below hb⟩
end Go.Proofs.Ytknpgmbniohcnaa
