import Derived.Test.YtknpgmbniohcnaaHf
import Derived.BigRegion
namespace Go.Proofs.Ytknpgmbniohcnaa
open Go.ChangeShapes Go.WideShapes Go.ChangeAt Go.RowKit
set_option linter.unusedVariables false
/-- the words that the first i bytes make: the last one may be a part. -/
def pk (l : List Int) (i : Nat) : List Int := (List.range ((i + 7) / 8)).map fun j => dec (((l.take i).drop (j * 8)).take 8)
theorem pk_len (l : List Int) (i : Nat) : (pk l i).length = (i + 7) / 8 := by simp [pk]
theorem pk_at (l : List Int) (i j : Nat) (h : j < (i + 7) / 8) : (pk l i).getD j 0 = dec (((l.take i).drop (j * 8)).take 8) := by
  simp [pk, List.getD, h]
/-- the row at a byte: a new word where one begins. -/
def pk1 (l : List Int) (i : Nat) : List Int := if i % 8 = 0 then pk l i ++ [0] else pk l i
theorem pk1_len (l : List Int) (i : Nat) : (pk1 l i).length = i / 8 + 1 := by
  unfold pk1; split <;> simp [pk_len] <;> omega
theorem pk1_last (l : List Int) (i : Nat) : (pk1 l i).getD (i / 8) 0 = dec ((l.take i).drop (i / 8 * 8)) := by
  unfold pk1
  by_cases h : i % 8 = 0
  · rw [if_pos h, show i / 8 = (pk l i).length + 0 from by rw [pk_len]; omega, getD_app_r]
    rw [List.drop_eq_nil_of_le (by rw [pk_len, List.length_take]; omega)]; rfl
  · rw [if_neg h, pk_at _ _ _ (by omega), List.take_of_length_le (by rw [List.length_drop, List.length_take]; omega)]
theorem pk_step {l : List Int} (i : Nat) (hi : i < l.length) : (pk1 l i).set (i / 8) ((pk1 l i).getD (i / 8) 0 * 256 + l[i]) = pk l (i + 1) := by
  have ht : l.take (i + 1) = l.take i ++ [l[i]] := by rw [List.take_add_one, List.getElem?_eq_getElem hi]; rfl
  have hlt : (l.take i).length = i := by rw [List.length_take]; omega
  have e1 : (pk l (i + 1)).length = i / 8 + 1 := by rw [pk_len]; omega
  refine List.ext_getElem (by rw [List.length_set, pk1_len, e1]) (fun j h1 h2 => ?_)
  rw [List.length_set, pk1_len] at h1
  have g2 : (pk l (i + 1))[j] = dec (((l.take (i + 1)).drop (j * 8)).take 8) := by rw [← getD_at h2, pk_at _ _ _ (by omega)]
  rw [g2, List.getElem_set]
  by_cases hj : i / 8 = j
  · subst hj
    rw [if_pos rfl, pk1_last, ht, List.drop_append_of_le_length (by omega), ← dec_app]
    exact congrArg dec (List.take_of_length_le (by rw [List.length_append, List.length_drop, hlt]; simp; omega)).symm
  · rw [if_neg hj]
    have g1 : (pk1 l i)[j]'(by rw [pk1_len]; omega) = dec (((l.take i).drop (j * 8)).take 8) := by
      rw [← getD_at (by rw [pk1_len]; omega)]
      unfold pk1
      by_cases h : i % 8 = 0
      · rw [if_pos h, getD_app_l _ _ _ _ (by rw [pk_len]; omega), pk_at _ _ _ (by omega)]
      · rw [if_neg h, pk_at _ _ _ (by omega)]
    rw [g1, ht, List.drop_append_of_le_length (by omega), List.take_append_of_le_length (by rw [List.length_drop]; omega)]
theorem pk1_range {l : List Int} (hb : ∀ x ∈ l, Byte x) (i : Nat) : 0 ≤ (pk1 l i).getD (i / 8) 0 ∧ (pk1 l i).getD (i / 8) 0 < 72057594037927936 := by
  rw [pk1_last]
  obtain ⟨d, hd⟩ : ∃ d, d = (l.take i).drop (i / 8 * 8) := ⟨_, rfl⟩
  have hl : d.length ≤ 7 := by rw [hd, List.length_drop, List.length_take]; omega
  rw [← hd]
  have h := dec_range d (fun y hy => hb y (List.mem_of_mem_take (List.mem_of_mem_drop (hd ▸ hy))))
  have h7 : (256 : Nat) ^ d.length ≤ 256 ^ 7 := Nat.pow_le_pow_right (by decide) hl
  have e : ((256 ^ d.length : Nat) : Int) = (256 : Int) ^ d.length := Int.natCast_pow 256 _
  have e2 : (256 : Nat) ^ 7 = 72057594037927936 := by decide
  omega
theorem pk_end {l : List Int} {M : Nat} (h : l.length = 8 * (M + 2)) : pk l l.length = (List.range (M + 2)).map (decAt l) := by
  unfold pk
  rw [show (l.length + 7) / 8 = M + 2 from by omega, List.take_length]; rfl
theorem pk_drop {l : List Int} {M : Nat} (h : l.length = 8 * (M + 2)) : (pk l l.length).drop 2 = wsOf l := by
  rw [pk_end h]
  unfold wsOf
  rw [show l.length / 8 - 2 = M from by omega]
  refine List.ext_getElem (by simp) (fun j h1 h2 => ?_)
  simp [Nat.add_comm]
theorem pk_get {l : List Int} {M : Nat} (h : l.length = 8 * (M + 2)) (j : Nat) (hj : j < M + 2) : (pk l l.length).getD j 0 = decAt l j := by
  rw [pk_end h]; simp [List.getD, hj]
def LoadR (w w' : World) (l : List Int) (e : Ending) : Prop := (loadF l = none ∧ e = .returned (.tuple #[.pointer none, .bool false])) ∨ ∃ m H, loadF l = some m ∧ w.heap.size ≤ H ∧ e = .returned (.tuple #[.pointer (some ⟨H, 0, none⟩), .bool true]) ∧ RH0 w' H m
theorem rloadF_no {l : List Int} (h : ¬ goodL l) (w w' : World) : LoadR w w' l (.returned (.tuple #[.pointer none, .bool false])) := .inl ⟨if_neg h, rfl⟩
theorem vform27 {w : World} {B n : Nat} {v : Value} {xs : List Value} (h : w.ownsRow B 27 1 v n xs) (hn : 0 < n) : ∃ g c, v = .slice (some ⟨g, 0, none⟩) n c := by
  obtain ⟨g, c, h1, _⟩ := h.form hn
  exact ⟨g, c, h1⟩
theorem vform27c {w : World} {B n : Nat} {v : Value} {xs : List Value} (h : w.ownsRow B 27 1 v n xs) (hn : 0 < n) : ∃ g c, v = .slice (some ⟨g, 0, none⟩) n c ∧ n ≤ c := by
  rcases h.2 with ⟨_, h0⟩ | ⟨g, cap, cur, e, h1, h2, h3, _⟩
  · omega
  · exact ⟨g, cap, e, h3⟩
theorem loadF_of {l : List Int} (h : goodL l) : loadF l = if sndB (loadM l) = true then (sndO (wsOf l)).map (withSt (loadM l)) else none := if_pos h
theorem loadM_ok {l : List Int} (hb : ∀ x ∈ l, Byte x) (g : goodL l) : (loadM l).Ok := by
  obtain ⟨⟨g1, g2⟩, g3, g4, g5, g6⟩ := g
  have hlw : (wsOf l).length = l.length / 8 - 2 := by unfold wsOf; rw [List.length_map, List.length_range]
  refine ⟨by simp [loadM, hlw], by show (wsOf l).length ≤ _; rw [hlw]; omega, by show 0 ≤ decAt l 0; omega, g4, (decAt_u64 hb 1).1, g6, fun x hx => ?_, fun a ha hst => ?_⟩
  · simp only [loadM, wsOf, List.mem_map] at hx
    obtain ⟨i, _, rfl⟩ := hx
    exact decAt_u64 hb _
  · simp only [loadM] at hst
    rw [List.getD_eq_getElem?_getD, List.getElem?_replicate] at hst
    split at hst <;> cases hst
theorem loadF_none1 {l : List Int} (g : goodL l) (h : sndO (wsOf l) = none) : loadF l = none := by
  rw [loadF_of g]
  have : sndB (loadM l) = false := by unfold sndB; rw [show (loadM l).ws = wsOf l from rfl, h]
  rw [this]; rfl
theorem loadF_none2 {l : List Int} (g : goodL l) {st : List Bool} (h : sndO (wsOf l) = some st) {k : Nat} (hk : k ≤ (wsOf l).length) (hf : fitAll (withSt (loadM l) st) k = false) : loadF l = none := by
  rw [loadF_of g]
  have : sndB (loadM l) = false := by
    unfold sndB; rw [show (loadM l).ws = wsOf l from rfl, h]
    show fitAll (withSt (loadM l) st) (wsOf l).length = false
    unfold fitAll at hf ⊢
    rw [List.all_eq_false] at hf ⊢
    obtain ⟨j, hj, hj2⟩ := hf
    rw [List.mem_range] at hj
    exact ⟨j, List.mem_range.2 (by omega), hj2⟩
  rw [this]; rfl
theorem loadF_some {l : List Int} (g : goodL l) {st : List Bool} (h : sndO (wsOf l) = some st) (hf : fitAll (withSt (loadM l) st) (wsOf l).length = true) : loadF l = some (withSt (loadM l) st) := by
  rw [loadF_of g]
  have : sndB (loadM l) = true := by
    unfold sndB; rw [show (loadM l).ws = wsOf l from rfl, h]; exact hf
  rw [this, if_pos rfl, h]; rfl
theorem fitAll_next {m : Hm} {k : Nat} (h : fitAll m k = true) : fitAll m (k + 1) = (m.st.getD k false || fitsB m (m.ws.getD k 0)) := by
  unfold fitAll at h ⊢
  rw [List.range_succ, List.all_append, h]
  simp
set_option maxRecDepth 100000 in
set_option maxHeartbeats 8000000 in
theorem rload_any {w : World} {A : Option Addr} {c : Nat} {l : List Int} (h : InB w A c l) (hb : ∀ x ∈ l, Byte x) (hl : l.length ≤ 1000000) :
    Calls Try.prog 32 #[.slice A l.length c] w fun e w' => Hid (LoadR w w' l e) ∧ Hid (Below w.heap.size w w') := by
  obtain ⟨k0, hk0, hz0, hz1, hz2⟩ := info_parts info27
  have HB := Lib.hid hb
  have IB := Lib.hid h
  obtain ⟨n, hn⟩ : ∃ n, n = l.length := ⟨_, rfl⟩
  have HN := Lib.hid hn
  by_cases h2 : n < 16
  · have E := Lib.hid (rloadF_no (l := l) (fun g => by have := g.1.2; omega) w w)
    rw [← hn] at hl ⊢
    have d1 : (n : Int) < 16 := by omega
    clear h hb hn h2
    go_enter Try.func32, Try.ntmps32
    go_wp2
    go_ret2
    exact ⟨E, Lib.hid (Below.refl _ _)⟩
  by_cases h1 : n % 8 = 0
  case neg =>
    have E := Lib.hid (rloadF_no (l := l) (fun g => by have := g.1.1; omega) w w)
    rw [← hn] at hl ⊢
    have d1 : ¬ (n : Int) < 16 := by omega
    have d2 : ¬ ((n : Int) % 8 = 0) := by omega
    clear h hb hn h2 h1
    go_enter Try.func32, Try.ntmps32
    go_wp2
    go_ret2
    exact ⟨E, Lib.hid (Below.refl _ _)⟩
  obtain ⟨M, hM⟩ : ∃ M, n = 8 * (M + 2) := ⟨n / 8 - 2, by omega⟩
  have HM := Lib.hid hM
  rw [← hn] at hl ⊢
  have d1 : ¬ (n : Int) < 16 := by omega
  have d2 : (n : Int) % 8 = 0 := by omega
  have ST : Hid (w.ownsRow w.heap.size 27 1 (.slice none 0 0) ((0 + 7) / 8) (wd (pk l 0))) := Lib.hid (World.ownsRow_nil _ _ _ _)
  clear h hb hn h2 h1 hM
  go_enter Try.func32, Try.ntmps32
  go_wp2
  go_loopw [4, 5] (fun v i wr => ∃ k : Nat, i = .int .i64 k ∧ k ≤ n ∧ Hid (wr.ownsRow w.heap.size 27 1 v ((k + 7) / 8) (wd (pk l k))) ∧ Hid (Below w.heap.size w wr)) (fun _ i _ => n - (intOf i).toNat)
  case atStart => exact ⟨0, rfl, by omega, ST, Lib.hid (Below.refl _ _)⟩
  case round =>
    obtain ⟨k, rfl, hk, OW, BW⟩ := hrel
    clear ST
    by_cases hkn : k < n
    · have hkni : (k : Int) < (n : Int) := by omega
      have hkl : k < l.length := by have := HN.out; omega
      obtain ⟨b, off, rfl, hbl, hlc, hc⟩ := IB.out.at (by omega)
      obtain ⟨y, hy⟩ : ∃ y, y = l[k] := ⟨_, rfl⟩
      have hby : Byte y := hy ▸ HB.out _ (List.getElem_mem hkl)
      have HCY : Hid (∀ W, Below w.heap.size w W → W.cell? ⟨b, off + k, none⟩ = some (.int .u8 y)) := Lib.hid (fun W hW => (hW.cell (p := ⟨b, off + k, none⟩) hbl).trans (by rw [hy]; exact hc k hkl))
      obtain ⟨hy0, hy1⟩ := hby
      obtain ⟨q, hq⟩ : ∃ q, q = k / 8 := ⟨_, rfl⟩
      have dq : (k : Int) / 8 = (q : Int) := by omega
      obtain ⟨x, hx⟩ : ∃ x, x = (pk1 l k).getD q 0 := ⟨_, rfl⟩
      have hxr := pk1_range HB.out k
      rw [← hq, ← hx] at hxr
      obtain ⟨hx0, hx1⟩ := hxr
      have hw1 : IntKind.u64.wrap (x * 256) = x * 256 := by rw [IntKind.wrap_u64]; omega
      have hw2 : IntKind.u64.wrap y = y := by rw [IntKind.wrap_u64]; omega
      have hor : bits .or .u64 (x * 256) y = x * 256 + y := join8 _ _ (by omega) (by omega) (by omega) hy0 hy1
      have HST : Hid (pk l (k + 1) = (pk1 l k).set q (x * 256 + y)) := Lib.hid (by rw [hx, hq, hy]; exact (pk_step k hkl).symm)
      have hlen1 : Hid ((k + 1 + 7) / 8 = q + 1) := Lib.hid (by omega)
      have HP1 : Hid ((pk1 l k).length = q + 1) := Lib.hid (by rw [pk1_len, hq])
      have HX := Lib.hid hx
      have hqb : q ≤ 125000 := by omega
      have HBS : Hid (w.heap.size ≤ wr.heap.size) := Lib.hid BW.out.size
      have hcy : wr.cell? ⟨b, off + k, none⟩ = some (.int .u8 y) := HCY.out _ BW.out
      by_cases hz : k % 8 = 0
      · have dz : (k : Int) % 8 = 0 := by omega
        have hk7 : (k + 7) / 8 = q := by omega
        have P1 : Hid (pk1 l k = pk l k ++ [0]) := Lib.hid (if_pos hz)
        rw [hk7] at OW
        clear hz hk7 hc hx hy hq hkl hlc hbl
        go_wp2_with (at_builtin; refine wpList_append_own_at _ rfl (.tmp 36) (.tmp 37) 45 rfl w.heap.size 27 k0 (.int .u64 0) 1 8 Try.underlying45 hk0 hz0 hz1 hz2 rfl (by decide) u4 q (wd (pk l k)) rfl (OW.out.alloc _) ⟨wr.heap.size, 0, none⟩ 1 1 [.int .u64 0] rfl rfl ?c1 ?c2 (by unfold maxLen; omega) (by omega) ?c3 ?_)
        case c1 => exact cell_one_new _ _ _
        case c2 => intro u hu; simp only [List.mem_singleton] at hu; subst hu; rfl
        case c3 => have := HBS.out; show w.heap.size ≤ (wr.heap.push _).size; simp; omega
        intro v1 w1 own1 gr1 _ at1
        have BW1 : Hid (Below w.heap.size w w1) := Lib.hid (by
          have f1 : Frm wr w1 (fun j => u4.ownBlock = some j) := (Frm.of_below (below_alloc wr _) (Nat.le_refl _) _).trans (Frm.of_grown gr1 (fun j hj => hj))
          exact BW.out.trans (f1.below (fun j hj => (OW.out.lt j hj).1) HBS.out))
        have OW1 : Hid (w1.ownsRow w.heap.size 27 1 v1 (q + 1) (wd (pk1 l k))) := Lib.hid (by rw [P1.out, wd_app]; first | exact own1 | simpa using own1)
        have hcy1 : w1.cell? ⟨b, off + k, none⟩ = some (.int .u8 y) := HCY.out _ BW1.out
        clear own1 gr1 at1 hcy
        obtain ⟨g, cc, rfl⟩ := vform27 OW1.out (by omega)
        have hcq : w1.cell? ⟨g, q, none⟩ = some (.int .u64 x) := by
          rw [OW1.out.cellAt q (by omega), wd_at _ _ (by rw [HP1.out]; omega), HX.out, getD_at (by rw [HP1.out]; omega)]
        have fz : w1.frozen? ⟨g, q, none⟩ = false := OW1.out.frozenAt q
        have FIN : Hid (∀ z, z = x * 256 + y → (w1.setCell ⟨g, q, none⟩ (.int .u64 z)).drew.ownsRow w.heap.size 27 1 (.slice (some ⟨g, 0, none⟩) (q + 1) cc) ((k + 1 + 7) / 8) (wd (pk l (k + 1))) ∧ Below w.heap.size w (w1.setCell ⟨g, q, none⟩ (.int .u64 z)).drew) := Lib.hid (fun z hz => by
          refine ⟨?_, (BW1.out.trans ((frm_set (R := fun j => j = g) q _ rfl).below (fun j hj => by rw [hj]; exact (OW1.out.lt g rfl).1) BW1.out.size)).drew⟩
          rw [hlen1.out, HST.out, hz, show wd ((pk1 l k).set q (x * 256 + y)) = (wd (pk1 l k)).set q (.int .u64 (x * 256 + y)) from by simp [wd, List.map_set]]
          exact (OW1.out.stored q _).1)
        go_wp2
        go_region
        go_wp2
        go_roundw
        case rel => exact ⟨k + 1, by go_num, by omega, Lib.hid (FIN.out _ rfl).1, Lib.hid (FIN.out _ rfl).2⟩
        case measure => simp [intOf]; omega
      · have dz : ¬ ((k : Int) % 8 = 0) := by omega
        have hk7 : (k + 7) / 8 = q + 1 := by omega
        have P1 : Hid (pk1 l k = pk l k) := Lib.hid (if_neg hz)
        rw [hk7] at OW
        have OW1 : Hid (wr.ownsRow w.heap.size 27 1 u4 (q + 1) (wd (pk1 l k))) := Lib.hid (by rw [P1.out]; exact OW.out)
        have BW1 := BW
        clear hz hk7 hc hx hy hq hkl hlc hbl OW
        obtain ⟨g, cc, rfl⟩ := vform27 OW1.out (by omega)
        have hcq : wr.cell? ⟨g, q, none⟩ = some (.int .u64 x) := by
          rw [OW1.out.cellAt q (by omega), wd_at _ _ (by rw [HP1.out]; omega), HX.out, getD_at (by rw [HP1.out]; omega)]
        have fz : wr.frozen? ⟨g, q, none⟩ = false := OW1.out.frozenAt q
        have FIN : Hid (∀ z, z = x * 256 + y → (wr.setCell ⟨g, q, none⟩ (.int .u64 z)).drew.ownsRow w.heap.size 27 1 (.slice (some ⟨g, 0, none⟩) (q + 1) cc) ((k + 1 + 7) / 8) (wd (pk l (k + 1))) ∧ Below w.heap.size w (wr.setCell ⟨g, q, none⟩ (.int .u64 z)).drew) := Lib.hid (fun z hz => by
          refine ⟨?_, (BW1.out.trans ((frm_set (R := fun j => j = g) q _ rfl).below (fun j hj => by rw [hj]; exact (OW1.out.lt g rfl).1) BW1.out.size)).drew⟩
          rw [hlen1.out, HST.out, hz, show wd ((pk1 l k).set q (x * 256 + y)) = (wd (pk1 l k)).set q (.int .u64 (x * 256 + y)) from by simp [wd, List.map_set]]
          exact (OW1.out.stored q _).1)
        go_wp2
        go_region
        go_wp2
        go_roundw
        case rel => exact ⟨k + 1, by go_num, by omega, Lib.hid (FIN.out _ rfl).1, Lib.hid (FIN.out _ rfl).2⟩
        case measure => simp [intOf]; omega
    · obtain rfl : k = n := by omega
      have hkni : ¬ (k : Int) < (k : Int) := by omega
      have hM := HM.out
      have hlM : l.length = 8 * (M + 2) := by have := HN.out; omega
      have OWM : Hid (wr.ownsRow w.heap.size 27 1 u4 (M + 2) (wd ((List.range (M + 2)).map (decAt l)))) := Lib.hid (by
        have z := OW.out
        rw [show (k + 7) / 8 = M + 2 from by omega, show pk l k = _ from by rw [HN.out, pk_end hlM]] at z
        exact z)
      have hMb : M ≤ 125000 := by omega
      have hML : l.length / 8 - 2 = M := by omega
      obtain ⟨rm, hrm⟩ : ∃ rm, rm = decAt l 0 := ⟨_, rfl⟩
      obtain ⟨tu, htu⟩ : ∃ tu, tu = decAt l 1 := ⟨_, rfl⟩
      have hlen2 : (wd ((List.range (M + 2)).map (decAt l))).length = M + 2 := by simp [wd]
      obtain ⟨g, cc, rfl, hccM⟩ := vform27c OWM.out (by omega)
      have c0 : wr.cell? ⟨g, 0, none⟩ = some (.int .u64 rm) := by
        rw [OWM.out.cellAt 0 (by omega), wd_at _ _ (by simp), hrm]; simp
      have c1 : wr.cell? ⟨g, 1, none⟩ = some (.int .u64 tu) := by
        rw [OWM.out.cellAt 1 (by omega), wd_at _ _ (by simp), htu]; simp
      have u0 := decAt_u64 HB.out 0
      have u1 := decAt_u64 HB.out 1
      rw [← hrm] at u0
      rw [← htu] at u1
      have hgood : Hid (goodL l ↔ 16 ≤ rm ∧ rm ≤ 65536 ∧ (M : Int) ≤ rm ∧ tu ≤ 9223372036854775807) := Lib.hid (by
        unfold goodL
        rw [hML, ← hrm, ← htu]
        constructor
        · exact fun g => g.2
        · exact fun g => ⟨⟨by omega, by omega⟩, g⟩)
      have hwM : IntKind.u64.wrap (M : Int) = (M : Int) := by rw [IntKind.wrap_u64]; omega
      obtain ⟨u00, u01⟩ := u0
      obtain ⟨u10, u11⟩ := u1
      have HRT := Lib.hid (And.intro hrm htu)
      have HML := Lib.hid hML
      clear hM hlM OW hML hrm htu hlen2
      by_cases q1 : rm < 16
      · have E := Lib.hid (rloadF_no (l := l) (fun g => by have := hgood.out.1 g; omega) w wr)
        go_wp2
        go_ret2
        exact ⟨E, BW⟩
      by_cases q2 : 65536 < rm
      · have E := Lib.hid (rloadF_no (l := l) (fun g => by have := hgood.out.1 g; omega) w wr)
        go_wp2
        go_ret2
        exact ⟨E, BW⟩
      by_cases q3 : 9223372036854775807 < tu
      · have E := Lib.hid (rloadF_no (l := l) (fun g => by have := hgood.out.1 g; omega) w wr)
        go_wp2
        go_ret2
        exact ⟨E, BW⟩
      by_cases q4 : rm < (M : Int)
      · have E := Lib.hid (rloadF_no (l := l) (fun g => by have := hgood.out.1 g; omega) w wr)
        go_wp2
        go_ret2
        exact ⟨E, BW⟩
      have HG : Hid (goodL l) := Lib.hid (hgood.out.2 ⟨by omega, by omega, by omega, by omega⟩)
      have wr1 : IntKind.i64.wrap rm = rm := IntWalk.i64_in _ (by omega)
      have wr2 : IntKind.i64.wrap tu = tu := IntWalk.i64_in _ (by omega)
      clear hgood
      obtain ⟨o', ho'⟩ : ∃ o' : Nat, o' = if cc = 2 then 0 else 2 := ⟨_, rfl⟩
      have hif : (if cc = 2 then (some ⟨g, 0, none⟩ : Option Addr) else some ⟨g, 2, none⟩) = some ⟨g, o', none⟩ := by rw [ho']; split <;> rfl
      have INW : Hid (∀ j (h : j < (wsOf l).length), wr.cell? ⟨g, o' + j, none⟩ = some (.int .u64 ((wsOf l)[j]))) := Lib.hid (fun j h => by
        have hwl : (wsOf l).length = M := by unfold wsOf; rw [List.length_map, List.length_range]; exact HML.out
        have ho2 : o' = 2 := by rw [ho', if_neg (by omega)]
        rw [ho2, OWM.out.cellAt (2 + j) (by omega), wd_at _ _ (by simp; omega)]
        simp [wsOf, Nat.add_comm])
      clear ho'
      have HGL : Hid (g < wr.heap.size) := Lib.hid (OWM.out.lt g rfl).2
      have FIN : Hid (∀ o : Obj, Below w.heap.size w (wr.alloc o).drew) := Lib.hid (fun o => (BW.out.trans ((below_alloc wr o).mono BW.out.size)).drew)
      have HLE : Hid (w.heap.size ≤ wr.heap.size) := Lib.hid BW.out.size
      go_wp2
      go_region
      obtain ⟨wH, hwH⟩ : ∃ wH, wH = (wr.alloc (.cells #[.int .i64 rm, .slice (some ⟨g, o', none⟩) M (cc - 2), .int .i64 tu] 47)).drew := ⟨_, rfl⟩
      rw [← hwH]
      have BH : Hid (Below w.heap.size w wH) := Lib.hid (by rw [hwH]; exact FIN.out _)
      have hHo : wH.heap[wr.heap.size]? = some (.cells #[.int .i64 rm, .slice (some ⟨g, o', none⟩) M (cc - 2), .int .i64 tu] 47 (0, 0)) := by
        rw [hwH]; show (wr.heap.push _)[wr.heap.size]? = _; simp
      have IW : Hid (InW wH (some ⟨g, o', none⟩) (cc - 2) (wsOf l)) := Lib.hid ⟨(fun e => by cases e), fun ad e => by
        injection e with e; subst e
        have h1 := HGL.out
        refine ⟨g, o', rfl, by rw [hwH]; show g < (wr.heap.push _).size; simp; omega, fun j hj => ?_⟩
        rw [hwH, ← INW.out j hj]
        exact ((below_alloc wr _).drew).cell (p := ⟨g, o' + j, none⟩) h1⟩
      have hwl : (wsOf l).length = M := by unfold wsOf; rw [List.length_map, List.length_range]; exact HML.out
      have WF : Hid (∀ x ∈ wsOf l, U64 x) := Lib.hid (fun x hx => by
        simp only [wsOf, List.mem_map] at hx
        obtain ⟨i, _, rfl⟩ := hx
        exact decAt_u64 HB.out _)
      have HWL := Lib.hid hwl
      have HHO := Lib.hid hHo
      obtain ⟨H, hH⟩ : ∃ H, H = wr.heap.size := ⟨_, rfl⟩
      rw [← hH] at HHO HLE hHo ⊢
      have f1 : wH.cell? ⟨H, 1, none⟩ = some (.slice (some ⟨g, o', none⟩) M (cc - 2)) := by simp [World.cell?, hHo]
      have ST0 : Hid (M - 0 ≤ M ∧ soundS (wsOf l) M 0 (List.replicate M false) = sndO (wsOf l) ∧ StI (wsOf l) 0 (List.replicate M false)) := Lib.hid ⟨by omega, by unfold sndO; rw [hwl], by have z := StI.init (wsOf l); rw [hwl] at z; exact z⟩
      clear hwH INW HGL FIN hHo hwl hH OWM c0 c1 hwM wr1 wr2 BW hif q1 q2 q3 q4 u00 u01 u10 u11
      go_wp2
      go_loop [7] (fun i => ∃ (a f : Nat) (st : List Bool), i = .int .i64 a ∧ a ≤ M ∧ Hid (M - a ≤ f ∧ soundS (wsOf l) f a st = sndO (wsOf l) ∧ StI (wsOf l) a st)) (fun i => M - (intOf i).toNat)
      case atStart => exact ⟨0, M, _, rfl, by omega, ST0⟩
      case round =>
        obtain ⟨a, f, st, rfl, ha, HS⟩ := hrel
        clear ST0
        by_cases haM : a < M
        · have haw : a < (wsOf l).length := by have := HWL.out; omega
          have haMi : (a : Int) < (M : Int) := by omega
          obtain ⟨b2, off2, e2, _, hc2⟩ := IW.out.at (by omega)
          injection e2 with e2; injection e2 with e2 e3 _; subst e2 e3
          have hcx := hc2 a haw
          obtain ⟨x, hx⟩ : ∃ x, x = (wsOf l)[a] := ⟨_, rfl⟩
          have hux : U64 x := hx ▸ WF.out _ (List.getElem_mem haw)
          have hgx : (wsOf l).getD a 0 = x := by rw [getD_at haw, hx]
          rw [← hx] at hcx
          have SP := Lib.hid (rsplit_any x hux.1 hux.2 wH)
          have hn := splS_nn hux.1
          have hz : szN (wsOf l) a = (splS x).toNat := by unfold szN; rw [hgx]
          have hga : goodAt (wsOf l) a = (splB x && decide (a + (splS x).toNat < (wsOf l).length)) := by unfold goodAt; rw [hz, hgx]
          obtain ⟨f', rfl⟩ : ∃ f', f = f' + 1 := ⟨f - 1, by have := HS.out.1; omega⟩
          obtain ⟨sz, hsz⟩ : ∃ sz : Nat, splS x = (sz : Int) := ⟨(splS x).toNat, by omega⟩
          rw [hsz] at SP hn hz hga
          rw [Int.toNat_natCast] at hz hga
          have hsz2 : sz ≤ 65535 := by omega
          have hun : soundS (wsOf l) (f' + 1) a st = if goodAt (wsOf l) a = true then soundS (wsOf l) f' (a + (szN (wsOf l) a + 1)) (st.set a true) else none := by
            show (if a < (wsOf l).length then _ else _) = _
            rw [if_pos haw]
          rw [hz] at hun
          have HUN := Lib.hid hun
          have HZ := Lib.hid hz
          have HGA := Lib.hid hga
          have hadd : IntKind.i64.wrap ((a : Int) + (sz : Int)) = (a : Int) + (sz : Int) := IntWalk.i64_in _ (by omega)
          have hadd2 : IntKind.i64.wrap ((a : Int) + (sz : Int) + 1) = (a : Int) + (sz : Int) + 1 := IntWalk.i64_in _ (by omega)
          clear hun hz hga hx hux hgx hsz hn hc2
          cases hB : splB x
          · have E : Hid (loadF l = none) := Lib.hid (loadF_none1 HG.out (by rw [← HS.out.2.1, HUN.out, HGA.out, hB]; rfl))
            rw [hB] at SP
            clear hB
            go_wp2_with fail
            refine SP.out.mono ?_; rintro e w2 ⟨rfl, rfl⟩
            go_wp2
            go_ret2
            exact ⟨Lib.hid (.inl ⟨E.out, rfl⟩), BH⟩
          · rw [hB] at SP
            by_cases hfit : (M : Int) ≤ (a : Int) + (sz : Int)
            · have E : Hid (loadF l = none) := Lib.hid (loadF_none1 HG.out (by
                rw [← HS.out.2.1, HUN.out, HGA.out, hB]
                have : decide (a + sz < (wsOf l).length) = false := decide_eq_false (by have := HWL.out; omega)
                rw [this]; rfl))
              clear hB
              go_wp2_with fail
              refine SP.out.mono ?_; rintro e w2 ⟨rfl, rfl⟩
              go_wp2
              go_ret2
              exact ⟨Lib.hid (.inl ⟨E.out, rfl⟩), BH⟩
            · have HGD : Hid (goodAt (wsOf l) a = true) := Lib.hid (by
                rw [HGA.out, hB]
                have : decide (a + sz < (wsOf l).length) = true := decide_eq_true (by have := HWL.out; omega)
                rw [this]; rfl)
              clear hB
              go_wp2_with fail
              refine SP.out.mono ?_; rintro e w2 ⟨rfl, rfl⟩
              go_wp2
              go_round
              case rel => exact ⟨a + (sz + 1), f', st.set a true, by push_cast; go_num, by omega, Lib.hid ⟨by have := HS.out.1; omega, by rw [← HS.out.2.1, HUN.out, if_pos HGD.out], by
                have q := HS.out.2.2.next (by have := HWL.out; omega) HGD.out
                rw [HZ.out] at q; exact q⟩⟩
              case measure => simp [intOf]; omega
        · obtain rfl : a = M := by omega
          have haMi : ¬ (a : Int) < (a : Int) := by omega
          have HO : Hid (sndO (wsOf l) = some st) := Lib.hid (by
            rw [← HS.out.2.1]
            cases f with
            | zero => rfl
            | succ f => show (if a < (wsOf l).length then _ else _) = _; rw [if_neg (by have := HWL.out; omega)])
          have HALF : Hid (Half (withSt (loadM l) st)) := Lib.hid (sndO_half (loadM_ok HB.out HG.out) HO.out)
          have RR0 : Hid (RH0 wH H (withSt (loadM l) st)) := Lib.hid ⟨HALF.out, 47, some ⟨g, o', none⟩, cc - 2, by
            rw [HHO.out, HRT.out.1, HRT.out.2]
            show _ = some (Obj.cells #[.int .i64 (decAt l 0), .slice (some ⟨g, o', none⟩) (wsOf l).length (cc - 2), .int .i64 (decAt l 1)] 47 (0, 0))
            rw [HWL.out], IW.out⟩
          clear HS haM
          obtain ⟨F, hF⟩ : ∃ F, F = withSt (loadM l) st := ⟨_, rfl⟩
          have hFw : F.ws = wsOf l := by rw [hF]; rfl
          have hFs : F.st = st := by rw [hF]; rfl
          have HF := Lib.hid hF
          have HFW := Lib.hid hFw
          rw [← hF] at HALF RR0
          have ST3 : Hid ((0 = a ∨ F.st.getD 0 false = true) ∧ fitAll F 0 = true) := Lib.hid ⟨HALF.out.tight.zero.imp (fun e => by rw [← HWL.out, ← hFw]; exact e.symm) id, rfl⟩
          clear hF hFw hFs
          go_wp2
          go_loop [12] (fun i => ∃ d : Nat, i = .int .i64 d ∧ d ≤ a ∧ Hid ((d = a ∨ F.st.getD d false = true) ∧ fitAll F d = true)) (fun i => a - (intOf i).toNat)
          case atStart => exact ⟨0, rfl, by omega, ST3⟩
          case round =>
            obtain ⟨d, rfl, hd, HK⟩ := hrel
            clear ST3
            by_cases hda : d < a
            · have hdw : d < F.ws.length := by rw [HFW.out, HWL.out]; exact hda
              have hdl : d < (wsOf l).length := by rw [HWL.out]; exact hda
              have hst : F.st.getD d false = true := HK.out.1.resolve_left (by omega)
              obtain ⟨g1, g2, g3⟩ := HALF.out.snd d hdw hst
              obtain ⟨b2, off2, e2, _, hc2⟩ := IW.out.at (by omega)
              injection e2 with e2; injection e2 with e2 e3 _; subst e2 e3
              have hcx := hc2 d hdl
              obtain ⟨x, hx⟩ : ∃ x, x = (wsOf l)[d] := ⟨_, rfl⟩
              have hux : U64 x := hx ▸ WF.out _ (List.getElem_mem hdl)
              have hgx : F.ws.getD d 0 = x := by rw [HFW.out, getD_at hdl, hx]
              rw [← hx] at hcx
              rw [hgx] at g1 g2 g3
              have SP := Lib.hid (rsplit_any x hux.1 hux.2 wH)
              have hn := splS_nn hux.1
              obtain ⟨sz, hsz⟩ : ∃ sz : Nat, splS x = (sz : Int) := ⟨(splS x).toNat, by omega⟩
              rw [hsz] at SP g2 g3 hn
              rw [Int.toNat_natCast] at g2 g3
              have hB : splB x = true := decide_eq_true g1
              rw [hB] at SP
              have hdi : (d : Int) < (a : Int) := by omega
              have hsz2 : sz ≤ 65535 := by omega
              have g2a : d + 1 + sz ≤ a := by rw [HFW.out, HWL.out] at g2; exact g2
              have HT : Hid (d + sz + 1 = a ∨ F.st.getD (d + sz + 1) false = true) := Lib.hid (by
                have z := HALF.out.tight.next d hdw hst
                have hs : szN F.ws d = sz := by unfold szN; rw [hgx, hsz]; rfl
                rw [hs, show d + 1 + sz = d + sz + 1 from by omega, HFW.out, HWL.out] at z
                exact z)
              have HFR : Hid (∀ j, d < j → j ≤ d + sz → F.st.getD j false = false) := Lib.hid g3
              have F1 : Hid (fitAll F (d + 1) = true) := Lib.hid (by rw [fitAll_next HK.out.2, hst]; rfl)
              have w1 : IntKind.i64.wrap ((d : Int) + (sz : Int)) = (d : Int) + (sz : Int) := IntWalk.i64_in _ (by omega)
              have w2 : IntKind.i64.wrap ((d : Int) + (sz : Int) + 1) = (d : Int) + (sz : Int) + 1 := IntWalk.i64_in _ (by omega)
              have HC2 := Lib.hid hc2
              clear hx hux hgx hsz hB g1 g2 g3 hst hc2 hdw hdl hn
              go_wp2_with fail
              refine SP.out.mono ?_; rintro e w3 ⟨rfl, rfl⟩
              go_wp2
              go_loop [17] (fun i => ∃ j : Nat, i = .int .i64 j ∧ 1 ≤ j ∧ j ≤ sz + 1 ∧ Hid (fitAll F (d + j) = true)) (fun i => sz + 1 - (intOf i).toNat)
              case atStart => exact ⟨1, rfl, by omega, by omega, F1⟩
              case round =>
                obtain ⟨j, rfl, hj1, hj2, HJ⟩ := hrel
                by_cases hjs : j ≤ sz
                · have hjl : d + j < (wsOf l).length := by rw [HWL.out]; omega
                  have hcy := HC2.out (d + j) hjl
                  obtain ⟨y, hy⟩ : ∃ y, y = (wsOf l)[d + j] := ⟨_, rfl⟩
                  have huy : U64 y := hy ▸ WF.out _ (List.getElem_mem hjl)
                  have hgy : F.ws.getD (d + j) 0 = y := by rw [HFW.out, getD_at hjl, hy]
                  rw [← hy] at hcy
                  have FT := Lib.hid (rword0_any RR0.out y huy)
                  have HN : Hid (fitAll F (d + j + 1) = fitsB F y) := Lib.hid (by
                    rw [fitAll_next HJ.out, HFR.out (d + j) (by omega) (by omega), hgy]; rfl)
                  have w3 : IntKind.i64.wrap ((d : Int) + (j : Int)) = (d : Int) + (j : Int) := IntWalk.i64_in _ (by omega)
                  have hji : (j : Int) ≤ (sz : Int) := by omega
                  have hdj : (d : Int) + (j : Int) < (a : Int) := by omega
                  have hdj0 : 0 ≤ (d : Int) + (j : Int) := by omega
                  have hcy2 : wH.cell? ⟨g, o' + (d + j), none⟩ = some (.int .u64 y) := hcy
                  clear hy huy hgy hjl hcy
                  cases hf : fitsB F y
                  · have E : Hid (loadF l = none) := Lib.hid (loadF_none2 HG.out HO.out (k := d + j + 1) (by rw [HWL.out]; omega) (by rw [← HF.out, HN.out, hf]))
                    rw [hf] at FT
                    clear hf
                    go_wp2_with fail
                    refine FT.out.mono ?_; rintro e w4 ⟨rfl, rfl⟩
                    go_wp2
                    go_ret2
                    exact ⟨Lib.hid (.inl ⟨E.out, rfl⟩), BH⟩
                  · have HN2 : Hid (fitAll F (d + (j + 1)) = true) := Lib.hid (by rw [← hf]; exact HN.out)
                    rw [hf] at FT
                    clear hf
                    go_wp2_with fail
                    refine FT.out.mono ?_; rintro e w4 ⟨rfl, rfl⟩
                    go_wp2
                    go_round
                    case rel => exact ⟨j + 1, by go_num, by omega, by omega, HN2⟩
                    case measure => simp [intOf]; omega
                · obtain rfl : j = sz + 1 := by omega
                  have hji : ¬ ((sz + 1 : Nat) : Int) ≤ (sz : Int) := by omega
                  have hji2 : (sz : Int) < ((sz + 1 : Nat) : Int) := by omega
                  go_wp2
                  go_round
                  case rel => exact ⟨d + sz + 1, by push_cast; go_num, by omega, Lib.hid ⟨HT.out, HJ.out⟩⟩
                  case measure => simp [intOf]; omega
            · obtain rfl : d = a := by omega
              have hdi : ¬ (d : Int) < (d : Int) := by omega
              have E : Hid (loadF l = some F) := Lib.hid (by
                rw [HF.out]
                refine loadF_some HG.out HO.out ?_
                rw [HWL.out, ← HF.out]; exact HK.out.2)
              go_wp2
              go_ret2
              exact ⟨Lib.hid (.inr ⟨F, H, E.out, HLE.out, rfl, RR0.out⟩), BH⟩
end Go.Proofs.Ytknpgmbniohcnaa
