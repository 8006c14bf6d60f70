import Derived.Test.YtknpgmbniohcnaaSd
namespace Go.Proofs.Ytknpgmbniohcnaa
open Go.ChangeShapes Go.WideShapes Go.ChangeAt Go.RowKit
set_option linter.unusedVariables false
def wsOf (l : List Int) : List Int := (List.range (l.length / 8 - 2)).map (fun i => decAt l (i + 2))
def goodL (l : List Int) : Prop := (l.length % 8 = 0 ∧ 16 ≤ l.length) ∧ 16 ≤ decAt l 0 ∧ decAt l 0 ≤ 65536 ∧ ((l.length / 8 - 2 : Nat) : Int) ≤ decAt l 0 ∧ decAt l 1 ≤ 9223372036854775807
instance (l : List Int) : Decidable (goodL l) := by unfold goodL; infer_instance
def loadM (l : List Int) : Hm := ⟨decAt l 0, decAt l 1, wsOf l, List.replicate (l.length / 8 - 2) false⟩
def loadF (l : List Int) : Option Hm := if goodL l then (if sndB (loadM l) = true then (sndO (wsOf l)).map (withSt (loadM l)) else none) else none
def LoadE (w w' : World) (l : List Int) (e : Ending) : Prop := (loadF l = none ∧ e = .returned (.tuple #[.pointer none, .int .i64 3])) ∨ ∃ m H, loadF l = some m ∧ w.heap.size ≤ H ∧ e = .returned (.tuple #[.pointer (some ⟨H, 0, none⟩), .int .i64 0]) ∧ HpAt w' w.heap.size H 0 m
theorem decAt_u64 {l : List Int} (hb : ∀ x ∈ l, Byte x) (i : Nat) : U64 (decAt l i) := by
  have h := dec_range ((l.drop (i * 8)).take 8) (fun y hy => hb y (List.mem_of_mem_drop (List.mem_of_mem_take hy)))
  have hk8 : ((l.drop (i * 8)).take 8).length ≤ 8 := by rw [List.length_take]; omega
  obtain ⟨k, hk⟩ : ∃ k, k = ((l.drop (i * 8)).take 8).length := ⟨_, rfl⟩
  rw [← hk] at h hk8
  have h7 : (256 : Nat) ^ k ≤ 256 ^ 8 := Nat.pow_le_pow_right (by decide) hk8
  have e : ((256 ^ k : Nat) : Int) = (256 : Int) ^ k := Int.natCast_pow 256 k
  have e2 : (256 : Nat) ^ 8 = 18446744073709551616 := by decide
  unfold decAt U64
  omega
theorem loadF_no {l : List Int} (h : ¬ goodL l) (w : World) : LoadE w w l (.returned (.tuple #[.pointer none, .int .i64 3])) := .inl ⟨if_neg h, rfl⟩
theorem info4' : (Try.prog.info? 4).map (fun i => (i.zero, i.size, i.bytes)) = some (some (.bool false), 1, 1) := info4
def lm0 (rm tu : Int) (M : Nat) : Hm := ⟨rm, tu, List.replicate M 0, List.replicate M false⟩
structure Ld0 (w w' : World) (H : Nat) (rm tu : Int) (M : Nat) : Prop where
  bel : Below w.heap.size w w'
  ge : w.heap.size ≤ H
  hp : HpAt w' w.heap.size H 0 (lm0 rm tu M)
theorem lm0_ok {rm tu : Int} {M : Nat} (h0 : 0 ≤ rm) (h1 : rm ≤ 65536) (h2 : (M : Int) ≤ rm) (h3 : 0 ≤ tu) (h4 : tu ≤ 9223372036854775807) : (lm0 rm tu M).Ok := by
  refine ⟨by simp [lm0], by simp [lm0]; omega, h0, h1, h3, h4, fun x hx => ?_, fun a ha hs => ?_⟩
  · rw [List.eq_of_mem_replicate hx]; exact ⟨by decide, by decide⟩
  · simp only [lm0] at hs
    rw [List.getD_eq_getElem?_getD, List.getElem?_replicate] at hs
    split at hs <;> cases hs
theorem ld0_of {w w' : World} {H W S M : Nat} {rm tu : Int} (ok : (lm0 rm tu M).Ok) (hb : Below w.heap.size w w') (hH : w'.heap[H]? = some (.cells #[.int .i64 rm, .int .i64 tu, .slice (some ⟨W, 0, none⟩) M M, .slice (some ⟨S, 0, none⟩) M M] 70 (0, 0)))
    (hW : w'.heap[W]? = some (.cells (madeCells #[.int .u64 0] M) 28 (0, 0))) (hS : w'.heap[S]? = some (.cells (madeCells #[.bool false] M) 4 (0, 0))) (g1 : w.heap.size ≤ H) (g2 : w.heap.size ≤ W) (g3 : w.heap.size ≤ S) : Ld0 w w' H rm tu M := by
  have hl := ok.lt
  have hl2 : M ≤ 65536 := by simpa [lm0] using hl
  refine ⟨hb, g1, ok, hb.size, _, 70, some ⟨W, 0, none⟩, M, some ⟨S, 0, none⟩, M, by decide, by decide, by decide, hH, rfl, rfl, by simp [lm0], by simp [lm0], ?_, ?_⟩
  · simp only [lm0, List.length_replicate]
    refine ⟨by simp [wd], .inr ⟨W, _, _, rfl, g2, hW, Nat.le_refl _, by unfold maxLen; omega, by simp [size_madeCells], ?_⟩⟩
    rw [toList_madeCells_one, List.take_of_length_le (by simp)]; simp [wd]
  · simp only [lm0, List.length_replicate]
    refine ⟨by simp [bo], .inr ⟨S, _, _, rfl, g3, hS, Nat.le_refl _, by unfold maxLen; omega, by simp [size_madeCells], ?_⟩⟩
    rw [toList_madeCells_one, List.take_of_length_le (by simp)]; simp [bo]
theorem heap3 (w : World) (a b c : Obj) : ((((w.alloc a).alloc b).alloc c).drew).heap[w.heap.size]? = some a ∧ ((((w.alloc a).alloc b).alloc c).drew).heap[w.heap.size + 1]? = some b ∧ ((((w.alloc a).alloc b).alloc c).drew).heap[w.heap.size + 2]? = some c ∧ Below w.heap.size w ((((w.alloc a).alloc b).alloc c).drew) := by
  refine ⟨?_, ?_, ?_, (((below_alloc w _).alloc (by show _ ≤ (w.heap.push _).size; simp) _).alloc (by show _ ≤ ((w.heap.push _).push _).size; simp; omega) _).drew⟩
  · show ((((w.heap.push _).push _).push _))[w.heap.size]? = _
    rw [Array.getElem?_push, if_neg (by simp; omega), Array.getElem?_push, if_neg (by simp), Array.getElem?_push, if_pos rfl]
  · show ((((w.heap.push _).push _).push _))[w.heap.size + 1]? = _
    rw [Array.getElem?_push, if_neg (by simp), Array.getElem?_push, if_pos (by simp)]
  · show ((((w.heap.push _).push _).push _))[w.heap.size + 2]? = _
    rw [Array.getElem?_push, if_pos (by simp)]
set_option maxRecDepth 100000 in
set_option maxHeartbeats 8000000 in
theorem load_any {w : World} {A : Option Addr} {c : Nat} {l : List Int} (h : InB w A c l) (hb : ∀ x ∈ l, Byte x) (hl : l.length ≤ 1000000) :
    Calls Try.prog 18 #[.slice A l.length c] w fun e w' => Hid (LoadE w w' l e) ∧ Hid (Below w.heap.size w w') := by
  obtain ⟨j0, hj0, hy0, hy1, hy2⟩ := info_parts info28
  obtain ⟨s0_, hs0, hsz0, hs1, hs2⟩ := info_parts info4
  have HB := Lib.hid hb
  obtain ⟨n, hn⟩ : ∃ n, n = l.length := ⟨_, rfl⟩
  have HN := Lib.hid hn
  by_cases h1 : n % 8 = 0
  case neg =>
    have E := Lib.hid (loadF_no (l := l) (fun g => h1 (by rw [hn]; exact g.1.1)) w)
    rw [← hn] at hl ⊢
    have d1 : ¬ ((n : Int) % 8 = 0) := by omega
    clear h hb h1 hn
    go_enter Try.func18, Try.ntmps18
    go_wp2
    go_ret2
    exact ⟨E, Lib.hid (Below.refl _ _)⟩
  by_cases h2 : 16 ≤ n
  case neg =>
    have E := Lib.hid (loadF_no (l := l) (fun g => h2 (by rw [hn]; exact g.1.2)) w)
    rw [← hn] at hl ⊢
    have d1 : (n : Int) % 8 = 0 := by omega
    have d2 : ¬ (0 ≤ (n : Int) / 8 - 2) := by omega
    have d3 : (n : Int) / 8 - 2 < 0 := by omega
    clear h hb h1 hn h2
    go_enter Try.func18, Try.ntmps18
    go_wp2
    go_ret2
    exact ⟨E, Lib.hid (Below.refl _ _)⟩
  obtain ⟨M, hM⟩ : ∃ M, n = 8 * (M + 2) := ⟨n / 8 - 2, by omega⟩
  have hMl : l.length / 8 - 2 = M := by omega
  have d1 : (n : Int) % 8 = 0 := by omega
  have d2 : (n : Int) / 8 = (M : Int) + 2 := by omega
  have hMb : M ≤ 125000 := by omega
  have G0 := Lib.hid (bget_any h hb 0 (by omega) (by omega))
  have G1 := Lib.hid (bget_any h hb 1 (by omega) (by omega))
  have u0 := decAt_u64 hb 0
  have u1 := decAt_u64 hb 1
  obtain ⟨rm, hrm⟩ : ∃ rm, rm = decAt l 0 := ⟨_, rfl⟩
  obtain ⟨tu, htu⟩ : ∃ tu, tu = decAt l 1 := ⟨_, rfl⟩
  have IB := Lib.hid h
  rw [← hrm] at G0 u0
  rw [← htu] at G1 u1
  have HRT := Lib.hid (And.intro hrm htu)
  have HML := Lib.hid hMl
  have hgood : goodL l ↔ 16 ≤ rm ∧ rm ≤ 65536 ∧ (M : Int) ≤ rm ∧ tu ≤ 9223372036854775807 := by
    unfold goodL
    rw [hMl, ← hrm, ← htu]
    constructor
    · exact fun g => g.2
    · exact fun g => ⟨⟨by omega, by omega⟩, g⟩
  rw [← hn] at hl G0 G1 ⊢
  obtain ⟨u00, u01⟩ := u0
  obtain ⟨u10, u11⟩ := u1
  by_cases c1 : rm < 16
  case pos =>
    have E := Lib.hid (loadF_no (l := l) (fun g => by have := hgood.1 g; omega) w)
    have dd := decide_eq_true c1
    clear h hb h1 h2 hn hM hMl hrm htu hgood
    go_enter Try.func18, Try.ntmps18
    go_wp2_with fail
    refine G0.out.mono ?_; rintro e w1 ⟨rfl, rfl⟩
    go_wp2_with fail
    refine G1.out.mono ?_; rintro e w1 ⟨rfl, rfl⟩
    go_wp2
    go_ret2
    exact ⟨E, Lib.hid (Below.refl _ _)⟩
  by_cases c2 : 65536 < rm
  case pos =>
    have E := Lib.hid (loadF_no (l := l) (fun g => by have := hgood.1 g; omega) w)
    have dd := decide_eq_false c1
    have dd2 := decide_eq_true c2
    clear h hb h1 h2 hn hM hMl hrm htu hgood
    go_enter Try.func18, Try.ntmps18
    go_wp2_with fail
    refine G0.out.mono ?_; rintro e w1 ⟨rfl, rfl⟩
    go_wp2_with fail
    refine G1.out.mono ?_; rintro e w1 ⟨rfl, rfl⟩
    go_wp2
    go_ret2
    exact ⟨E, Lib.hid (Below.refl _ _)⟩
  by_cases c3 : rm < (M : Int)
  case pos =>
    have E := Lib.hid (loadF_no (l := l) (fun g => by have := hgood.1 g; omega) w)
    have dd := decide_eq_false c1
    have dd2 := decide_eq_false c2
    have dd3 := decide_eq_true c3
    clear h hb h1 h2 hn hM hMl hrm htu hgood
    go_enter Try.func18, Try.ntmps18
    go_wp2_with fail
    refine G0.out.mono ?_; rintro e w1 ⟨rfl, rfl⟩
    go_wp2_with fail
    refine G1.out.mono ?_; rintro e w1 ⟨rfl, rfl⟩
    go_wp2
    go_ret2
    exact ⟨E, Lib.hid (Below.refl _ _)⟩
  by_cases c4 : 9223372036854775807 < tu
  case pos =>
    have E := Lib.hid (loadF_no (l := l) (fun g => by have := hgood.1 g; omega) w)
    have dd := decide_eq_false c1
    have dd2 := decide_eq_false c2
    have dd3 := decide_eq_false c3
    have dd4 := decide_eq_true c4
    clear h hb h1 h2 hn hM hMl hrm htu hgood
    go_enter Try.func18, Try.ntmps18
    go_wp2_with fail
    refine G0.out.mono ?_; rintro e w1 ⟨rfl, rfl⟩
    go_wp2_with fail
    refine G1.out.mono ?_; rintro e w1 ⟨rfl, rfl⟩
    go_wp2
    go_ret2
    exact ⟨E, Lib.hid (Below.refl _ _)⟩
  have dd := decide_eq_false c1
  have dd2 := decide_eq_false c2
  have dd3 := decide_eq_false c3
  have dd4 := decide_eq_false c4
  have OK0 : Hid (lm0 rm tu M).Ok := Lib.hid (lm0_ok u00 (by omega) (by omega) u10 (by omega))
  have GD : Hid (goodL l) := Lib.hid (hgood.2 ⟨by omega, by omega, by omega, by omega⟩)
  clear h hb h1 h2 hn hM hMl hrm htu hgood
  go_enter Try.func18, Try.ntmps18
  go_wp2_with fail
  refine G0.out.mono ?_; rintro e w1 ⟨rfl, rfl⟩
  go_wp2_with fail
  refine G1.out.mono ?_; rintro e w1 ⟨rfl, rfl⟩
  go_wp2_with fail
  rename_i K hK
  refine Code.wp_mono (Q := Exit.then (fun a' w' => ∃ H t1 t2 t3 t4 t5 t6 t8 t9 t10 t11 t12 t13 t14 t15 t16 t17 t18 t19 t20 t21 t22 t23 t24 t25 t26 t27 t28 t29 t30 t31 t32 t33 t34 t35 t36 t37 t38 t39 t40 t41 t42 t43 t44 t45 t46 t47 t48 t49 t50, a' = ⟨#[.slice A n c, t1, t2, t3, t4, t5, t6, .pointer (some ⟨H, 0, none⟩), t8, t9, t10, t11, t12, t13, t14, t15, t16, t17, t18, t19, t20, t21, t22, t23, t24, t25, t26, t27, t28, t29, t30, t31, t32, t33, t34, t35, t36, t37, t38, t39, t40, t41, t42, t43, t44, t45, t46, t47, t48, t49, t50, undef, undef, undef, undef, undef, undef, undef, undef, undef, undef, undef, undef, undef, undef, undef, undef, undef, undef, undef, undef, undef, undef, undef], []⟩ ∧ Ld0 w w' H rm tu M) (fun _ _ _ => False)) ?rest ?_
  case rest =>
    intro e a' W hq
    cases e
    case normal =>
      obtain ⟨H, t1, t2, t3, t4, t5, t6, t8, t9, t10, t11, t12, t13, t14, t15, t16, t17, t18, t19, t20, t21, t22, t23, t24, t25, t26, t27, t28, t29, t30, t31, t32, t33, t34, t35, t36, t37, t38, t39, t40, t41, t42, t43, t44, t45, t46, t47, t48, t49, t50, rfl, LD⟩ := hq
      show K _ _
      refine hK _ _ ?_
      clear hK K
      have LDH := Lib.hid LD
      have HLM : Hid ((wsOf l).length = M) := Lib.hid (by unfold wsOf; rw [List.length_map, List.length_range]; exact HML.out)
      obtain ⟨A1, c1, A2, c2, f0, f1, f2x, f3, hw, hs⟩ := LD.hp.cells
      have f2 : W.cell? ⟨H, 2, none⟩ = some (.slice A1 M c1) := by simpa [lm0] using f2x
      have ST : Hid (HpAt W w.heap.size H 0 ⟨rm, tu, (wsOf l).take 0 ++ List.replicate (M - 0) 0, List.replicate M false⟩) := Lib.hid (by have z := LD.hp; unfold lm0 at z; simpa using z)
      clear LD f0 f1 f2x f3 hw hs
      have hMle : M ≤ 65536 := by omega
      go_wp2
      go_loopw [56] (fun i wr => ∃ k : Nat, i = .int .i64 k ∧ k ≤ M ∧ Hid (HpAt wr w.heap.size H 0 ⟨rm, tu, (wsOf l).take k ++ List.replicate (M - k) 0, List.replicate M false⟩) ∧ Hid (Below w.heap.size w wr)) (fun i _ => M - (intOf i).toNat)
      case atStart => exact ⟨0, rfl, by omega, ST, Lib.hid LDH.out.bel⟩
      case round =>
        obtain ⟨k, rfl, hk, HW, BW⟩ := hrel
        clear ST f2
        by_cases hkM : k < M
        · have hkMi : (k : Int) < (M : Int) := by omega
          have hlen : ((wsOf l).take k ++ List.replicate (M - k) 0).length = M := by
            have := HLM.out
            rw [List.length_append, List.length_take, List.length_replicate]; omega
          obtain ⟨B1, cw, B2, d2, p0, p1, p2, p3, hw, hs⟩ := HW.out.cells
          obtain ⟨g, rfl, hc⟩ := hw k (by show k < ((wsOf l).take k ++ List.replicate (M - k) 0).length; rw [hlen]; exact hkM)
          have P2X := Lib.hid p2
          have q2 : wr.cell? ⟨H, 2, none⟩ = some (.slice (some ⟨g, 0, none⟩) M cw) := by
            have z := p2
            rw [show (Hm.mk rm tu ((wsOf l).take k ++ List.replicate (M - k) 0) (List.replicate M false)).ws.length = M from hlen] at z
            exact z
          have fz : wr.frozen? ⟨g, k, none⟩ = false := World.frozen?_of_HpAt HW.out p2 k
          obtain ⟨y, hy⟩ : ∃ y, wr.cell? ⟨g, k, none⟩ = some y := ⟨_, hc⟩
          have GE0 : Hid (Calls Try.prog 40 #[.slice A n c, .int .i64 ((k : Int) + 2)] wr.drew fun e w' => e = .returned (.int .u64 (decAt l (k + 2))) ∧ wr.drew = w') := Lib.hid (by
            have hml := HML.out
            have hn := HN.out
            have hM2 : l.length = 8 * (M + 2) := by
              have h := GD.out.1
              omega
            have z := bget_any (IB.out.below (BW.out.trans (bdr wr |>.mono BW.out.size))) HB.out (k + 2) (by omega) (by omega)
            rw [← hn] at z
            have e : (((k + 2 : Nat)) : Int) = (k : Int) + 2 := by push_cast; rfl
            rw [e] at z
            exact z)
          obtain ⟨v, hv⟩ : ∃ v, v = decAt l (k + 2) := ⟨_, rfl⟩
          rw [← hv] at GE0
          have GE := GE0
          have HV := Lib.hid hv
          have hadd : IntKind.i64.wrap ((k : Int) + 2) = (k : Int) + 2 := IntWalk.i64_in _ (by omega)
          have hneg : ¬ g = H := fun e => by
            obtain ⟨cc, T, X1, y1, X2, y2, t1, t2, t3, e1, e2, e3, e4, e5, o1, o2⟩ := HW.out.at_
            have z : wr.cell? ⟨H, 0 + 2, none⟩ = some (.slice X1 ((wsOf l).take k ++ List.replicate (M - k) 0).length y1) := by simpa [World.cell?, e1] using e4
            rw [P2X.out] at z; injection z with z; injection z with z _ _; subst z
            exact row_ne o1 e1 t1 (by simp [Value.ownBlock, e])
          have hneg2 : ¬ H = g := fun e => hneg e.symm
          clear hv GE0 p0 p1 p2 p3 hw hs hc hlen
          go_wp2_with fail
          refine wp_region_held_drew (S := fun w' => w'.cell? ⟨H, 2, none⟩ = some (.slice (some ⟨g, 0, none⟩) M cw)) (by kernel_rfl) ?_ (fun hHeld => ?_)
          · (try dsimp only); go_keep
          refine wpAnyH_take (i := 0) (oi := { dst := some 59, op := Go.Op.move (Go.Operand.tmp 7), type := 23, pos := _, after := #[], guard := none }) (v := ?vz0) rfl (by kernel_rfl) (by kernel_rfl) (by kernel_rfl) (fun _ _ _ h => h) (Or.inl ⟨by rfl, ?hyz0⟩) (by assumption) ?_
          case hyz0 => (intro wz hSw; (try dsimp only at hSw); go_simp; try with_reducible rfl)
          (try simp only [Act.put, List.setIfInBounds_toArray, List.set_cons_zero, List.set_cons_succ])
          refine wpAnyH_take (i := 1) (oi := { dst := some 60, op := Go.Op.nilCheck (Go.Operand.tmp 59), type := 0, pos := _, after := #[{ on := 0, ground := Go.Ground.data }], guard := none }) (v := ?vz1) rfl (by kernel_rfl) (by kernel_rfl) (by kernel_rfl) (fun _ _ _ h => h) (Or.inl ⟨by rfl, ?hyz1⟩) (by assumption) ?_
          case hyz1 => (intro wz hSw; (try dsimp only at hSw); go_simp; try with_reducible rfl)
          (try simp only [Act.put, List.setIfInBounds_toArray, List.set_cons_zero, List.set_cons_succ])
          refine wpAnyH_take (i := 2) (oi := { dst := some 61, op := Go.Op.fieldAddr 70 (Go.Operand.tmp 60) 2, type := 0, pos := _, after := #[{ on := 1, ground := Go.Ground.data }], guard := none }) (v := ?vz2) rfl (by kernel_rfl) (by kernel_rfl) (by kernel_rfl) (fun _ _ _ h => h) (Or.inl ⟨by rfl, ?hyz2⟩) (by assumption) ?_
          case hyz2 => (intro wz hSw; (try dsimp only at hSw); go_simp; try with_reducible rfl)
          (try simp only [Act.put, List.setIfInBounds_toArray, List.set_cons_zero, List.set_cons_succ])
          refine wpAnyH_take (i := 3) (oi := { dst := some 62, op := Go.Op.load 34 (Go.Operand.tmp 61), type := 34, pos := _, after := #[{ on := 2, ground := Go.Ground.data }], guard := none }) (v := ?vz3) rfl (by kernel_rfl) (by kernel_rfl) (by kernel_rfl) (fun _ _ _ h => h) (Or.inl ⟨by rfl, ?hyz3⟩) (by assumption) ?_
          case hyz3 => (intro wz hSw; (try dsimp only at hSw); go_simp; try with_reducible rfl)
          (try simp only [Act.put, List.setIfInBounds_toArray, List.set_cons_zero, List.set_cons_succ])
          refine wpAnyH_take (i := 4) (oi := { dst := some 63, op := Go.Op.move (Go.Operand.tmp 8), type := 3, pos := _, after := #[], guard := none }) (v := ?vz4) rfl (by kernel_rfl) (by kernel_rfl) (by kernel_rfl) (fun _ _ _ h => h) (Or.inl ⟨by rfl, ?hyz4⟩) (by assumption) ?_
          case hyz4 => (intro wz hSw; (try dsimp only at hSw); go_simp; try with_reducible rfl)
          (try simp only [Act.put, List.setIfInBounds_toArray, List.set_cons_zero, List.set_cons_succ])
          refine wpAnyH_take (i := 5) (oi := { dst := some 64, op := Go.Op.move (Go.Operand.tmp 0), type := 40, pos := _, after := #[], guard := none }) (v := ?vz5) rfl (by kernel_rfl) (by kernel_rfl) (by kernel_rfl) (fun _ _ _ h => h) (Or.inl ⟨by rfl, ?hyz5⟩) (by assumption) ?_
          case hyz5 => (intro wz hSw; (try dsimp only at hSw); go_simp; try with_reducible rfl)
          (try simp only [Act.put, List.setIfInBounds_toArray, List.set_cons_zero, List.set_cons_succ])
          refine wpAnyH_take (i := 6) (oi := { dst := some 65, op := Go.Op.move (Go.Operand.tmp 8), type := 3, pos := _, after := #[], guard := none }) (v := ?vz6) rfl (by kernel_rfl) (by kernel_rfl) (by kernel_rfl) (fun _ _ _ h => h) (Or.inl ⟨by rfl, ?hyz6⟩) (by assumption) ?_
          case hyz6 => (intro wz hSw; (try dsimp only at hSw); go_simp; try with_reducible rfl)
          (try simp only [Act.put, List.setIfInBounds_toArray, List.set_cons_zero, List.set_cons_succ])
          refine wpAnyH_take (i := 7) (oi := { dst := some 66, op := Go.Op.binOp Go.BinOp.add 3 (Go.Operand.tmp 65) (Go.Operand.const (Go.Value.int Go.IntKind.i64 2)) 3, type := 3, pos := _, after := #[{ on := 6, ground := Go.Ground.data }], guard := none }) (v := ?vz7) rfl (by kernel_rfl) (by kernel_rfl) (by kernel_rfl) (fun _ _ _ h => h) (Or.inl ⟨by rfl, ?hyz7⟩) (by assumption) ?_
          case hyz7 => (intro wz hSw; (try dsimp only at hSw); go_simp; try with_reducible rfl)
          (try simp only [Act.put, List.setIfInBounds_toArray, List.set_cons_zero, List.set_cons_succ])
          refine wpAnyH_ready (rs := [8]) (by kernel_rfl) (by simp) ?_
          refine AllReadyH.cons (o := { dst := some 67, op := Go.Op.call { callee := Go.Callee.value (Go.Operand.func 40), args := #[Go.Operand.tmp 64, Go.Operand.tmp 66], argTypes := #[40, 3] }, type := 27, pos := _, after := #[{ on := 5, ground := Go.Ground.data }, { on := 7, ground := Go.Ground.data }], guard := none }) rfl (fun K hK => ?_) AllReadyH.nil
          go_simp
          refine GE.out.mono ?_; rintro e w4 ⟨rfl, rfl⟩
          go_wp2_with fail
          refine hK.out _ _ ?_ (fun hHeld => ?_)
          · (try dsimp only); go_keep
          clear hK K
          (try simp only [Act.put, List.setIfInBounds_toArray, List.set_cons_zero, List.set_cons_succ])
          refine wpAnyH_take (i := 9) (oi := { dst := some 68, op := Go.Op.indexAddr 34 (Go.Operand.tmp 62) (Go.Operand.tmp 63), type := 0, pos := _, after := #[{ on := 3, ground := Go.Ground.data }, { on := 4, ground := Go.Ground.data }, { on := 0, ground := Go.Ground.phase }, { on := 1, ground := Go.Ground.phase }, { on := 2, ground := Go.Ground.phase }, { on := 3, ground := Go.Ground.phase }, { on := 4, ground := Go.Ground.phase }, { on := 5, ground := Go.Ground.phase }, { on := 6, ground := Go.Ground.phase }, { on := 7, ground := Go.Ground.phase }, { on := 8, ground := Go.Ground.phase }], guard := none }) (v := ?vz9) rfl (by kernel_rfl) (by kernel_rfl) (by kernel_rfl) (fun _ _ _ h => h) (Or.inl ⟨by rfl, ?hyz9⟩) (by assumption) ?_
          case hyz9 => (intro wz hSw; (try dsimp only at hSw); go_simp; try with_reducible rfl)
          (try simp only [Act.put, List.setIfInBounds_toArray, List.set_cons_zero, List.set_cons_succ])
          refine wpAnyH_ready (rs := [10]) (by kernel_rfl) (by simp) ?_
          refine AllReadyH.cons (o := { dst := none, op := Go.Op.store 28 (Go.Operand.tmp 68) (Go.Operand.tmp 67), type := 0, pos := _, after := #[{ on := 9, ground := Go.Ground.data }, { on := 8, ground := Go.Ground.data }, { on := 8, ground := Go.Ground.chain }, { on := 0, ground := Go.Ground.phase }, { on := 1, ground := Go.Ground.phase }, { on := 2, ground := Go.Ground.phase }, { on := 3, ground := Go.Ground.phase }, { on := 4, ground := Go.Ground.phase }, { on := 5, ground := Go.Ground.phase }, { on := 6, ground := Go.Ground.phase }, { on := 7, ground := Go.Ground.phase }, { on := 8, ground := Go.Ground.phase }], guard := none }) rfl (fun K hK => ?_) AllReadyH.nil
          go_simp
          refine hK.out _ _ ?_ (fun hHeld => ?_)
          · (try dsimp only); go_keep
          clear hK K
          (try simp only [Act.put, List.setIfInBounds_toArray, List.set_cons_zero, List.set_cons_succ])
          refine wpAnyH_done (by kernel_rfl) ?_ _
          go_wp2
          go_roundw
          case rel =>
            have hu : U64 v := by rw [HV.out]; exact decAt_u64 HB.out _
            have z := HW.out.set (i := k) P2X.out hu (by
              show (List.replicate M false).getD k false = false
              rw [List.getD_eq_getElem?_getD, List.getElem?_replicate]; split <;> rfl)
            refine ⟨k + 1, by go_num, by omega, Lib.hid ?_, Lib.hid ?_⟩
            · have q := z.1
              unfold Hm.setW at q
              have hl2 : ((wsOf l).take k).length = k := List.length_take_of_le (by have := HLM.out; omega)
              have e : (wsOf l).take (k + 1) = (wsOf l).take k ++ [v] := by
                have hkl : k < (wsOf l).length := by rw [HLM.out]; exact hkM
                rw [List.take_succ_eq_append_getElem hkl, HV.out]
                simp [wsOf]
              rw [e]
              simp only [set_mid hl2 hkM] at q
              exact q.below (bdr _)
            · exact (BW.out.trans (z.2.1.below (fun j hj => by have := LDH.out.ge; rcases HW.out.ge hj with e | e <;> omega) BW.out.size)).trans (bdr _ |>.mono (Nat.le_trans BW.out.size z.2.1.size))
          case measure => simp [intOf]; omega
        · obtain rfl : k = M := by omega
          have HW2 : Hid (HpAt wr w.heap.size H 0 (loadM l)) := Lib.hid (by
            have z := HW.out
            rw [List.take_of_length_le (by have := HLM.out; omega), Nat.sub_self, List.replicate_zero, List.append_nil] at z
            unfold loadM
            rw [HML.out, ← HRT.out.1, ← HRT.out.2]
            exact z)
          have SD := Lib.hid (sound_any HW2.out (by show List.replicate (l.length / 8 - 2) false = List.replicate (wsOf l).length false; rw [HLM.out, HML.out]))
          have BL : Hid (∀ w', Frm wr w' (HR wr H 0) → Below w.heap.size w w') := Lib.hid (fun w' f => BW.out.trans (f.below (fun j hj => by have := LDH.out.ge; rcases HW2.out.ge hj with e | e <;> omega) BW.out.size))
          have hkMi : ¬ (k : Int) < (k : Int) := by omega
          cases hb : sndB (loadM l)
          · rw [hb] at SD
            have E : Hid (loadF l = none) := Lib.hid (by unfold loadF; rw [if_pos GD.out, if_neg (by rw [hb]; decide)])
            clear hb HW
            go_wp2_with fail
            refine SD.out.mono ?_; rintro e w4 ⟨rfl, hf, hst⟩
            go_wp2
            go_ret2
            exact ⟨Lib.hid (.inl ⟨E.out, rfl⟩), Lib.hid (BL.out _ hf.out)⟩
          · rw [hb] at SD
            have E : Hid (∃ st, sndO (wsOf l) = some st ∧ loadF l = some (withSt (loadM l) st)) := Lib.hid (by
              have hb2 := hb
              unfold sndB at hb2
              cases hs : sndO (wsOf l) with
              | none => rw [show (loadM l).ws = wsOf l from rfl, hs] at hb2; cases hb2
              | some st => exact ⟨st, rfl, by unfold loadF; rw [if_pos GD.out, if_pos hb, hs]; rfl⟩)
            clear hb HW
            go_wp2_with fail
            refine SD.out.mono ?_; rintro e w4 ⟨rfl, hf, hst⟩
            go_wp2
            go_ret2
            obtain ⟨st, e1, e2⟩ := E.out
            exact ⟨Lib.hid (.inr ⟨_, H, e2, LDH.out.ge, rfl, hst.out st e1⟩), Lib.hid (BL.out _ hf.out)⟩
    all_goals exact hq.elim
  refine wp_region_held_drew (S := fun w' => True) (by kernel_rfl) ?_ (fun hHeld => ?_)
  · trivial
  refine wpAnyH_take (i := 0) (oi := { dst := some 41, op := Go.Op.move (Go.Operand.tmp 5), type := 27, pos := _, after := #[], guard := none }) (v := ?vp0) rfl (by kernel_rfl) (by kernel_rfl) (by kernel_rfl) (fun _ _ _ h => h) (Or.inl ⟨by rfl, ?hyp0⟩) (by assumption) ?_
  case hyp0 => (intro wz hSw; (try dsimp only at hSw); go_simp; try with_reducible rfl)
  (try simp only [Act.put, List.setIfInBounds_toArray, List.set_cons_zero, List.set_cons_succ])
  refine wpAnyH_take (i := 1) (oi := { dst := some 42, op := Go.Op.convert 27 3 (Go.Operand.tmp 41), type := 3, pos := _, after := #[{ on := 0, ground := Go.Ground.data }], guard := none }) (v := ?vp1) rfl (by kernel_rfl) (by kernel_rfl) (by kernel_rfl) (fun _ _ _ h => h) (Or.inl ⟨by rfl, ?hyp1⟩) (by assumption) ?_
  case hyp1 => (intro wz hSw; (try dsimp only at hSw); go_simp; try with_reducible rfl)
  (try simp only [Act.put, List.setIfInBounds_toArray, List.set_cons_zero, List.set_cons_succ])
  refine wpAnyH_take (i := 2) (oi := { dst := some 43, op := Go.Op.move (Go.Operand.tmp 6), type := 27, pos := _, after := #[], guard := none }) (v := ?vp2) rfl (by kernel_rfl) (by kernel_rfl) (by kernel_rfl) (fun _ _ _ h => h) (Or.inl ⟨by rfl, ?hyp2⟩) (by assumption) ?_
  case hyp2 => (intro wz hSw; (try dsimp only at hSw); go_simp; try with_reducible rfl)
  (try simp only [Act.put, List.setIfInBounds_toArray, List.set_cons_zero, List.set_cons_succ])
  refine wpAnyH_take (i := 3) (oi := { dst := some 44, op := Go.Op.convert 27 3 (Go.Operand.tmp 43), type := 3, pos := _, after := #[{ on := 2, ground := Go.Ground.data }], guard := none }) (v := ?vp3) rfl (by kernel_rfl) (by kernel_rfl) (by kernel_rfl) (fun _ _ _ h => h) (Or.inl ⟨by rfl, ?hyp3⟩) (by assumption) ?_
  case hyp3 => (intro wz hSw; (try dsimp only at hSw); go_simp; try with_reducible rfl)
  (try simp only [Act.put, List.setIfInBounds_toArray, List.set_cons_zero, List.set_cons_succ])
  refine wpAnyH_take (i := 4) (oi := { dst := some 45, op := Go.Op.move (Go.Operand.tmp 4), type := 3, pos := _, after := #[], guard := none }) (v := ?vp4) rfl (by kernel_rfl) (by kernel_rfl) (by kernel_rfl) (fun _ _ _ h => h) (Or.inl ⟨by rfl, ?hyp4⟩) (by assumption) ?_
  case hyp4 => (intro wz hSw; (try dsimp only at hSw); go_simp; try with_reducible rfl)
  (try simp only [Act.put, List.setIfInBounds_toArray, List.set_cons_zero, List.set_cons_succ])
  refine wpAnyH_take (i := 6) (oi := { dst := some 47, op := Go.Op.move (Go.Operand.tmp 4), type := 3, pos := _, after := #[], guard := none }) (v := ?vp6) rfl (by kernel_rfl) (by kernel_rfl) (by kernel_rfl) (fun _ _ _ h => h) (Or.inl ⟨by rfl, ?hyp6⟩) (by assumption) ?_
  case hyp6 => (intro wz hSw; (try dsimp only at hSw); go_simp; try with_reducible rfl)
  (try simp only [Act.put, List.setIfInBounds_toArray, List.set_cons_zero, List.set_cons_succ])
  refine wpAnyH_ready (rs := [5, 7]) (by kernel_rfl) (by simp) ?_
  refine AllReadyH.cons (o := { dst := some 46, op := Go.Op.makeSlice 34 (Go.Operand.tmp 45) (Go.Operand.tmp 45), type := 34, pos := _, after := #[{ on := 4, ground := Go.Ground.data }, { on := 4, ground := Go.Ground.data }], guard := none }) rfl (fun K hK => ?_) ?_
  · rw [if_pos (by rfl)]
    refine wp_make_any (.tmp 45) (.tmp 45) 34 rfl 28 j0 (.int .u64 0) Try.underlying34 hj0 hy0 M rfl rfl (by rw [hy2]; omega) (by unfold maxLen; omega) ?_
    refine hK.out _ _ trivial (fun hHeld => ?_)
    clear hK K
    (try simp only [Act.put, List.setIfInBounds_toArray, List.set_cons_zero, List.set_cons_succ])
    refine wpAnyH_ready (rs := [7]) (by kernel_rfl) (by simp) ?_
    refine AllReadyH.cons (o := { dst := some 48, op := Go.Op.makeSlice 68 (Go.Operand.tmp 47) (Go.Operand.tmp 47), type := 68, pos := _, after := #[{ on := 6, ground := Go.Ground.data }, { on := 6, ground := Go.Ground.data }], guard := none }) rfl (fun K hK => ?_) AllReadyH.nil
    rw [if_pos (by rfl)]
    refine wp_make_any (.tmp 47) (.tmp 47) 68 rfl 4 s0_ (.bool false) Try.underlying68 hs0 hsz0 M rfl rfl (by rw [hs2]; omega) (by unfold maxLen; omega) ?_
    refine hK.out _ _ trivial (fun hHeld => ?_)
    clear hK K
    (try simp only [Act.put, List.setIfInBounds_toArray, List.set_cons_zero, List.set_cons_succ])
    refine wpAnyH_take (i := 8) (oi := { dst := some 49, op := Go.Op.build 70 #[(0, Go.Operand.tmp 42), (1, Go.Operand.tmp 44), (2, Go.Operand.tmp 46), (3, Go.Operand.tmp 48)], type := 70, pos := _, after := #[{ on := 1, ground := Go.Ground.data }, { on := 3, ground := Go.Ground.data }, { on := 5, ground := Go.Ground.data }, { on := 7, ground := Go.Ground.data }], guard := none }) (v := ?va8) rfl (by kernel_rfl) (by kernel_rfl) (by kernel_rfl) (fun _ _ _ h => h) (Or.inl ⟨by rfl, ?hya8⟩) (by assumption) ?_
    case hya8 => (intro wz hSw; (try dsimp only at hSw); go_simp; try with_reducible rfl)
    (try simp only [Act.put, List.setIfInBounds_toArray, List.set_cons_zero, List.set_cons_succ])
    refine wpAnyH_ready (rs := [9]) (by kernel_rfl) (by simp) ?_
    refine AllReadyH.cons (o := { dst := some 50, op := Go.Op.box 70 (Go.Operand.tmp 49), type := 23, pos := _, after := #[{ on := 8, ground := Go.Ground.data }], guard := none }) rfl (fun K hK => ?_) AllReadyH.nil
    go_simp
    refine hK.out _ _ trivial (fun hHeld => ?_)
    clear hK K
    (try simp only [Act.put, List.setIfInBounds_toArray, List.set_cons_zero, List.set_cons_succ])
    refine wpAnyH_take (i := 10) (oi := { dst := some 7, op := Go.Op.assign (Go.Operand.tmp 50), type := 23, pos := _, after := #[{ on := 9, ground := Go.Ground.data }, { on := 0, ground := Go.Ground.phase }, { on := 1, ground := Go.Ground.phase }, { on := 2, ground := Go.Ground.phase }, { on := 3, ground := Go.Ground.phase }, { on := 4, ground := Go.Ground.phase }, { on := 5, ground := Go.Ground.phase }, { on := 6, ground := Go.Ground.phase }, { on := 7, ground := Go.Ground.phase }, { on := 8, ground := Go.Ground.phase }, { on := 9, ground := Go.Ground.phase }], guard := none }) (v := ?va10) rfl (by kernel_rfl) (by kernel_rfl) (by kernel_rfl) (fun _ _ _ h => h) (Or.inl ⟨by rfl, ?hya10⟩) (by assumption) ?_
    case hya10 => (intro wz hSw; (try dsimp only at hSw); go_simp; try with_reducible rfl)
    (try simp only [Act.put, List.setIfInBounds_toArray, List.set_cons_zero, List.set_cons_succ])
    refine wpAnyH_done (by kernel_rfl) ?_ _
    rw [show IntKind.i64.wrap rm = rm from IntWalk.i64_in _ (by omega), show IntKind.i64.wrap tu = tu from IntWalk.i64_in _ (by omega)]
    obtain ⟨q1, q2, q3, q4⟩ := heap3 w (.cells (madeCells #[.int .u64 0] M) 28) (.cells (madeCells #[.bool false] M) 4) (.cells #[.int .i64 rm, .int .i64 tu, .slice (some ⟨w.heap.size, 0, none⟩) M M, .slice (some ⟨w.heap.size + 1, 0, none⟩) M M] 70)
    exact ⟨_, _, _, _, _, _, _, _, _, _, _, _, _, _, _, _, _, _, _, _, _, _, _, _, _, _, _, _, _, _, _, _, _, _, _, _, _, _, _, _, _, _, _, _, _, _, _, _, _, _, rfl, ld0_of OK0.out q4 q3 q1 q2 (by omega) (by omega) (by omega)⟩
  refine AllReadyH.cons (o := { dst := some 48, op := Go.Op.makeSlice 68 (Go.Operand.tmp 47) (Go.Operand.tmp 47), type := 68, pos := _, after := #[{ on := 6, ground := Go.Ground.data }, { on := 6, ground := Go.Ground.data }], guard := none }) rfl (fun K hK => ?_) AllReadyH.nil
  rw [if_pos (by rfl)]
  refine wp_make_any (.tmp 47) (.tmp 47) 68 rfl 4 s0_ (.bool false) Try.underlying68 hs0 hsz0 M rfl rfl (by rw [hs2]; omega) (by unfold maxLen; omega) ?_
  refine hK.out _ _ trivial (fun hHeld => ?_)
  clear hK K
  (try simp only [Act.put, List.setIfInBounds_toArray, List.set_cons_zero, List.set_cons_succ])
  refine wpAnyH_ready (rs := [5]) (by kernel_rfl) (by simp) ?_
  refine AllReadyH.cons (o := { dst := some 46, op := Go.Op.makeSlice 34 (Go.Operand.tmp 45) (Go.Operand.tmp 45), type := 34, pos := _, after := #[{ on := 4, ground := Go.Ground.data }, { on := 4, ground := Go.Ground.data }], guard := none }) rfl (fun K hK => ?_) AllReadyH.nil
  rw [if_pos (by rfl)]
  refine wp_make_any (.tmp 45) (.tmp 45) 34 rfl 28 j0 (.int .u64 0) Try.underlying34 hj0 hy0 M rfl rfl (by rw [hy2]; omega) (by unfold maxLen; omega) ?_
  refine hK.out _ _ trivial (fun hHeld => ?_)
  clear hK K
  (try simp only [Act.put, List.setIfInBounds_toArray, List.set_cons_zero, List.set_cons_succ])
  refine wpAnyH_take (i := 8) (oi := { dst := some 49, op := Go.Op.build 70 #[(0, Go.Operand.tmp 42), (1, Go.Operand.tmp 44), (2, Go.Operand.tmp 46), (3, Go.Operand.tmp 48)], type := 70, pos := _, after := #[{ on := 1, ground := Go.Ground.data }, { on := 3, ground := Go.Ground.data }, { on := 5, ground := Go.Ground.data }, { on := 7, ground := Go.Ground.data }], guard := none }) (v := ?vb8) rfl (by kernel_rfl) (by kernel_rfl) (by kernel_rfl) (fun _ _ _ h => h) (Or.inl ⟨by rfl, ?hyb8⟩) (by assumption) ?_
  case hyb8 => (intro wz hSw; (try dsimp only at hSw); go_simp; try with_reducible rfl)
  (try simp only [Act.put, List.setIfInBounds_toArray, List.set_cons_zero, List.set_cons_succ])
  refine wpAnyH_ready (rs := [9]) (by kernel_rfl) (by simp) ?_
  refine AllReadyH.cons (o := { dst := some 50, op := Go.Op.box 70 (Go.Operand.tmp 49), type := 23, pos := _, after := #[{ on := 8, ground := Go.Ground.data }], guard := none }) rfl (fun K hK => ?_) AllReadyH.nil
  go_simp
  refine hK.out _ _ trivial (fun hHeld => ?_)
  clear hK K
  (try simp only [Act.put, List.setIfInBounds_toArray, List.set_cons_zero, List.set_cons_succ])
  refine wpAnyH_take (i := 10) (oi := { dst := some 7, op := Go.Op.assign (Go.Operand.tmp 50), type := 23, pos := _, after := #[{ on := 9, ground := Go.Ground.data }, { on := 0, ground := Go.Ground.phase }, { on := 1, ground := Go.Ground.phase }, { on := 2, ground := Go.Ground.phase }, { on := 3, ground := Go.Ground.phase }, { on := 4, ground := Go.Ground.phase }, { on := 5, ground := Go.Ground.phase }, { on := 6, ground := Go.Ground.phase }, { on := 7, ground := Go.Ground.phase }, { on := 8, ground := Go.Ground.phase }, { on := 9, ground := Go.Ground.phase }], guard := none }) (v := ?vb10) rfl (by kernel_rfl) (by kernel_rfl) (by kernel_rfl) (fun _ _ _ h => h) (Or.inl ⟨by rfl, ?hyb10⟩) (by assumption) ?_
  case hyb10 => (intro wz hSw; (try dsimp only at hSw); go_simp; try with_reducible rfl)
  (try simp only [Act.put, List.setIfInBounds_toArray, List.set_cons_zero, List.set_cons_succ])
  refine wpAnyH_done (by kernel_rfl) ?_ _
  rw [show IntKind.i64.wrap rm = rm from IntWalk.i64_in _ (by omega), show IntKind.i64.wrap tu = tu from IntWalk.i64_in _ (by omega)]
  obtain ⟨q1, q2, q3, q4⟩ := heap3 w (.cells (madeCells #[.bool false] M) 4) (.cells (madeCells #[.int .u64 0] M) 28) (.cells #[.int .i64 rm, .int .i64 tu, .slice (some ⟨w.heap.size + 1, 0, none⟩) M M, .slice (some ⟨w.heap.size, 0, none⟩) M M] 70)
  exact ⟨_, _, _, _, _, _, _, _, _, _, _, _, _, _, _, _, _, _, _, _, _, _, _, _, _, _, _, _, _, _, _, _, _, _, _, _, _, _, _, _, _, _, _, _, _, _, _, _, _, _, rfl, ld0_of OK0.out q4 q3 q2 q1 (by omega) (by omega) (by omega)⟩
end Go.Proofs.Ytknpgmbniohcnaa
