import Derived.Test.YtgfaadfkeeehgaaPut
import Derived.Laws.AppendOwnNone
namespace Go.Proofs.Ytgfaadfkeeehgaa
open Go.ChangeShapes Go.WideShapes Go.ChangeAt Go.RowKit
set_option linter.unusedVariables false
theorem one_u8 {x : Int} : ∀ u ∈ [Value.int .u8 x], u.oneCell' = true := fun u hu => by simp at hu; subst hu; rfl
theorem wpList_none_any {P : Program} {w : World} {ops : Array Oper} {rest : List Oper} {o : Oper} {a : Act} {Q : Exit → Act → World → Prop} (hgd : o.guard = none) (s x : Operand) (t : TypeId)
    (ho : o.op = .call { callee := .builtin .append, args := #[s, x], argTypes := #[t, t] })
    (base : Nat) (e : TypeId) (i : TypeInfo) (size : Nat) (ht : P.underlying t = some (.slice e)) (hi : P.info? e = some i)
    (v : Value) (n : Nat) (xs : List Value) (hs : a.eval s = v) (hown : w.ownsRow base e size v n xs) (hx : a.eval x = .slice none 0 0)
    (h : ∀ v' w', v' = v → w' = w → wpList P ops Q rest (a.put o.dst v') w') : wpList P ops Q (o :: rest) a w :=
  wpList_append_own_none hgd s x t ho base e i size ht hi v n xs hs hown hx (h v w rfl rfl)
set_option maxRecDepth 100000 in
set_option maxHeartbeats 1000000 in
theorem pi_11 {w : World} {A : Addr} {c : Nat} {xs : List Nat} (o : Nat) (a b : Int) (ho : o < 64) (h : ∀ j u, (bys xs)[j]? = some u → w.cell? (A.add j) = some u) (hl : xs.length ≤ 900000)
    (ha1 : Hid (-9223372036854775808 ≤ a)) (ha2 : Hid (a < 9223372036854775808)) (hb1 : Hid (-9223372036854775808 ≤ b)) (hb2 : Hid (b < 9223372036854775808)) (az : a = 0) (bz : b = 0) :
    Calls Try.prog 12 #[.slice (some A) xs.length c, .agg #[.int .i64 o, .int .i64 a, .int .i64 b]] w fun e w' => ∃ v' n', e = .returned v' ∧ w'.ownsRow w.heap.size 5 1 v' n' (bys (xs ++ addS o a b)) ∧ Below w.heap.size w w' := by
  obtain ⟨i0, hi0, hz0, hz1, hz2⟩ := info_parts info5
  obtain ⟨ua, ea⟩ := fold_nat a ha1.out ha2.out
  obtain ⟨ub, eb⟩ := fold_nat b hb1.out hb2.out
  have Ua := Lib.hid ea; have Ub := Lib.hid eb; clear ea eb
  have fo : (o : Int) % 256 = o := by omega
  have o1 : decide ((o : Int) < 0) = false := decide_eq_false (by omega)
  have o2 : decide ((63 : Int) < o) = false := decide_eq_false (by omega)
  have o3 : decide (63 < o) = false := decide_eq_false (by omega)
  have o4 : o ≤ 63 := by omega
  have AZ := Lib.hid az; have BZ := Lib.hid bz
  have na : (a != 0) = false := by rw [az]; rfl
  have nb : (b != 0) = false := by rw [bz]; rfl
  clear az bz
  have hbx0 := below_alloc w (.cells #[.int .i64 (o : Int), .int .i64 a, .int .i64 b] 35)
  have hbl0 : Below w.heap.size w ((w.alloc (.cells #[.int .i64 (o : Int), .int .i64 a, .int .i64 b] 35)).alloc (.cells #[] 5)) := (below_alloc w (.cells #[.int .i64 (o : Int), .int .i64 a, .int .i64 b] 35)).trans ((below_alloc _ (.cells #[] 5)).mono hbx0.size)
  obtain ⟨b00, b01, b02⟩ := box3 w (.int .i64 (o : Int)) (.int .i64 a) (.int .i64 b) 35
  have blt : w.heap.size < (w.alloc (.cells #[.int .i64 (o : Int), .int .i64 a, .int .i64 b] 35)).heap.size := by simp
  have b00 := ((below_alloc (w.alloc (.cells #[.int .i64 (o : Int), .int .i64 a, .int .i64 b] 35)) (.cells #[] 5)).cell (p := ⟨w.heap.size, 0, none⟩) blt).trans b00
  have b01 := ((below_alloc (w.alloc (.cells #[.int .i64 (o : Int), .int .i64 a, .int .i64 b] 35)) (.cells #[] 5)).cell (p := ⟨w.heap.size, 1, none⟩) blt).trans b01
  have b02 := ((below_alloc (w.alloc (.cells #[.int .i64 (o : Int), .int .i64 a, .int .i64 b] 35)) (.cells #[] 5)).cell (p := ⟨w.heap.size, 2, none⟩) blt).trans b02
  have B0 := Lib.hid b00; have B1' := Lib.hid b01; have B2' := Lib.hid b02
  have HBL := Lib.hid hbl0; have BLT0 := Lib.hid blt
  have lit0 := (own_mono (World.ownsRow_lit (size := 1) (e := 5) (w.alloc (.cells #[.int .i64 (o : Int), .int .i64 a, .int .i64 b] 35)) #[] 0 (Nat.le_refl _) (by unfold maxLen; omega) rfl) (Nat.le_of_lt blt))
  rw [show (w.alloc (.cells #[.int .i64 (o : Int), .int .i64 a, .int .i64 b] 35)).heap.size = w.heap.size + 1 from by simp] at lit0
  have LIT := Lib.hid lit0
  have hh : ∀ j u, (bys xs)[j]? = some u → ((w.alloc (.cells #[.int .i64 (o : Int), .int .i64 a, .int .i64 b] 35)).alloc (.cells #[] 5)).cell? (A.add j) = some u := fun j u hu => by
    have := h j u hu
    rw [hbl0.cell (World.block_lt_of_cell? w _ this)]; exact this
  have H := Lib.hid hh
  clear h hh
  clear lit0 hbx0 hbl0 b00 b01 b02 blt
  go_enter Try.func12, Try.ntmps12
  go_wp2_with (at_builtin; refine wpList_append_own_at _ rfl (.tmp 6) (.tmp 7) 28 rfl w.heap.size 5 i0 (.int .u8 0) 1 1 Try.underlying28 hi0 hz0 hz1 hz2 rfl (by decide) _ 0 [] rfl LIT.out A _ _ (bys xs) rfl (by simp [bys]) H.out (bys_one xs) (by unfold maxLen; omega) (by omega) (by simp; omega) ?_)
  intro v wx own2 gr2 _ at2
  have hs := gr2.size
  have hx1 : Below w.heap.size w wx := HBL.out.grown gr2 (by simp; omega) (fun q hq => by simp [Value.ownBlock] at hq; omega)
  have own2 : wx.ownsRow w.heap.size 5 1 v xs.length (bys xs) := by simpa using own2
  obtain ⟨n, hn⟩ : ∃ n, n = xs.length := ⟨_, rfl⟩
  rw [← hn] at own2 hl
  have HN := Lib.hid hn; clear hn
  have bne : v.ownBlock ≠ some w.heap.size := by
    rcases at2 with e | e <;> rw [e] <;> simp [Value.ownBlock] <;> omega
  have b0 : wx.cell? ⟨w.heap.size, 0, none⟩ = some (.int .i64 (o : Int)) := (gr2.cell B0.out (by simp [Value.ownBlock]))
  have b1 : wx.cell? ⟨w.heap.size, 1, none⟩ = some (.int .i64 a) := (gr2.cell B1'.out (by simp [Value.ownBlock]))
  have b2 : wx.cell? ⟨w.heap.size, 2, none⟩ = some (.int .i64 b) := (gr2.cell B2'.out (by simp [Value.ownBlock]))
  clear gr2 at2
  have OWN := Lib.hid own2; have HXB := Lib.hid hx1; have BNE := Lib.hid bne
  have HBX : Hid (w.heap.size ≤ wx.heap.size) := Lib.hid hx1.size
  have BLT : Hid (w.heap.size < wx.heap.size) := Lib.hid (by have := BLT0.out; simp at hs; omega)
  have B1 := Lib.hid b1; have B2 := Lib.hid b2
  clear own2 hx1 bne hs
  go_wp2_with (at_builtin; refine wpList_append_own_at _ rfl (.tmp 31) (.tmp 33) 28 rfl w.heap.size 5 i0 (.int .u8 0) 1 1 Try.underlying28 hi0 hz0 hz1 hz2 rfl (by decide) _ n (bys xs) rfl (OWN.out.alloc _) ⟨wx.heap.size, 0, none⟩ 1 1 [.int .u8 ((o : Int))] rfl rfl ?c1 ?c2 (by unfold maxLen; omega) (by omega) (by have := HBX.out; simp; omega) ?_)
  case c1 =>
    intro j u hj
    match j, hj with
    | 0, hj => simp at hj; subst hj; exact new_cell wx _ 5
  case c2 => intro u hu; simp at hu; subst hu; rfl
  intro v2 w2 own2 gr2 _ at2
  have g2 : Gr wx w2 v v2 := Gr.append gr2 at2
  have own2 : w2.ownsRow w.heap.size 5 1 v2 (n + 1) (bys (xs ++ [opN o a b])) := by
    rw [bys_app, bys_sing, show ((opN o a b : Nat) : Int) = (o : Int) from by unfold opN; rw [if_pos AZ.out, if_pos BZ.out]; omega]; exact own2
  have G2 := Lib.hid g2; have OWN2 := Lib.hid own2
  have b1 := (g2.cell BLT.out BNE.out).trans B1.out
  have b2 := (g2.cell BLT.out BNE.out).trans B2.out
  have hs2 := g2.g.size
  clear gr2 at2 g2 own2 b01 b02
  go_wp2
  go_ret
  refine ⟨_, (n + 1), rfl, ?_, (G2.out.below OWN.out HBX.out |> HXB.out.trans)⟩
  have := OWN2.out
  unfold addS
  rw [if_pos AZ.out, if_pos BZ.out]
  
  
  simpa using this
set_option maxRecDepth 100000 in
set_option maxHeartbeats 1000000 in
theorem pi_10 {w : World} {A : Addr} {c : Nat} {xs : List Nat} (o : Nat) (a b : Int) (ho : o < 64) (h : ∀ j u, (bys xs)[j]? = some u → w.cell? (A.add j) = some u) (hl : xs.length ≤ 900000)
    (ha1 : Hid (-9223372036854775808 ≤ a)) (ha2 : Hid (a < 9223372036854775808)) (hb1 : Hid (-9223372036854775808 ≤ b)) (hb2 : Hid (b < 9223372036854775808)) (az : a = 0) (bz : ¬ b = 0) :
    Calls Try.prog 12 #[.slice (some A) xs.length c, .agg #[.int .i64 o, .int .i64 a, .int .i64 b]] w fun e w' => ∃ v' n', e = .returned v' ∧ w'.ownsRow w.heap.size 5 1 v' n' (bys (xs ++ addS o a b)) ∧ Below w.heap.size w w' := by
  obtain ⟨i0, hi0, hz0, hz1, hz2⟩ := info_parts info5
  obtain ⟨ua, ea⟩ := fold_nat a ha1.out ha2.out
  obtain ⟨ub, eb⟩ := fold_nat b hb1.out hb2.out
  have Ua := Lib.hid ea; have Ub := Lib.hid eb; clear ea eb
  have fo : (o : Int) % 256 = o := by omega
  have o1 : decide ((o : Int) < 0) = false := decide_eq_false (by omega)
  have o2 : decide ((63 : Int) < o) = false := decide_eq_false (by omega)
  have o3 : decide (63 < o) = false := decide_eq_false (by omega)
  have o4 : o ≤ 63 := by omega
  have e1 : IntKind.u8.wrap ((o : Int) + 128) = (o : Int) + 128 := by simp only [IntKind.wrap_u8]; omega
  have AZ := Lib.hid az; have BZ := Lib.hid bz
  have na : (a != 0) = false := by rw [az]; rfl
  have nb : (b != 0) = true := bne_iff_ne.2 bz
  clear az bz
  have hbx0 := below_alloc w (.cells #[.int .i64 (o : Int), .int .i64 a, .int .i64 b] 35)
  have hbl0 : Below w.heap.size w ((w.alloc (.cells #[.int .i64 (o : Int), .int .i64 a, .int .i64 b] 35)).alloc (.cells #[] 5)) := (below_alloc w (.cells #[.int .i64 (o : Int), .int .i64 a, .int .i64 b] 35)).trans ((below_alloc _ (.cells #[] 5)).mono hbx0.size)
  obtain ⟨b00, b01, b02⟩ := box3 w (.int .i64 (o : Int)) (.int .i64 a) (.int .i64 b) 35
  have blt : w.heap.size < (w.alloc (.cells #[.int .i64 (o : Int), .int .i64 a, .int .i64 b] 35)).heap.size := by simp
  have b00 := ((below_alloc (w.alloc (.cells #[.int .i64 (o : Int), .int .i64 a, .int .i64 b] 35)) (.cells #[] 5)).cell (p := ⟨w.heap.size, 0, none⟩) blt).trans b00
  have b01 := ((below_alloc (w.alloc (.cells #[.int .i64 (o : Int), .int .i64 a, .int .i64 b] 35)) (.cells #[] 5)).cell (p := ⟨w.heap.size, 1, none⟩) blt).trans b01
  have b02 := ((below_alloc (w.alloc (.cells #[.int .i64 (o : Int), .int .i64 a, .int .i64 b] 35)) (.cells #[] 5)).cell (p := ⟨w.heap.size, 2, none⟩) blt).trans b02
  have B0 := Lib.hid b00; have B1' := Lib.hid b01; have B2' := Lib.hid b02
  have HBL := Lib.hid hbl0; have BLT0 := Lib.hid blt
  have lit0 := (own_mono (World.ownsRow_lit (size := 1) (e := 5) (w.alloc (.cells #[.int .i64 (o : Int), .int .i64 a, .int .i64 b] 35)) #[] 0 (Nat.le_refl _) (by unfold maxLen; omega) rfl) (Nat.le_of_lt blt))
  rw [show (w.alloc (.cells #[.int .i64 (o : Int), .int .i64 a, .int .i64 b] 35)).heap.size = w.heap.size + 1 from by simp] at lit0
  have LIT := Lib.hid lit0
  have hh : ∀ j u, (bys xs)[j]? = some u → ((w.alloc (.cells #[.int .i64 (o : Int), .int .i64 a, .int .i64 b] 35)).alloc (.cells #[] 5)).cell? (A.add j) = some u := fun j u hu => by
    have := h j u hu
    rw [hbl0.cell (World.block_lt_of_cell? w _ this)]; exact this
  have H := Lib.hid hh
  clear h hh
  clear lit0 hbx0 hbl0 b00 b01 b02 blt
  go_enter Try.func12, Try.ntmps12
  go_wp2_with (at_builtin; refine wpList_append_own_at _ rfl (.tmp 6) (.tmp 7) 28 rfl w.heap.size 5 i0 (.int .u8 0) 1 1 Try.underlying28 hi0 hz0 hz1 hz2 rfl (by decide) _ 0 [] rfl LIT.out A _ _ (bys xs) rfl (by simp [bys]) H.out (bys_one xs) (by unfold maxLen; omega) (by omega) (by simp; omega) ?_)
  intro v wx own2 gr2 _ at2
  have hs := gr2.size
  have hx1 : Below w.heap.size w wx := HBL.out.grown gr2 (by simp; omega) (fun q hq => by simp [Value.ownBlock] at hq; omega)
  have own2 : wx.ownsRow w.heap.size 5 1 v xs.length (bys xs) := by simpa using own2
  obtain ⟨n, hn⟩ : ∃ n, n = xs.length := ⟨_, rfl⟩
  rw [← hn] at own2 hl
  have HN := Lib.hid hn; clear hn
  have bne : v.ownBlock ≠ some w.heap.size := by
    rcases at2 with e | e <;> rw [e] <;> simp [Value.ownBlock] <;> omega
  have b0 : wx.cell? ⟨w.heap.size, 0, none⟩ = some (.int .i64 (o : Int)) := (gr2.cell B0.out (by simp [Value.ownBlock]))
  have b1 : wx.cell? ⟨w.heap.size, 1, none⟩ = some (.int .i64 a) := (gr2.cell B1'.out (by simp [Value.ownBlock]))
  have b2 : wx.cell? ⟨w.heap.size, 2, none⟩ = some (.int .i64 b) := (gr2.cell B2'.out (by simp [Value.ownBlock]))
  clear gr2 at2
  have OWN := Lib.hid own2; have HXB := Lib.hid hx1; have BNE := Lib.hid bne
  have HBX : Hid (w.heap.size ≤ wx.heap.size) := Lib.hid hx1.size
  have BLT : Hid (w.heap.size < wx.heap.size) := Lib.hid (by have := BLT0.out; simp at hs; omega)
  have B1 := Lib.hid b1; have B2 := Lib.hid b2
  clear own2 hx1 bne hs
  go_wp2_with (at_builtin; refine wpList_append_own_at _ rfl (.tmp 31) (.tmp 33) 28 rfl w.heap.size 5 i0 (.int .u8 0) 1 1 Try.underlying28 hi0 hz0 hz1 hz2 rfl (by decide) _ n (bys xs) rfl (OWN.out.alloc _) ⟨wx.heap.size, 0, none⟩ 1 1 [.int .u8 ((o : Int) + 128)] rfl rfl ?c1 ?c2 (by unfold maxLen; omega) (by omega) (by have := HBX.out; simp; omega) ?_)
  case c1 =>
    intro j u hj
    match j, hj with
    | 0, hj => simp at hj; subst hj; exact new_cell wx _ 5
  case c2 => intro u hu; simp at hu; subst hu; rfl
  intro v2 w2 own2 gr2 _ at2
  have g2 : Gr wx w2 v v2 := Gr.append gr2 at2
  have own2 : w2.ownsRow w.heap.size 5 1 v2 (n + 1) (bys (xs ++ [opN o a b])) := by
    rw [bys_app, bys_sing, show ((opN o a b : Nat) : Int) = (o : Int) + 128 from by unfold opN; rw [if_pos AZ.out, if_neg BZ.out]; omega]; exact own2
  have G2 := Lib.hid g2; have OWN2 := Lib.hid own2
  have b1 := (g2.cell BLT.out BNE.out).trans B1.out
  have b2 := (g2.cell BLT.out BNE.out).trans B2.out
  have hs2 := g2.g.size
  clear gr2 at2 g2 own2 b01 b02
  go_wp2_with fail
  refine (signed_any b _ hb1.out hb2.out).mono ?_; rintro e _w ⟨rfl, rfl⟩
  rw [Ub.out.1]
  go_wp2_with fail
  refine (group_any ub OWN2.out (by have := HBX.out; have := BLT.out; omega) Ub.out.2.2 (by omega)).mono ?_; rintro e w3 ⟨v3, n3, rfl, own3, g3, hn3⟩
  have g3' := G2.out.trans g3
  have G3 := Lib.hid g3'; have OWN3 := Lib.hid own3
  have b1 := (g3'.cell BLT.out BNE.out).trans B1.out
  have b2 := (g3'.cell BLT.out BNE.out).trans B2.out
  have hs3 := g3'.g.size
  clear g3 g3' own3
  go_wp2
  go_ret
  refine ⟨_, n3, rfl, ?_, (G3.out.below OWN.out HBX.out |> HXB.out.trans)⟩
  have := OWN3.out
  unfold addS
  rw [if_pos AZ.out, if_neg BZ.out]
  
  rw [Ub.out.2.1]
  simpa using this
set_option maxRecDepth 100000 in
set_option maxHeartbeats 1000000 in
theorem pi_01 {w : World} {A : Addr} {c : Nat} {xs : List Nat} (o : Nat) (a b : Int) (ho : o < 64) (h : ∀ j u, (bys xs)[j]? = some u → w.cell? (A.add j) = some u) (hl : xs.length ≤ 900000)
    (ha1 : Hid (-9223372036854775808 ≤ a)) (ha2 : Hid (a < 9223372036854775808)) (hb1 : Hid (-9223372036854775808 ≤ b)) (hb2 : Hid (b < 9223372036854775808)) (az : ¬ a = 0) (bz : b = 0) :
    Calls Try.prog 12 #[.slice (some A) xs.length c, .agg #[.int .i64 o, .int .i64 a, .int .i64 b]] w fun e w' => ∃ v' n', e = .returned v' ∧ w'.ownsRow w.heap.size 5 1 v' n' (bys (xs ++ addS o a b)) ∧ Below w.heap.size w w' := by
  obtain ⟨i0, hi0, hz0, hz1, hz2⟩ := info_parts info5
  obtain ⟨ua, ea⟩ := fold_nat a ha1.out ha2.out
  obtain ⟨ub, eb⟩ := fold_nat b hb1.out hb2.out
  have Ua := Lib.hid ea; have Ub := Lib.hid eb; clear ea eb
  have fo : (o : Int) % 256 = o := by omega
  have o1 : decide ((o : Int) < 0) = false := decide_eq_false (by omega)
  have o2 : decide ((63 : Int) < o) = false := decide_eq_false (by omega)
  have o3 : decide (63 < o) = false := decide_eq_false (by omega)
  have o4 : o ≤ 63 := by omega
  have e1 : IntKind.u8.wrap ((o : Int) + 64) = (o : Int) + 64 := by simp only [IntKind.wrap_u8]; omega
  have AZ := Lib.hid az; have BZ := Lib.hid bz
  have na : (a != 0) = true := bne_iff_ne.2 az
  have nb : (b != 0) = false := by rw [bz]; rfl
  clear az bz
  have hbx0 := below_alloc w (.cells #[.int .i64 (o : Int), .int .i64 a, .int .i64 b] 35)
  have hbl0 : Below w.heap.size w ((w.alloc (.cells #[.int .i64 (o : Int), .int .i64 a, .int .i64 b] 35)).alloc (.cells #[] 5)) := (below_alloc w (.cells #[.int .i64 (o : Int), .int .i64 a, .int .i64 b] 35)).trans ((below_alloc _ (.cells #[] 5)).mono hbx0.size)
  obtain ⟨b00, b01, b02⟩ := box3 w (.int .i64 (o : Int)) (.int .i64 a) (.int .i64 b) 35
  have blt : w.heap.size < (w.alloc (.cells #[.int .i64 (o : Int), .int .i64 a, .int .i64 b] 35)).heap.size := by simp
  have b00 := ((below_alloc (w.alloc (.cells #[.int .i64 (o : Int), .int .i64 a, .int .i64 b] 35)) (.cells #[] 5)).cell (p := ⟨w.heap.size, 0, none⟩) blt).trans b00
  have b01 := ((below_alloc (w.alloc (.cells #[.int .i64 (o : Int), .int .i64 a, .int .i64 b] 35)) (.cells #[] 5)).cell (p := ⟨w.heap.size, 1, none⟩) blt).trans b01
  have b02 := ((below_alloc (w.alloc (.cells #[.int .i64 (o : Int), .int .i64 a, .int .i64 b] 35)) (.cells #[] 5)).cell (p := ⟨w.heap.size, 2, none⟩) blt).trans b02
  have B0 := Lib.hid b00; have B1' := Lib.hid b01; have B2' := Lib.hid b02
  have HBL := Lib.hid hbl0; have BLT0 := Lib.hid blt
  have lit0 := (own_mono (World.ownsRow_lit (size := 1) (e := 5) (w.alloc (.cells #[.int .i64 (o : Int), .int .i64 a, .int .i64 b] 35)) #[] 0 (Nat.le_refl _) (by unfold maxLen; omega) rfl) (Nat.le_of_lt blt))
  rw [show (w.alloc (.cells #[.int .i64 (o : Int), .int .i64 a, .int .i64 b] 35)).heap.size = w.heap.size + 1 from by simp] at lit0
  have LIT := Lib.hid lit0
  have hh : ∀ j u, (bys xs)[j]? = some u → ((w.alloc (.cells #[.int .i64 (o : Int), .int .i64 a, .int .i64 b] 35)).alloc (.cells #[] 5)).cell? (A.add j) = some u := fun j u hu => by
    have := h j u hu
    rw [hbl0.cell (World.block_lt_of_cell? w _ this)]; exact this
  have H := Lib.hid hh
  clear h hh
  clear lit0 hbx0 hbl0 b00 b01 b02 blt
  go_enter Try.func12, Try.ntmps12
  go_wp2_with (at_builtin; refine wpList_append_own_at _ rfl (.tmp 6) (.tmp 7) 28 rfl w.heap.size 5 i0 (.int .u8 0) 1 1 Try.underlying28 hi0 hz0 hz1 hz2 rfl (by decide) _ 0 [] rfl LIT.out A _ _ (bys xs) rfl (by simp [bys]) H.out (bys_one xs) (by unfold maxLen; omega) (by omega) (by simp; omega) ?_)
  intro v wx own2 gr2 _ at2
  have hs := gr2.size
  have hx1 : Below w.heap.size w wx := HBL.out.grown gr2 (by simp; omega) (fun q hq => by simp [Value.ownBlock] at hq; omega)
  have own2 : wx.ownsRow w.heap.size 5 1 v xs.length (bys xs) := by simpa using own2
  obtain ⟨n, hn⟩ : ∃ n, n = xs.length := ⟨_, rfl⟩
  rw [← hn] at own2 hl
  have HN := Lib.hid hn; clear hn
  have bne : v.ownBlock ≠ some w.heap.size := by
    rcases at2 with e | e <;> rw [e] <;> simp [Value.ownBlock] <;> omega
  have b0 : wx.cell? ⟨w.heap.size, 0, none⟩ = some (.int .i64 (o : Int)) := (gr2.cell B0.out (by simp [Value.ownBlock]))
  have b1 : wx.cell? ⟨w.heap.size, 1, none⟩ = some (.int .i64 a) := (gr2.cell B1'.out (by simp [Value.ownBlock]))
  have b2 : wx.cell? ⟨w.heap.size, 2, none⟩ = some (.int .i64 b) := (gr2.cell B2'.out (by simp [Value.ownBlock]))
  clear gr2 at2
  have OWN := Lib.hid own2; have HXB := Lib.hid hx1; have BNE := Lib.hid bne
  have HBX : Hid (w.heap.size ≤ wx.heap.size) := Lib.hid hx1.size
  have BLT : Hid (w.heap.size < wx.heap.size) := Lib.hid (by have := BLT0.out; simp at hs; omega)
  have B1 := Lib.hid b1; have B2 := Lib.hid b2
  clear own2 hx1 bne hs
  go_wp2_with (at_builtin; refine wpList_append_own_at _ rfl (.tmp 31) (.tmp 33) 28 rfl w.heap.size 5 i0 (.int .u8 0) 1 1 Try.underlying28 hi0 hz0 hz1 hz2 rfl (by decide) _ n (bys xs) rfl (OWN.out.alloc _) ⟨wx.heap.size, 0, none⟩ 1 1 [.int .u8 ((o : Int) + 64)] rfl rfl ?c1 ?c2 (by unfold maxLen; omega) (by omega) (by have := HBX.out; simp; omega) ?_)
  case c1 =>
    intro j u hj
    match j, hj with
    | 0, hj => simp at hj; subst hj; exact new_cell wx _ 5
  case c2 => intro u hu; simp at hu; subst hu; rfl
  intro v2 w2 own2 gr2 _ at2
  have g2 : Gr wx w2 v v2 := Gr.append gr2 at2
  have own2 : w2.ownsRow w.heap.size 5 1 v2 (n + 1) (bys (xs ++ [opN o a b])) := by
    rw [bys_app, bys_sing, show ((opN o a b : Nat) : Int) = (o : Int) + 64 from by unfold opN; rw [if_neg AZ.out, if_pos BZ.out]; omega]; exact own2
  have G2 := Lib.hid g2; have OWN2 := Lib.hid own2
  have b1 := (g2.cell BLT.out BNE.out).trans B1.out
  have b2 := (g2.cell BLT.out BNE.out).trans B2.out
  have hs2 := g2.g.size
  clear gr2 at2 g2 own2 b01 b02
  go_wp2_with fail
  refine (signed_any a _ ha1.out ha2.out).mono ?_; rintro e _w ⟨rfl, rfl⟩
  rw [Ua.out.1]
  go_wp2_with fail
  refine (group_any ua OWN2.out (by have := HBX.out; have := BLT.out; omega) Ua.out.2.2 (by omega)).mono ?_; rintro e w3 ⟨v3, n3, rfl, own3, g3, hn3⟩
  have g3' := G2.out.trans g3
  have G3 := Lib.hid g3'; have OWN3 := Lib.hid own3
  have b1 := (g3'.cell BLT.out BNE.out).trans B1.out
  have b2 := (g3'.cell BLT.out BNE.out).trans B2.out
  have hs3 := g3'.g.size
  clear g3 g3' own3
  go_wp2
  go_ret
  refine ⟨_, n3, rfl, ?_, (G3.out.below OWN.out HBX.out |> HXB.out.trans)⟩
  have := OWN3.out
  unfold addS
  rw [if_neg AZ.out, if_pos BZ.out]
  rw [Ua.out.2.1]
  
  simpa using this
set_option maxRecDepth 100000 in
set_option maxHeartbeats 1000000 in
theorem pi_00 {w : World} {A : Addr} {c : Nat} {xs : List Nat} (o : Nat) (a b : Int) (ho : o < 64) (h : ∀ j u, (bys xs)[j]? = some u → w.cell? (A.add j) = some u) (hl : xs.length ≤ 900000)
    (ha1 : Hid (-9223372036854775808 ≤ a)) (ha2 : Hid (a < 9223372036854775808)) (hb1 : Hid (-9223372036854775808 ≤ b)) (hb2 : Hid (b < 9223372036854775808)) (az : ¬ a = 0) (bz : ¬ b = 0) :
    Calls Try.prog 12 #[.slice (some A) xs.length c, .agg #[.int .i64 o, .int .i64 a, .int .i64 b]] w fun e w' => ∃ v' n', e = .returned v' ∧ w'.ownsRow w.heap.size 5 1 v' n' (bys (xs ++ addS o a b)) ∧ Below w.heap.size w w' := by
  obtain ⟨i0, hi0, hz0, hz1, hz2⟩ := info_parts info5
  obtain ⟨ua, ea⟩ := fold_nat a ha1.out ha2.out
  obtain ⟨ub, eb⟩ := fold_nat b hb1.out hb2.out
  have Ua := Lib.hid ea; have Ub := Lib.hid eb; clear ea eb
  have fo : (o : Int) % 256 = o := by omega
  have o1 : decide ((o : Int) < 0) = false := decide_eq_false (by omega)
  have o2 : decide ((63 : Int) < o) = false := decide_eq_false (by omega)
  have o3 : decide (63 < o) = false := decide_eq_false (by omega)
  have o4 : o ≤ 63 := by omega
  have e1 : IntKind.u8.wrap ((o : Int) + 64) = (o : Int) + 64 := by simp only [IntKind.wrap_u8]; omega
  have e2 : IntKind.u8.wrap ((o : Int) + 64 + 128) = (o : Int) + 192 := by simp only [IntKind.wrap_u8]; omega
  have AZ := Lib.hid az; have BZ := Lib.hid bz
  have na : (a != 0) = true := bne_iff_ne.2 az
  have nb : (b != 0) = true := bne_iff_ne.2 bz
  clear az bz
  have hbx0 := below_alloc w (.cells #[.int .i64 (o : Int), .int .i64 a, .int .i64 b] 35)
  have hbl0 : Below w.heap.size w ((w.alloc (.cells #[.int .i64 (o : Int), .int .i64 a, .int .i64 b] 35)).alloc (.cells #[] 5)) := (below_alloc w (.cells #[.int .i64 (o : Int), .int .i64 a, .int .i64 b] 35)).trans ((below_alloc _ (.cells #[] 5)).mono hbx0.size)
  obtain ⟨b00, b01, b02⟩ := box3 w (.int .i64 (o : Int)) (.int .i64 a) (.int .i64 b) 35
  have blt : w.heap.size < (w.alloc (.cells #[.int .i64 (o : Int), .int .i64 a, .int .i64 b] 35)).heap.size := by simp
  have b00 := ((below_alloc (w.alloc (.cells #[.int .i64 (o : Int), .int .i64 a, .int .i64 b] 35)) (.cells #[] 5)).cell (p := ⟨w.heap.size, 0, none⟩) blt).trans b00
  have b01 := ((below_alloc (w.alloc (.cells #[.int .i64 (o : Int), .int .i64 a, .int .i64 b] 35)) (.cells #[] 5)).cell (p := ⟨w.heap.size, 1, none⟩) blt).trans b01
  have b02 := ((below_alloc (w.alloc (.cells #[.int .i64 (o : Int), .int .i64 a, .int .i64 b] 35)) (.cells #[] 5)).cell (p := ⟨w.heap.size, 2, none⟩) blt).trans b02
  have B0 := Lib.hid b00; have B1' := Lib.hid b01; have B2' := Lib.hid b02
  have HBL := Lib.hid hbl0; have BLT0 := Lib.hid blt
  have lit0 := (own_mono (World.ownsRow_lit (size := 1) (e := 5) (w.alloc (.cells #[.int .i64 (o : Int), .int .i64 a, .int .i64 b] 35)) #[] 0 (Nat.le_refl _) (by unfold maxLen; omega) rfl) (Nat.le_of_lt blt))
  rw [show (w.alloc (.cells #[.int .i64 (o : Int), .int .i64 a, .int .i64 b] 35)).heap.size = w.heap.size + 1 from by simp] at lit0
  have LIT := Lib.hid lit0
  have hh : ∀ j u, (bys xs)[j]? = some u → ((w.alloc (.cells #[.int .i64 (o : Int), .int .i64 a, .int .i64 b] 35)).alloc (.cells #[] 5)).cell? (A.add j) = some u := fun j u hu => by
    have := h j u hu
    rw [hbl0.cell (World.block_lt_of_cell? w _ this)]; exact this
  have H := Lib.hid hh
  clear h hh
  clear lit0 hbx0 hbl0 b00 b01 b02 blt
  go_enter Try.func12, Try.ntmps12
  go_wp2_with (at_builtin; refine wpList_append_own_at _ rfl (.tmp 6) (.tmp 7) 28 rfl w.heap.size 5 i0 (.int .u8 0) 1 1 Try.underlying28 hi0 hz0 hz1 hz2 rfl (by decide) _ 0 [] rfl LIT.out A _ _ (bys xs) rfl (by simp [bys]) H.out (bys_one xs) (by unfold maxLen; omega) (by omega) (by simp; omega) ?_)
  intro v wx own2 gr2 _ at2
  have hs := gr2.size
  have hx1 : Below w.heap.size w wx := HBL.out.grown gr2 (by simp; omega) (fun q hq => by simp [Value.ownBlock] at hq; omega)
  have own2 : wx.ownsRow w.heap.size 5 1 v xs.length (bys xs) := by simpa using own2
  obtain ⟨n, hn⟩ : ∃ n, n = xs.length := ⟨_, rfl⟩
  rw [← hn] at own2 hl
  have HN := Lib.hid hn; clear hn
  have bne : v.ownBlock ≠ some w.heap.size := by
    rcases at2 with e | e <;> rw [e] <;> simp [Value.ownBlock] <;> omega
  have b0 : wx.cell? ⟨w.heap.size, 0, none⟩ = some (.int .i64 (o : Int)) := (gr2.cell B0.out (by simp [Value.ownBlock]))
  have b1 : wx.cell? ⟨w.heap.size, 1, none⟩ = some (.int .i64 a) := (gr2.cell B1'.out (by simp [Value.ownBlock]))
  have b2 : wx.cell? ⟨w.heap.size, 2, none⟩ = some (.int .i64 b) := (gr2.cell B2'.out (by simp [Value.ownBlock]))
  clear gr2 at2
  have OWN := Lib.hid own2; have HXB := Lib.hid hx1; have BNE := Lib.hid bne
  have HBX : Hid (w.heap.size ≤ wx.heap.size) := Lib.hid hx1.size
  have BLT : Hid (w.heap.size < wx.heap.size) := Lib.hid (by have := BLT0.out; simp at hs; omega)
  have B1 := Lib.hid b1; have B2 := Lib.hid b2
  clear own2 hx1 bne hs
  go_wp2_with (at_builtin; refine wpList_append_own_at _ rfl (.tmp 31) (.tmp 33) 28 rfl w.heap.size 5 i0 (.int .u8 0) 1 1 Try.underlying28 hi0 hz0 hz1 hz2 rfl (by decide) _ n (bys xs) rfl (OWN.out.alloc _) ⟨wx.heap.size, 0, none⟩ 1 1 [.int .u8 ((o : Int) + 192)] rfl rfl ?c1 ?c2 (by unfold maxLen; omega) (by omega) (by have := HBX.out; simp; omega) ?_)
  case c1 =>
    intro j u hj
    match j, hj with
    | 0, hj => simp at hj; subst hj; exact new_cell wx _ 5
  case c2 => intro u hu; simp at hu; subst hu; rfl
  intro v2 w2 own2 gr2 _ at2
  have g2 : Gr wx w2 v v2 := Gr.append gr2 at2
  have own2 : w2.ownsRow w.heap.size 5 1 v2 (n + 1) (bys (xs ++ [opN o a b])) := by
    rw [bys_app, bys_sing, show ((opN o a b : Nat) : Int) = (o : Int) + 192 from by unfold opN; rw [if_neg AZ.out, if_neg BZ.out]; omega]; exact own2
  have G2 := Lib.hid g2; have OWN2 := Lib.hid own2
  have b1 := (g2.cell BLT.out BNE.out).trans B1.out
  have b2 := (g2.cell BLT.out BNE.out).trans B2.out
  have hs2 := g2.g.size
  clear gr2 at2 g2 own2 b01 b02
  go_wp2_with fail
  refine (signed_any a _ ha1.out ha2.out).mono ?_; rintro e _w ⟨rfl, rfl⟩
  rw [Ua.out.1]
  go_wp2_with fail
  refine (group_any ua OWN2.out (by have := HBX.out; have := BLT.out; omega) Ua.out.2.2 (by omega)).mono ?_; rintro e w3 ⟨v3, n3, rfl, own3, g3, hn3⟩
  have g3' := G2.out.trans g3
  have G3 := Lib.hid g3'; have OWN3 := Lib.hid own3
  have b1 := (g3'.cell BLT.out BNE.out).trans B1.out
  have b2 := (g3'.cell BLT.out BNE.out).trans B2.out
  have hs3 := g3'.g.size
  clear g3 g3' own3
  go_wp2_with fail
  refine (signed_any b _ hb1.out hb2.out).mono ?_; rintro e _w ⟨rfl, rfl⟩
  rw [Ub.out.1]
  go_wp2_with fail
  refine (group_any ub OWN3.out (by have := HBX.out; have := BLT.out; omega) Ub.out.2.2 (by omega)).mono ?_; rintro e w4 ⟨v4, n4, rfl, own4, g4, hn4⟩
  have g4' := G3.out.trans g4
  have G4 := Lib.hid g4'; have OWN4 := Lib.hid own4
  have b1 := (g4'.cell BLT.out BNE.out).trans B1.out
  have b2 := (g4'.cell BLT.out BNE.out).trans B2.out
  have hs4 := g4'.g.size
  clear g4 g4' own4
  go_wp2
  go_ret
  refine ⟨_, n4, rfl, ?_, (G4.out.below OWN.out HBX.out |> HXB.out.trans)⟩
  have := OWN4.out
  unfold addS
  rw [if_neg AZ.out, if_neg BZ.out]
  rw [Ua.out.2.1]
  rw [Ub.out.2.1]
  simpa using this
set_option maxRecDepth 100000 in
set_option maxHeartbeats 1000000 in
theorem pin_11 {w : World} (o : Nat) (a b : Int) (ho : o < 64) (ha1 : Hid (-9223372036854775808 ≤ a)) (ha2 : Hid (a < 9223372036854775808)) (hb1 : Hid (-9223372036854775808 ≤ b)) (hb2 : Hid (b < 9223372036854775808)) (az : a = 0) (bz : b = 0) :
    Calls Try.prog 12 #[.slice none 0 0, .agg #[.int .i64 o, .int .i64 a, .int .i64 b]] w fun e w' => ∃ v' n', e = .returned v' ∧ w'.ownsRow w.heap.size 5 1 v' n' (bys ([] ++ addS o a b)) ∧ Below w.heap.size w w' := by
  obtain ⟨i0, hi0, hz0, hz1, hz2⟩ := info_parts info5
  obtain ⟨ua, ea⟩ := fold_nat a ha1.out ha2.out
  obtain ⟨ub, eb⟩ := fold_nat b hb1.out hb2.out
  have Ua := Lib.hid ea; have Ub := Lib.hid eb; clear ea eb
  have fo : (o : Int) % 256 = o := by omega
  have o1 : decide ((o : Int) < 0) = false := decide_eq_false (by omega)
  have o2 : decide ((63 : Int) < o) = false := decide_eq_false (by omega)
  have o3 : decide (63 < o) = false := decide_eq_false (by omega)
  have o4 : o ≤ 63 := by omega
  have AZ := Lib.hid az; have BZ := Lib.hid bz
  have na : (a != 0) = false := by rw [az]; rfl
  have nb : (b != 0) = false := by rw [bz]; rfl
  clear az bz
  have hbx0 := below_alloc w (.cells #[.int .i64 (o : Int), .int .i64 a, .int .i64 b] 35)
  have hbl0 : Below w.heap.size w ((w.alloc (.cells #[.int .i64 (o : Int), .int .i64 a, .int .i64 b] 35)).alloc (.cells #[] 5)) := (below_alloc w (.cells #[.int .i64 (o : Int), .int .i64 a, .int .i64 b] 35)).trans ((below_alloc _ (.cells #[] 5)).mono hbx0.size)
  obtain ⟨b00, b01, b02⟩ := box3 w (.int .i64 (o : Int)) (.int .i64 a) (.int .i64 b) 35
  have blt : w.heap.size < (w.alloc (.cells #[.int .i64 (o : Int), .int .i64 a, .int .i64 b] 35)).heap.size := by simp
  have b00 := ((below_alloc (w.alloc (.cells #[.int .i64 (o : Int), .int .i64 a, .int .i64 b] 35)) (.cells #[] 5)).cell (p := ⟨w.heap.size, 0, none⟩) blt).trans b00
  have b01 := ((below_alloc (w.alloc (.cells #[.int .i64 (o : Int), .int .i64 a, .int .i64 b] 35)) (.cells #[] 5)).cell (p := ⟨w.heap.size, 1, none⟩) blt).trans b01
  have b02 := ((below_alloc (w.alloc (.cells #[.int .i64 (o : Int), .int .i64 a, .int .i64 b] 35)) (.cells #[] 5)).cell (p := ⟨w.heap.size, 2, none⟩) blt).trans b02
  have B0 := Lib.hid b00; have B1' := Lib.hid b01; have B2' := Lib.hid b02
  have HBL := Lib.hid hbl0; have BLT0 := Lib.hid blt
  have lit0 := (own_mono (World.ownsRow_lit (size := 1) (e := 5) (w.alloc (.cells #[.int .i64 (o : Int), .int .i64 a, .int .i64 b] 35)) #[] 0 (Nat.le_refl _) (by unfold maxLen; omega) rfl) (Nat.le_of_lt blt))
  rw [show (w.alloc (.cells #[.int .i64 (o : Int), .int .i64 a, .int .i64 b] 35)).heap.size = w.heap.size + 1 from by simp] at lit0
  have LIT := Lib.hid lit0
  clear lit0 hbx0 hbl0 b00 b01 b02 blt
  go_enter Try.func12, Try.ntmps12
  have BNE : Hid ((Value.slice (some ⟨w.heap.size + 1, 0, none⟩) 0 0).ownBlock ≠ some w.heap.size) := Lib.hid (by simp [Value.ownBlock])
  have BLT : Hid (w.heap.size < ((w.alloc (.cells #[.int .i64 (o : Int), .int .i64 a, .int .i64 b] 35)).alloc (.cells #[] 5)).heap.size) := Lib.hid (by simp; omega)
  have HBX : Hid (w.heap.size ≤ ((w.alloc (.cells #[.int .i64 (o : Int), .int .i64 a, .int .i64 b] 35)).alloc (.cells #[] 5)).heap.size) := Lib.hid (by simp; omega)
  have B1 := B1'; have B2 := B2'; have OWN := LIT; have HXB := HBL
  have HN : Hid (∀ j u, [Value.int .u8 ((o : Int))][j]? = some u → (((w.alloc (.cells #[.int .i64 (o : Int), .int .i64 a, .int .i64 b] 35)).alloc (.cells #[] 5)).alloc (.cells #[.int .u8 ((o : Int))] 5)).cell? ((⟨w.heap.size + 1 + 1, 0, none⟩ : Addr).add j) = some u) := Lib.hid (fun j u hj => by
    match j, hj with
    | 0, hj => simp at hj; subst hj; have := new_cell ((w.alloc (.cells #[.int .i64 (o : Int), .int .i64 a, .int .i64 b] 35)).alloc (.cells #[] 5)) (.int .u8 ((o : Int))) 5; simpa using this)
  go_wp2_with (at_builtin; refine wpList_append_own_at _ rfl (.tmp 31) (.tmp 33) 28 rfl w.heap.size 5 i0 (.int .u8 0) 1 1 Try.underlying28 hi0 hz0 hz1 hz2 rfl (by decide) _ 0 [] rfl (LIT.out.alloc _) ⟨w.heap.size + 1 + 1, 0, none⟩ 1 1 [.int .u8 ((o : Int))] rfl rfl HN.out one_u8 (by unfold maxLen; omega) (by omega) (by have := HBX.out; simp; omega) ?_)
  intro v2 w2 own2 gr2 _ at2
  have g2 : Gr ((w.alloc (.cells #[.int .i64 (o : Int), .int .i64 a, .int .i64 b] 35)).alloc (.cells #[] 5)) w2 (.slice (some ⟨w.heap.size + 1, 0, none⟩) 0 0) v2 := Gr.append gr2 (by simpa using at2)
  have own2 : w2.ownsRow w.heap.size 5 1 v2 (0 + 1) (bys ([] ++ [opN o a b])) := by
    rw [bys_app, bys_sing, show ((opN o a b : Nat) : Int) = (o : Int) from by unfold opN; rw [if_pos AZ.out, if_pos BZ.out]; omega]; exact own2
  have G2 := Lib.hid g2; have OWN2 := Lib.hid own2
  have b1 := (g2.cell BLT.out BNE.out).trans B1.out
  have b2 := (g2.cell BLT.out BNE.out).trans B2.out
  have hs2 := g2.g.size
  clear gr2 at2 g2 own2 b01 b02
  go_wp2
  go_ret
  refine ⟨_, (0 + 1), rfl, ?_, (G2.out.below OWN.out HBX.out |> HXB.out.trans)⟩
  have := OWN2.out
  unfold addS
  rw [if_pos AZ.out, if_pos BZ.out]
  
  
  simpa using this
set_option maxRecDepth 100000 in
set_option maxHeartbeats 1000000 in
theorem pin_10 {w : World} (o : Nat) (a b : Int) (ho : o < 64) (ha1 : Hid (-9223372036854775808 ≤ a)) (ha2 : Hid (a < 9223372036854775808)) (hb1 : Hid (-9223372036854775808 ≤ b)) (hb2 : Hid (b < 9223372036854775808)) (az : a = 0) (bz : ¬ b = 0) :
    Calls Try.prog 12 #[.slice none 0 0, .agg #[.int .i64 o, .int .i64 a, .int .i64 b]] w fun e w' => ∃ v' n', e = .returned v' ∧ w'.ownsRow w.heap.size 5 1 v' n' (bys ([] ++ addS o a b)) ∧ Below w.heap.size w w' := by
  obtain ⟨i0, hi0, hz0, hz1, hz2⟩ := info_parts info5
  obtain ⟨ua, ea⟩ := fold_nat a ha1.out ha2.out
  obtain ⟨ub, eb⟩ := fold_nat b hb1.out hb2.out
  have Ua := Lib.hid ea; have Ub := Lib.hid eb; clear ea eb
  have fo : (o : Int) % 256 = o := by omega
  have o1 : decide ((o : Int) < 0) = false := decide_eq_false (by omega)
  have o2 : decide ((63 : Int) < o) = false := decide_eq_false (by omega)
  have o3 : decide (63 < o) = false := decide_eq_false (by omega)
  have o4 : o ≤ 63 := by omega
  have e1 : IntKind.u8.wrap ((o : Int) + 128) = (o : Int) + 128 := by simp only [IntKind.wrap_u8]; omega
  have AZ := Lib.hid az; have BZ := Lib.hid bz
  have na : (a != 0) = false := by rw [az]; rfl
  have nb : (b != 0) = true := bne_iff_ne.2 bz
  clear az bz
  have hbx0 := below_alloc w (.cells #[.int .i64 (o : Int), .int .i64 a, .int .i64 b] 35)
  have hbl0 : Below w.heap.size w ((w.alloc (.cells #[.int .i64 (o : Int), .int .i64 a, .int .i64 b] 35)).alloc (.cells #[] 5)) := (below_alloc w (.cells #[.int .i64 (o : Int), .int .i64 a, .int .i64 b] 35)).trans ((below_alloc _ (.cells #[] 5)).mono hbx0.size)
  obtain ⟨b00, b01, b02⟩ := box3 w (.int .i64 (o : Int)) (.int .i64 a) (.int .i64 b) 35
  have blt : w.heap.size < (w.alloc (.cells #[.int .i64 (o : Int), .int .i64 a, .int .i64 b] 35)).heap.size := by simp
  have b00 := ((below_alloc (w.alloc (.cells #[.int .i64 (o : Int), .int .i64 a, .int .i64 b] 35)) (.cells #[] 5)).cell (p := ⟨w.heap.size, 0, none⟩) blt).trans b00
  have b01 := ((below_alloc (w.alloc (.cells #[.int .i64 (o : Int), .int .i64 a, .int .i64 b] 35)) (.cells #[] 5)).cell (p := ⟨w.heap.size, 1, none⟩) blt).trans b01
  have b02 := ((below_alloc (w.alloc (.cells #[.int .i64 (o : Int), .int .i64 a, .int .i64 b] 35)) (.cells #[] 5)).cell (p := ⟨w.heap.size, 2, none⟩) blt).trans b02
  have B0 := Lib.hid b00; have B1' := Lib.hid b01; have B2' := Lib.hid b02
  have HBL := Lib.hid hbl0; have BLT0 := Lib.hid blt
  have lit0 := (own_mono (World.ownsRow_lit (size := 1) (e := 5) (w.alloc (.cells #[.int .i64 (o : Int), .int .i64 a, .int .i64 b] 35)) #[] 0 (Nat.le_refl _) (by unfold maxLen; omega) rfl) (Nat.le_of_lt blt))
  rw [show (w.alloc (.cells #[.int .i64 (o : Int), .int .i64 a, .int .i64 b] 35)).heap.size = w.heap.size + 1 from by simp] at lit0
  have LIT := Lib.hid lit0
  clear lit0 hbx0 hbl0 b00 b01 b02 blt
  go_enter Try.func12, Try.ntmps12
  have BNE : Hid ((Value.slice (some ⟨w.heap.size + 1, 0, none⟩) 0 0).ownBlock ≠ some w.heap.size) := Lib.hid (by simp [Value.ownBlock])
  have BLT : Hid (w.heap.size < ((w.alloc (.cells #[.int .i64 (o : Int), .int .i64 a, .int .i64 b] 35)).alloc (.cells #[] 5)).heap.size) := Lib.hid (by simp; omega)
  have HBX : Hid (w.heap.size ≤ ((w.alloc (.cells #[.int .i64 (o : Int), .int .i64 a, .int .i64 b] 35)).alloc (.cells #[] 5)).heap.size) := Lib.hid (by simp; omega)
  have B1 := B1'; have B2 := B2'; have OWN := LIT; have HXB := HBL
  have HN : Hid (∀ j u, [Value.int .u8 ((o : Int) + 128)][j]? = some u → (((w.alloc (.cells #[.int .i64 (o : Int), .int .i64 a, .int .i64 b] 35)).alloc (.cells #[] 5)).alloc (.cells #[.int .u8 ((o : Int) + 128)] 5)).cell? ((⟨w.heap.size + 1 + 1, 0, none⟩ : Addr).add j) = some u) := Lib.hid (fun j u hj => by
    match j, hj with
    | 0, hj => simp at hj; subst hj; have := new_cell ((w.alloc (.cells #[.int .i64 (o : Int), .int .i64 a, .int .i64 b] 35)).alloc (.cells #[] 5)) (.int .u8 ((o : Int) + 128)) 5; simpa using this)
  go_wp2_with (at_builtin; refine wpList_append_own_at _ rfl (.tmp 31) (.tmp 33) 28 rfl w.heap.size 5 i0 (.int .u8 0) 1 1 Try.underlying28 hi0 hz0 hz1 hz2 rfl (by decide) _ 0 [] rfl (LIT.out.alloc _) ⟨w.heap.size + 1 + 1, 0, none⟩ 1 1 [.int .u8 ((o : Int) + 128)] rfl rfl HN.out one_u8 (by unfold maxLen; omega) (by omega) (by have := HBX.out; simp; omega) ?_)
  intro v2 w2 own2 gr2 _ at2
  have g2 : Gr ((w.alloc (.cells #[.int .i64 (o : Int), .int .i64 a, .int .i64 b] 35)).alloc (.cells #[] 5)) w2 (.slice (some ⟨w.heap.size + 1, 0, none⟩) 0 0) v2 := Gr.append gr2 (by simpa using at2)
  have own2 : w2.ownsRow w.heap.size 5 1 v2 (0 + 1) (bys ([] ++ [opN o a b])) := by
    rw [bys_app, bys_sing, show ((opN o a b : Nat) : Int) = (o : Int) + 128 from by unfold opN; rw [if_pos AZ.out, if_neg BZ.out]; omega]; exact own2
  have G2 := Lib.hid g2; have OWN2 := Lib.hid own2
  have b1 := (g2.cell BLT.out BNE.out).trans B1.out
  have b2 := (g2.cell BLT.out BNE.out).trans B2.out
  have hs2 := g2.g.size
  clear gr2 at2 g2 own2 b01 b02
  go_wp2_with fail
  refine (signed_any b _ hb1.out hb2.out).mono ?_; rintro e _w ⟨rfl, rfl⟩
  rw [Ub.out.1]
  go_wp2_with fail
  refine (group_any ub OWN2.out (by have := HBX.out; have := BLT.out; omega) Ub.out.2.2 (by omega)).mono ?_; rintro e w3 ⟨v3, n3, rfl, own3, g3, hn3⟩
  have g3' := G2.out.trans g3
  have G3 := Lib.hid g3'; have OWN3 := Lib.hid own3
  have b1 := (g3'.cell BLT.out BNE.out).trans B1.out
  have b2 := (g3'.cell BLT.out BNE.out).trans B2.out
  have hs3 := g3'.g.size
  clear g3 g3' own3
  go_wp2
  go_ret
  refine ⟨_, n3, rfl, ?_, (G3.out.below OWN.out HBX.out |> HXB.out.trans)⟩
  have := OWN3.out
  unfold addS
  rw [if_pos AZ.out, if_neg BZ.out]
  
  rw [Ub.out.2.1]
  simpa using this
set_option maxRecDepth 100000 in
set_option maxHeartbeats 1000000 in
theorem pin_01 {w : World} (o : Nat) (a b : Int) (ho : o < 64) (ha1 : Hid (-9223372036854775808 ≤ a)) (ha2 : Hid (a < 9223372036854775808)) (hb1 : Hid (-9223372036854775808 ≤ b)) (hb2 : Hid (b < 9223372036854775808)) (az : ¬ a = 0) (bz : b = 0) :
    Calls Try.prog 12 #[.slice none 0 0, .agg #[.int .i64 o, .int .i64 a, .int .i64 b]] w fun e w' => ∃ v' n', e = .returned v' ∧ w'.ownsRow w.heap.size 5 1 v' n' (bys ([] ++ addS o a b)) ∧ Below w.heap.size w w' := by
  obtain ⟨i0, hi0, hz0, hz1, hz2⟩ := info_parts info5
  obtain ⟨ua, ea⟩ := fold_nat a ha1.out ha2.out
  obtain ⟨ub, eb⟩ := fold_nat b hb1.out hb2.out
  have Ua := Lib.hid ea; have Ub := Lib.hid eb; clear ea eb
  have fo : (o : Int) % 256 = o := by omega
  have o1 : decide ((o : Int) < 0) = false := decide_eq_false (by omega)
  have o2 : decide ((63 : Int) < o) = false := decide_eq_false (by omega)
  have o3 : decide (63 < o) = false := decide_eq_false (by omega)
  have o4 : o ≤ 63 := by omega
  have e1 : IntKind.u8.wrap ((o : Int) + 64) = (o : Int) + 64 := by simp only [IntKind.wrap_u8]; omega
  have AZ := Lib.hid az; have BZ := Lib.hid bz
  have na : (a != 0) = true := bne_iff_ne.2 az
  have nb : (b != 0) = false := by rw [bz]; rfl
  clear az bz
  have hbx0 := below_alloc w (.cells #[.int .i64 (o : Int), .int .i64 a, .int .i64 b] 35)
  have hbl0 : Below w.heap.size w ((w.alloc (.cells #[.int .i64 (o : Int), .int .i64 a, .int .i64 b] 35)).alloc (.cells #[] 5)) := (below_alloc w (.cells #[.int .i64 (o : Int), .int .i64 a, .int .i64 b] 35)).trans ((below_alloc _ (.cells #[] 5)).mono hbx0.size)
  obtain ⟨b00, b01, b02⟩ := box3 w (.int .i64 (o : Int)) (.int .i64 a) (.int .i64 b) 35
  have blt : w.heap.size < (w.alloc (.cells #[.int .i64 (o : Int), .int .i64 a, .int .i64 b] 35)).heap.size := by simp
  have b00 := ((below_alloc (w.alloc (.cells #[.int .i64 (o : Int), .int .i64 a, .int .i64 b] 35)) (.cells #[] 5)).cell (p := ⟨w.heap.size, 0, none⟩) blt).trans b00
  have b01 := ((below_alloc (w.alloc (.cells #[.int .i64 (o : Int), .int .i64 a, .int .i64 b] 35)) (.cells #[] 5)).cell (p := ⟨w.heap.size, 1, none⟩) blt).trans b01
  have b02 := ((below_alloc (w.alloc (.cells #[.int .i64 (o : Int), .int .i64 a, .int .i64 b] 35)) (.cells #[] 5)).cell (p := ⟨w.heap.size, 2, none⟩) blt).trans b02
  have B0 := Lib.hid b00; have B1' := Lib.hid b01; have B2' := Lib.hid b02
  have HBL := Lib.hid hbl0; have BLT0 := Lib.hid blt
  have lit0 := (own_mono (World.ownsRow_lit (size := 1) (e := 5) (w.alloc (.cells #[.int .i64 (o : Int), .int .i64 a, .int .i64 b] 35)) #[] 0 (Nat.le_refl _) (by unfold maxLen; omega) rfl) (Nat.le_of_lt blt))
  rw [show (w.alloc (.cells #[.int .i64 (o : Int), .int .i64 a, .int .i64 b] 35)).heap.size = w.heap.size + 1 from by simp] at lit0
  have LIT := Lib.hid lit0
  clear lit0 hbx0 hbl0 b00 b01 b02 blt
  go_enter Try.func12, Try.ntmps12
  have BNE : Hid ((Value.slice (some ⟨w.heap.size + 1, 0, none⟩) 0 0).ownBlock ≠ some w.heap.size) := Lib.hid (by simp [Value.ownBlock])
  have BLT : Hid (w.heap.size < ((w.alloc (.cells #[.int .i64 (o : Int), .int .i64 a, .int .i64 b] 35)).alloc (.cells #[] 5)).heap.size) := Lib.hid (by simp; omega)
  have HBX : Hid (w.heap.size ≤ ((w.alloc (.cells #[.int .i64 (o : Int), .int .i64 a, .int .i64 b] 35)).alloc (.cells #[] 5)).heap.size) := Lib.hid (by simp; omega)
  have B1 := B1'; have B2 := B2'; have OWN := LIT; have HXB := HBL
  have HN : Hid (∀ j u, [Value.int .u8 ((o : Int) + 64)][j]? = some u → (((w.alloc (.cells #[.int .i64 (o : Int), .int .i64 a, .int .i64 b] 35)).alloc (.cells #[] 5)).alloc (.cells #[.int .u8 ((o : Int) + 64)] 5)).cell? ((⟨w.heap.size + 1 + 1, 0, none⟩ : Addr).add j) = some u) := Lib.hid (fun j u hj => by
    match j, hj with
    | 0, hj => simp at hj; subst hj; have := new_cell ((w.alloc (.cells #[.int .i64 (o : Int), .int .i64 a, .int .i64 b] 35)).alloc (.cells #[] 5)) (.int .u8 ((o : Int) + 64)) 5; simpa using this)
  go_wp2_with (at_builtin; refine wpList_append_own_at _ rfl (.tmp 31) (.tmp 33) 28 rfl w.heap.size 5 i0 (.int .u8 0) 1 1 Try.underlying28 hi0 hz0 hz1 hz2 rfl (by decide) _ 0 [] rfl (LIT.out.alloc _) ⟨w.heap.size + 1 + 1, 0, none⟩ 1 1 [.int .u8 ((o : Int) + 64)] rfl rfl HN.out one_u8 (by unfold maxLen; omega) (by omega) (by have := HBX.out; simp; omega) ?_)
  intro v2 w2 own2 gr2 _ at2
  have g2 : Gr ((w.alloc (.cells #[.int .i64 (o : Int), .int .i64 a, .int .i64 b] 35)).alloc (.cells #[] 5)) w2 (.slice (some ⟨w.heap.size + 1, 0, none⟩) 0 0) v2 := Gr.append gr2 (by simpa using at2)
  have own2 : w2.ownsRow w.heap.size 5 1 v2 (0 + 1) (bys ([] ++ [opN o a b])) := by
    rw [bys_app, bys_sing, show ((opN o a b : Nat) : Int) = (o : Int) + 64 from by unfold opN; rw [if_neg AZ.out, if_pos BZ.out]; omega]; exact own2
  have G2 := Lib.hid g2; have OWN2 := Lib.hid own2
  have b1 := (g2.cell BLT.out BNE.out).trans B1.out
  have b2 := (g2.cell BLT.out BNE.out).trans B2.out
  have hs2 := g2.g.size
  clear gr2 at2 g2 own2 b01 b02
  go_wp2_with fail
  refine (signed_any a _ ha1.out ha2.out).mono ?_; rintro e _w ⟨rfl, rfl⟩
  rw [Ua.out.1]
  go_wp2_with fail
  refine (group_any ua OWN2.out (by have := HBX.out; have := BLT.out; omega) Ua.out.2.2 (by omega)).mono ?_; rintro e w3 ⟨v3, n3, rfl, own3, g3, hn3⟩
  have g3' := G2.out.trans g3
  have G3 := Lib.hid g3'; have OWN3 := Lib.hid own3
  have b1 := (g3'.cell BLT.out BNE.out).trans B1.out
  have b2 := (g3'.cell BLT.out BNE.out).trans B2.out
  have hs3 := g3'.g.size
  clear g3 g3' own3
  go_wp2
  go_ret
  refine ⟨_, n3, rfl, ?_, (G3.out.below OWN.out HBX.out |> HXB.out.trans)⟩
  have := OWN3.out
  unfold addS
  rw [if_neg AZ.out, if_pos BZ.out]
  rw [Ua.out.2.1]
  
  simpa using this
set_option maxRecDepth 100000 in
set_option maxHeartbeats 1000000 in
theorem pin_00 {w : World} (o : Nat) (a b : Int) (ho : o < 64) (ha1 : Hid (-9223372036854775808 ≤ a)) (ha2 : Hid (a < 9223372036854775808)) (hb1 : Hid (-9223372036854775808 ≤ b)) (hb2 : Hid (b < 9223372036854775808)) (az : ¬ a = 0) (bz : ¬ b = 0) :
    Calls Try.prog 12 #[.slice none 0 0, .agg #[.int .i64 o, .int .i64 a, .int .i64 b]] w fun e w' => ∃ v' n', e = .returned v' ∧ w'.ownsRow w.heap.size 5 1 v' n' (bys ([] ++ addS o a b)) ∧ Below w.heap.size w w' := by
  obtain ⟨i0, hi0, hz0, hz1, hz2⟩ := info_parts info5
  obtain ⟨ua, ea⟩ := fold_nat a ha1.out ha2.out
  obtain ⟨ub, eb⟩ := fold_nat b hb1.out hb2.out
  have Ua := Lib.hid ea; have Ub := Lib.hid eb; clear ea eb
  have fo : (o : Int) % 256 = o := by omega
  have o1 : decide ((o : Int) < 0) = false := decide_eq_false (by omega)
  have o2 : decide ((63 : Int) < o) = false := decide_eq_false (by omega)
  have o3 : decide (63 < o) = false := decide_eq_false (by omega)
  have o4 : o ≤ 63 := by omega
  have e1 : IntKind.u8.wrap ((o : Int) + 64) = (o : Int) + 64 := by simp only [IntKind.wrap_u8]; omega
  have e2 : IntKind.u8.wrap ((o : Int) + 64 + 128) = (o : Int) + 192 := by simp only [IntKind.wrap_u8]; omega
  have AZ := Lib.hid az; have BZ := Lib.hid bz
  have na : (a != 0) = true := bne_iff_ne.2 az
  have nb : (b != 0) = true := bne_iff_ne.2 bz
  clear az bz
  have hbx0 := below_alloc w (.cells #[.int .i64 (o : Int), .int .i64 a, .int .i64 b] 35)
  have hbl0 : Below w.heap.size w ((w.alloc (.cells #[.int .i64 (o : Int), .int .i64 a, .int .i64 b] 35)).alloc (.cells #[] 5)) := (below_alloc w (.cells #[.int .i64 (o : Int), .int .i64 a, .int .i64 b] 35)).trans ((below_alloc _ (.cells #[] 5)).mono hbx0.size)
  obtain ⟨b00, b01, b02⟩ := box3 w (.int .i64 (o : Int)) (.int .i64 a) (.int .i64 b) 35
  have blt : w.heap.size < (w.alloc (.cells #[.int .i64 (o : Int), .int .i64 a, .int .i64 b] 35)).heap.size := by simp
  have b00 := ((below_alloc (w.alloc (.cells #[.int .i64 (o : Int), .int .i64 a, .int .i64 b] 35)) (.cells #[] 5)).cell (p := ⟨w.heap.size, 0, none⟩) blt).trans b00
  have b01 := ((below_alloc (w.alloc (.cells #[.int .i64 (o : Int), .int .i64 a, .int .i64 b] 35)) (.cells #[] 5)).cell (p := ⟨w.heap.size, 1, none⟩) blt).trans b01
  have b02 := ((below_alloc (w.alloc (.cells #[.int .i64 (o : Int), .int .i64 a, .int .i64 b] 35)) (.cells #[] 5)).cell (p := ⟨w.heap.size, 2, none⟩) blt).trans b02
  have B0 := Lib.hid b00; have B1' := Lib.hid b01; have B2' := Lib.hid b02
  have HBL := Lib.hid hbl0; have BLT0 := Lib.hid blt
  have lit0 := (own_mono (World.ownsRow_lit (size := 1) (e := 5) (w.alloc (.cells #[.int .i64 (o : Int), .int .i64 a, .int .i64 b] 35)) #[] 0 (Nat.le_refl _) (by unfold maxLen; omega) rfl) (Nat.le_of_lt blt))
  rw [show (w.alloc (.cells #[.int .i64 (o : Int), .int .i64 a, .int .i64 b] 35)).heap.size = w.heap.size + 1 from by simp] at lit0
  have LIT := Lib.hid lit0
  clear lit0 hbx0 hbl0 b00 b01 b02 blt
  go_enter Try.func12, Try.ntmps12
  have BNE : Hid ((Value.slice (some ⟨w.heap.size + 1, 0, none⟩) 0 0).ownBlock ≠ some w.heap.size) := Lib.hid (by simp [Value.ownBlock])
  have BLT : Hid (w.heap.size < ((w.alloc (.cells #[.int .i64 (o : Int), .int .i64 a, .int .i64 b] 35)).alloc (.cells #[] 5)).heap.size) := Lib.hid (by simp; omega)
  have HBX : Hid (w.heap.size ≤ ((w.alloc (.cells #[.int .i64 (o : Int), .int .i64 a, .int .i64 b] 35)).alloc (.cells #[] 5)).heap.size) := Lib.hid (by simp; omega)
  have B1 := B1'; have B2 := B2'; have OWN := LIT; have HXB := HBL
  have HN : Hid (∀ j u, [Value.int .u8 ((o : Int) + 192)][j]? = some u → (((w.alloc (.cells #[.int .i64 (o : Int), .int .i64 a, .int .i64 b] 35)).alloc (.cells #[] 5)).alloc (.cells #[.int .u8 ((o : Int) + 192)] 5)).cell? ((⟨w.heap.size + 1 + 1, 0, none⟩ : Addr).add j) = some u) := Lib.hid (fun j u hj => by
    match j, hj with
    | 0, hj => simp at hj; subst hj; have := new_cell ((w.alloc (.cells #[.int .i64 (o : Int), .int .i64 a, .int .i64 b] 35)).alloc (.cells #[] 5)) (.int .u8 ((o : Int) + 192)) 5; simpa using this)
  go_wp2_with (at_builtin; refine wpList_append_own_at _ rfl (.tmp 31) (.tmp 33) 28 rfl w.heap.size 5 i0 (.int .u8 0) 1 1 Try.underlying28 hi0 hz0 hz1 hz2 rfl (by decide) _ 0 [] rfl (LIT.out.alloc _) ⟨w.heap.size + 1 + 1, 0, none⟩ 1 1 [.int .u8 ((o : Int) + 192)] rfl rfl HN.out one_u8 (by unfold maxLen; omega) (by omega) (by have := HBX.out; simp; omega) ?_)
  intro v2 w2 own2 gr2 _ at2
  have g2 : Gr ((w.alloc (.cells #[.int .i64 (o : Int), .int .i64 a, .int .i64 b] 35)).alloc (.cells #[] 5)) w2 (.slice (some ⟨w.heap.size + 1, 0, none⟩) 0 0) v2 := Gr.append gr2 (by simpa using at2)
  have own2 : w2.ownsRow w.heap.size 5 1 v2 (0 + 1) (bys ([] ++ [opN o a b])) := by
    rw [bys_app, bys_sing, show ((opN o a b : Nat) : Int) = (o : Int) + 192 from by unfold opN; rw [if_neg AZ.out, if_neg BZ.out]; omega]; exact own2
  have G2 := Lib.hid g2; have OWN2 := Lib.hid own2
  have b1 := (g2.cell BLT.out BNE.out).trans B1.out
  have b2 := (g2.cell BLT.out BNE.out).trans B2.out
  have hs2 := g2.g.size
  clear gr2 at2 g2 own2 b01 b02
  go_wp2_with fail
  refine (signed_any a _ ha1.out ha2.out).mono ?_; rintro e _w ⟨rfl, rfl⟩
  rw [Ua.out.1]
  go_wp2_with fail
  refine (group_any ua OWN2.out (by have := HBX.out; have := BLT.out; omega) Ua.out.2.2 (by omega)).mono ?_; rintro e w3 ⟨v3, n3, rfl, own3, g3, hn3⟩
  have g3' := G2.out.trans g3
  have G3 := Lib.hid g3'; have OWN3 := Lib.hid own3
  have b1 := (g3'.cell BLT.out BNE.out).trans B1.out
  have b2 := (g3'.cell BLT.out BNE.out).trans B2.out
  have hs3 := g3'.g.size
  clear g3 g3' own3
  go_wp2_with fail
  refine (signed_any b _ hb1.out hb2.out).mono ?_; rintro e _w ⟨rfl, rfl⟩
  rw [Ub.out.1]
  go_wp2_with fail
  refine (group_any ub OWN3.out (by have := HBX.out; have := BLT.out; omega) Ub.out.2.2 (by omega)).mono ?_; rintro e w4 ⟨v4, n4, rfl, own4, g4, hn4⟩
  have g4' := G3.out.trans g4
  have G4 := Lib.hid g4'; have OWN4 := Lib.hid own4
  have b1 := (g4'.cell BLT.out BNE.out).trans B1.out
  have b2 := (g4'.cell BLT.out BNE.out).trans B2.out
  have hs4 := g4'.g.size
  clear g4 g4' own4
  go_wp2
  go_ret
  refine ⟨_, n4, rfl, ?_, (G4.out.below OWN.out HBX.out |> HXB.out.trans)⟩
  have := OWN4.out
  unfold addS
  rw [if_neg AZ.out, if_neg BZ.out]
  rw [Ua.out.2.1]
  rw [Ub.out.2.1]
  simpa using this
set_option maxRecDepth 100000 in
set_option maxHeartbeats 1000000 in
theorem pibad_0 {w : World} {A : Addr} {c : Nat} {xs : List Nat} (o a b : Int) (ho : o < 0) (h : ∀ j u, (bys xs)[j]? = some u → w.cell? (A.add j) = some u) (hl : xs.length ≤ 900000) :
    Calls Try.prog 12 #[.slice (some A) xs.length c, .agg #[.int .i64 o, .int .i64 a, .int .i64 b]] w fun e w' => ∃ v' n', e = .returned v' ∧ w'.ownsRow w.heap.size 5 1 v' n' (bys (xs ++ [])) ∧ Below w.heap.size w w' := by
  obtain ⟨i0, hi0, hz0, hz1, hz2⟩ := info_parts info5
  have o1 : decide (o < 0) = true := decide_eq_true ho
  clear ho
  have hbx0 := below_alloc w (.cells #[.int .i64 o, .int .i64 a, .int .i64 b] 35)
  have hbl0 : Below w.heap.size w ((w.alloc (.cells #[.int .i64 o, .int .i64 a, .int .i64 b] 35)).alloc (.cells #[] 5)) := (below_alloc w (.cells #[.int .i64 o, .int .i64 a, .int .i64 b] 35)).trans ((below_alloc _ (.cells #[] 5)).mono hbx0.size)
  obtain ⟨b00, b01, b02⟩ := box3 w (.int .i64 o) (.int .i64 a) (.int .i64 b) 35
  have blt : w.heap.size < (w.alloc (.cells #[.int .i64 o, .int .i64 a, .int .i64 b] 35)).heap.size := by simp
  have b00 := ((below_alloc (w.alloc (.cells #[.int .i64 o, .int .i64 a, .int .i64 b] 35)) (.cells #[] 5)).cell (p := ⟨w.heap.size, 0, none⟩) blt).trans b00
  have b01 := ((below_alloc (w.alloc (.cells #[.int .i64 o, .int .i64 a, .int .i64 b] 35)) (.cells #[] 5)).cell (p := ⟨w.heap.size, 1, none⟩) blt).trans b01
  have b02 := ((below_alloc (w.alloc (.cells #[.int .i64 o, .int .i64 a, .int .i64 b] 35)) (.cells #[] 5)).cell (p := ⟨w.heap.size, 2, none⟩) blt).trans b02
  have B0 := Lib.hid b00; have B1' := Lib.hid b01; have B2' := Lib.hid b02
  have HBL := Lib.hid hbl0; have BLT0 := Lib.hid blt
  have lit0 := (own_mono (World.ownsRow_lit (size := 1) (e := 5) (w.alloc (.cells #[.int .i64 o, .int .i64 a, .int .i64 b] 35)) #[] 0 (Nat.le_refl _) (by unfold maxLen; omega) rfl) (Nat.le_of_lt blt))
  rw [show (w.alloc (.cells #[.int .i64 o, .int .i64 a, .int .i64 b] 35)).heap.size = w.heap.size + 1 from by simp] at lit0
  have LIT := Lib.hid lit0
  have hh : ∀ j u, (bys xs)[j]? = some u → ((w.alloc (.cells #[.int .i64 o, .int .i64 a, .int .i64 b] 35)).alloc (.cells #[] 5)).cell? (A.add j) = some u := fun j u hu => by
    have := h j u hu
    rw [hbl0.cell (World.block_lt_of_cell? w _ this)]; exact this
  have H := Lib.hid hh
  clear h hh
  clear lit0 hbx0 hbl0 b00 b01 b02 blt
  go_enter Try.func12, Try.ntmps12
  go_wp2_with (at_builtin; refine wpList_append_own_at _ rfl (.tmp 6) (.tmp 7) 28 rfl w.heap.size 5 i0 (.int .u8 0) 1 1 Try.underlying28 hi0 hz0 hz1 hz2 rfl (by decide) _ 0 [] rfl LIT.out A _ _ (bys xs) rfl (by simp [bys]) H.out (bys_one xs) (by unfold maxLen; omega) (by omega) (by simp; omega) ?_)
  intro v wx own2 gr2 _ at2
  have hs := gr2.size
  have hx1 : Below w.heap.size w wx := HBL.out.grown gr2 (by simp; omega) (fun q hq => by simp [Value.ownBlock] at hq; omega)
  have own2 : wx.ownsRow w.heap.size 5 1 v xs.length (bys xs) := by simpa using own2
  obtain ⟨n, hn⟩ : ∃ n, n = xs.length := ⟨_, rfl⟩
  rw [← hn] at own2 hl
  have HN := Lib.hid hn; clear hn
  have bne : v.ownBlock ≠ some w.heap.size := by
    rcases at2 with e | e <;> rw [e] <;> simp [Value.ownBlock] <;> omega
  have b0 : wx.cell? ⟨w.heap.size, 0, none⟩ = some (.int .i64 o) := (gr2.cell B0.out (by simp [Value.ownBlock]))
  have b1 : wx.cell? ⟨w.heap.size, 1, none⟩ = some (.int .i64 a) := (gr2.cell B1'.out (by simp [Value.ownBlock]))
  have b2 : wx.cell? ⟨w.heap.size, 2, none⟩ = some (.int .i64 b) := (gr2.cell B2'.out (by simp [Value.ownBlock]))
  clear gr2 at2
  have OWN := Lib.hid own2; have HXB := Lib.hid hx1; have BNE := Lib.hid bne
  have HBX : Hid (w.heap.size ≤ wx.heap.size) := Lib.hid hx1.size
  have BLT : Hid (w.heap.size < wx.heap.size) := Lib.hid (by have := BLT0.out; simp at hs; omega)
  have B1 := Lib.hid b1; have B2 := Lib.hid b2
  clear own2 hx1 bne hs
  go_wp2
  go_ret
  exact ⟨_, n, rfl, by rw [List.append_nil]; exact OWN.out, HXB.out⟩
set_option maxRecDepth 100000 in
set_option maxHeartbeats 1000000 in
theorem pinbad_0 {w : World} (o a b : Int) (ho : o < 0) :
    Calls Try.prog 12 #[.slice none 0 0, .agg #[.int .i64 o, .int .i64 a, .int .i64 b]] w fun e w' => ∃ v' n', e = .returned v' ∧ w'.ownsRow w.heap.size 5 1 v' n' (bys ([] ++ [])) ∧ Below w.heap.size w w' := by
  obtain ⟨i0, hi0, hz0, hz1, hz2⟩ := info_parts info5
  have o1 : decide (o < 0) = true := decide_eq_true ho
  clear ho
  have hbx0 := below_alloc w (.cells #[.int .i64 o, .int .i64 a, .int .i64 b] 35)
  have hbl0 : Below w.heap.size w ((w.alloc (.cells #[.int .i64 o, .int .i64 a, .int .i64 b] 35)).alloc (.cells #[] 5)) := (below_alloc w (.cells #[.int .i64 o, .int .i64 a, .int .i64 b] 35)).trans ((below_alloc _ (.cells #[] 5)).mono hbx0.size)
  obtain ⟨b00, b01, b02⟩ := box3 w (.int .i64 o) (.int .i64 a) (.int .i64 b) 35
  have blt : w.heap.size < (w.alloc (.cells #[.int .i64 o, .int .i64 a, .int .i64 b] 35)).heap.size := by simp
  have b00 := ((below_alloc (w.alloc (.cells #[.int .i64 o, .int .i64 a, .int .i64 b] 35)) (.cells #[] 5)).cell (p := ⟨w.heap.size, 0, none⟩) blt).trans b00
  have b01 := ((below_alloc (w.alloc (.cells #[.int .i64 o, .int .i64 a, .int .i64 b] 35)) (.cells #[] 5)).cell (p := ⟨w.heap.size, 1, none⟩) blt).trans b01
  have b02 := ((below_alloc (w.alloc (.cells #[.int .i64 o, .int .i64 a, .int .i64 b] 35)) (.cells #[] 5)).cell (p := ⟨w.heap.size, 2, none⟩) blt).trans b02
  have B0 := Lib.hid b00; have B1' := Lib.hid b01; have B2' := Lib.hid b02
  have HBL := Lib.hid hbl0; have BLT0 := Lib.hid blt
  have lit0 := (own_mono (World.ownsRow_lit (size := 1) (e := 5) (w.alloc (.cells #[.int .i64 o, .int .i64 a, .int .i64 b] 35)) #[] 0 (Nat.le_refl _) (by unfold maxLen; omega) rfl) (Nat.le_of_lt blt))
  rw [show (w.alloc (.cells #[.int .i64 o, .int .i64 a, .int .i64 b] 35)).heap.size = w.heap.size + 1 from by simp] at lit0
  have LIT := Lib.hid lit0
  clear lit0 hbx0 hbl0 b00 b01 b02 blt
  go_enter Try.func12, Try.ntmps12
  have BNE : Hid ((Value.slice (some ⟨w.heap.size + 1, 0, none⟩) 0 0).ownBlock ≠ some w.heap.size) := Lib.hid (by simp [Value.ownBlock])
  have BLT : Hid (w.heap.size < ((w.alloc (.cells #[.int .i64 o, .int .i64 a, .int .i64 b] 35)).alloc (.cells #[] 5)).heap.size) := Lib.hid (by simp; omega)
  have HBX : Hid (w.heap.size ≤ ((w.alloc (.cells #[.int .i64 o, .int .i64 a, .int .i64 b] 35)).alloc (.cells #[] 5)).heap.size) := Lib.hid (by simp; omega)
  have B1 := B1'; have B2 := B2'; have OWN := LIT; have HXB := HBL
  go_wp2
  go_ret
  first | exact ⟨_, 0, rfl, LIT.out, HXB.out⟩ | exact ⟨_, rfl, ⟨0, LIT.out⟩, HXB.out⟩ | exact ⟨rfl, ⟨0, LIT.out⟩, HXB.out⟩
set_option maxRecDepth 100000 in
set_option maxHeartbeats 1000000 in
theorem pibad_1 {w : World} {A : Addr} {c : Nat} {xs : List Nat} (o a b : Int) (ho : 63 < o) (h : ∀ j u, (bys xs)[j]? = some u → w.cell? (A.add j) = some u) (hl : xs.length ≤ 900000) :
    Calls Try.prog 12 #[.slice (some A) xs.length c, .agg #[.int .i64 o, .int .i64 a, .int .i64 b]] w fun e w' => ∃ v' n', e = .returned v' ∧ w'.ownsRow w.heap.size 5 1 v' n' (bys (xs ++ [])) ∧ Below w.heap.size w w' := by
  obtain ⟨i0, hi0, hz0, hz1, hz2⟩ := info_parts info5
  have o0 : ¬ o < 0 := by omega
  have o2 : decide ((63 : Int) < o) = true := decide_eq_true ho
  clear ho
  have hbx0 := below_alloc w (.cells #[.int .i64 o, .int .i64 a, .int .i64 b] 35)
  have hbl0 : Below w.heap.size w ((w.alloc (.cells #[.int .i64 o, .int .i64 a, .int .i64 b] 35)).alloc (.cells #[] 5)) := (below_alloc w (.cells #[.int .i64 o, .int .i64 a, .int .i64 b] 35)).trans ((below_alloc _ (.cells #[] 5)).mono hbx0.size)
  obtain ⟨b00, b01, b02⟩ := box3 w (.int .i64 o) (.int .i64 a) (.int .i64 b) 35
  have blt : w.heap.size < (w.alloc (.cells #[.int .i64 o, .int .i64 a, .int .i64 b] 35)).heap.size := by simp
  have b00 := ((below_alloc (w.alloc (.cells #[.int .i64 o, .int .i64 a, .int .i64 b] 35)) (.cells #[] 5)).cell (p := ⟨w.heap.size, 0, none⟩) blt).trans b00
  have b01 := ((below_alloc (w.alloc (.cells #[.int .i64 o, .int .i64 a, .int .i64 b] 35)) (.cells #[] 5)).cell (p := ⟨w.heap.size, 1, none⟩) blt).trans b01
  have b02 := ((below_alloc (w.alloc (.cells #[.int .i64 o, .int .i64 a, .int .i64 b] 35)) (.cells #[] 5)).cell (p := ⟨w.heap.size, 2, none⟩) blt).trans b02
  have B0 := Lib.hid b00; have B1' := Lib.hid b01; have B2' := Lib.hid b02
  have HBL := Lib.hid hbl0; have BLT0 := Lib.hid blt
  have lit0 := (own_mono (World.ownsRow_lit (size := 1) (e := 5) (w.alloc (.cells #[.int .i64 o, .int .i64 a, .int .i64 b] 35)) #[] 0 (Nat.le_refl _) (by unfold maxLen; omega) rfl) (Nat.le_of_lt blt))
  rw [show (w.alloc (.cells #[.int .i64 o, .int .i64 a, .int .i64 b] 35)).heap.size = w.heap.size + 1 from by simp] at lit0
  have LIT := Lib.hid lit0
  have hh : ∀ j u, (bys xs)[j]? = some u → ((w.alloc (.cells #[.int .i64 o, .int .i64 a, .int .i64 b] 35)).alloc (.cells #[] 5)).cell? (A.add j) = some u := fun j u hu => by
    have := h j u hu
    rw [hbl0.cell (World.block_lt_of_cell? w _ this)]; exact this
  have H := Lib.hid hh
  clear h hh
  clear lit0 hbx0 hbl0 b00 b01 b02 blt
  go_enter Try.func12, Try.ntmps12
  go_wp2_with (at_builtin; refine wpList_append_own_at _ rfl (.tmp 6) (.tmp 7) 28 rfl w.heap.size 5 i0 (.int .u8 0) 1 1 Try.underlying28 hi0 hz0 hz1 hz2 rfl (by decide) _ 0 [] rfl LIT.out A _ _ (bys xs) rfl (by simp [bys]) H.out (bys_one xs) (by unfold maxLen; omega) (by omega) (by simp; omega) ?_)
  intro v wx own2 gr2 _ at2
  have hs := gr2.size
  have hx1 : Below w.heap.size w wx := HBL.out.grown gr2 (by simp; omega) (fun q hq => by simp [Value.ownBlock] at hq; omega)
  have own2 : wx.ownsRow w.heap.size 5 1 v xs.length (bys xs) := by simpa using own2
  obtain ⟨n, hn⟩ : ∃ n, n = xs.length := ⟨_, rfl⟩
  rw [← hn] at own2 hl
  have HN := Lib.hid hn; clear hn
  have bne : v.ownBlock ≠ some w.heap.size := by
    rcases at2 with e | e <;> rw [e] <;> simp [Value.ownBlock] <;> omega
  have b0 : wx.cell? ⟨w.heap.size, 0, none⟩ = some (.int .i64 o) := (gr2.cell B0.out (by simp [Value.ownBlock]))
  have b1 : wx.cell? ⟨w.heap.size, 1, none⟩ = some (.int .i64 a) := (gr2.cell B1'.out (by simp [Value.ownBlock]))
  have b2 : wx.cell? ⟨w.heap.size, 2, none⟩ = some (.int .i64 b) := (gr2.cell B2'.out (by simp [Value.ownBlock]))
  clear gr2 at2
  have OWN := Lib.hid own2; have HXB := Lib.hid hx1; have BNE := Lib.hid bne
  have HBX : Hid (w.heap.size ≤ wx.heap.size) := Lib.hid hx1.size
  have BLT : Hid (w.heap.size < wx.heap.size) := Lib.hid (by have := BLT0.out; simp at hs; omega)
  have B1 := Lib.hid b1; have B2 := Lib.hid b2
  clear own2 hx1 bne hs
  go_wp2
  go_ret
  exact ⟨_, n, rfl, by rw [List.append_nil]; exact OWN.out, HXB.out⟩
set_option maxRecDepth 100000 in
set_option maxHeartbeats 1000000 in
theorem pinbad_1 {w : World} (o a b : Int) (ho : 63 < o) :
    Calls Try.prog 12 #[.slice none 0 0, .agg #[.int .i64 o, .int .i64 a, .int .i64 b]] w fun e w' => ∃ v' n', e = .returned v' ∧ w'.ownsRow w.heap.size 5 1 v' n' (bys ([] ++ [])) ∧ Below w.heap.size w w' := by
  obtain ⟨i0, hi0, hz0, hz1, hz2⟩ := info_parts info5
  have o0 : ¬ o < 0 := by omega
  have o2 : decide ((63 : Int) < o) = true := decide_eq_true ho
  clear ho
  have hbx0 := below_alloc w (.cells #[.int .i64 o, .int .i64 a, .int .i64 b] 35)
  have hbl0 : Below w.heap.size w ((w.alloc (.cells #[.int .i64 o, .int .i64 a, .int .i64 b] 35)).alloc (.cells #[] 5)) := (below_alloc w (.cells #[.int .i64 o, .int .i64 a, .int .i64 b] 35)).trans ((below_alloc _ (.cells #[] 5)).mono hbx0.size)
  obtain ⟨b00, b01, b02⟩ := box3 w (.int .i64 o) (.int .i64 a) (.int .i64 b) 35
  have blt : w.heap.size < (w.alloc (.cells #[.int .i64 o, .int .i64 a, .int .i64 b] 35)).heap.size := by simp
  have b00 := ((below_alloc (w.alloc (.cells #[.int .i64 o, .int .i64 a, .int .i64 b] 35)) (.cells #[] 5)).cell (p := ⟨w.heap.size, 0, none⟩) blt).trans b00
  have b01 := ((below_alloc (w.alloc (.cells #[.int .i64 o, .int .i64 a, .int .i64 b] 35)) (.cells #[] 5)).cell (p := ⟨w.heap.size, 1, none⟩) blt).trans b01
  have b02 := ((below_alloc (w.alloc (.cells #[.int .i64 o, .int .i64 a, .int .i64 b] 35)) (.cells #[] 5)).cell (p := ⟨w.heap.size, 2, none⟩) blt).trans b02
  have B0 := Lib.hid b00; have B1' := Lib.hid b01; have B2' := Lib.hid b02
  have HBL := Lib.hid hbl0; have BLT0 := Lib.hid blt
  have lit0 := (own_mono (World.ownsRow_lit (size := 1) (e := 5) (w.alloc (.cells #[.int .i64 o, .int .i64 a, .int .i64 b] 35)) #[] 0 (Nat.le_refl _) (by unfold maxLen; omega) rfl) (Nat.le_of_lt blt))
  rw [show (w.alloc (.cells #[.int .i64 o, .int .i64 a, .int .i64 b] 35)).heap.size = w.heap.size + 1 from by simp] at lit0
  have LIT := Lib.hid lit0
  clear lit0 hbx0 hbl0 b00 b01 b02 blt
  go_enter Try.func12, Try.ntmps12
  have BNE : Hid ((Value.slice (some ⟨w.heap.size + 1, 0, none⟩) 0 0).ownBlock ≠ some w.heap.size) := Lib.hid (by simp [Value.ownBlock])
  have BLT : Hid (w.heap.size < ((w.alloc (.cells #[.int .i64 o, .int .i64 a, .int .i64 b] 35)).alloc (.cells #[] 5)).heap.size) := Lib.hid (by simp; omega)
  have HBX : Hid (w.heap.size ≤ ((w.alloc (.cells #[.int .i64 o, .int .i64 a, .int .i64 b] 35)).alloc (.cells #[] 5)).heap.size) := Lib.hid (by simp; omega)
  have B1 := B1'; have B2 := B2'; have OWN := LIT; have HXB := HBL
  go_wp2
  go_ret
  first | exact ⟨_, 0, rfl, LIT.out, HXB.out⟩ | exact ⟨_, rfl, ⟨0, LIT.out⟩, HXB.out⟩ | exact ⟨rfl, ⟨0, LIT.out⟩, HXB.out⟩
theorem pi_src {w : World} {v : Value} {xs : List Nat} (o a b : Int) (h : Src w v xs) (hl : xs.length ≤ 900000) (ha1 : Hid (-9223372036854775808 ≤ a)) (ha2 : Hid (a < 9223372036854775808)) (hb1 : Hid (-9223372036854775808 ≤ b)) (hb2 : Hid (b < 9223372036854775808)) :
    Calls Try.prog 12 #[v, .agg #[.int .i64 o, .int .i64 a, .int .i64 b]] w fun e w' => ∃ v' n', e = .returned v' ∧ w'.ownsRow w.heap.size 5 1 v' n' (bys (xs ++ putS o a b)) ∧ Below w.heap.size w w' := by
  by_cases h0 : o < 0
  · rw [show putS o a b = [] from by unfold putS; rw [if_neg (by omega)]]
    rcases h with ⟨rfl, rfl⟩ | ⟨A, c, rfl, h⟩
    · exact pinbad_0 o a b h0
    · exact pibad_0 o a b h0 h hl
  by_cases h1 : 63 < o
  · rw [show putS o a b = [] from by unfold putS; rw [if_neg (by omega)]]
    rcases h with ⟨rfl, rfl⟩ | ⟨A, c, rfl, h⟩
    · exact pinbad_1 o a b h1
    · exact pibad_1 o a b h1 h hl
  obtain ⟨k, rfl⟩ : ∃ k : Nat, o = k := ⟨o.toNat, by omega⟩
  rw [show putS (k : Int) a b = addS k a b from by unfold putS; rw [if_pos (by omega)]; rfl]
  rcases h with ⟨rfl, rfl⟩ | ⟨A, c, rfl, h⟩
  · by_cases az : a = 0
    · by_cases bz : b = 0
      · exact pin_11 k a b (by omega) ha1 ha2 hb1 hb2 az bz
      · exact pin_10 k a b (by omega) ha1 ha2 hb1 hb2 az bz
    · by_cases bz : b = 0
      · exact pin_01 k a b (by omega) ha1 ha2 hb1 hb2 az bz
      · exact pin_00 k a b (by omega) ha1 ha2 hb1 hb2 az bz
  · by_cases az : a = 0
    · by_cases bz : b = 0
      · exact pi_11 k a b (by omega) h hl ha1 ha2 hb1 hb2 az bz
      · exact pi_10 k a b (by omega) h hl ha1 ha2 hb1 hb2 az bz
    · by_cases bz : b = 0
      · exact pi_01 k a b (by omega) h hl ha1 ha2 hb1 hb2 az bz
      · exact pi_00 k a b (by omega) h hl ha1 ha2 hb1 hb2 az bz
end Go.Proofs.Ytgfaadfkeeehgaa
