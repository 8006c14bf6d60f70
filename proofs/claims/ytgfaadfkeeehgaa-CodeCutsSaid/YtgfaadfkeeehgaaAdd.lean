import Derived.Test.YtgfaadfkeeehgaaBytes
namespace Go.Proofs.Ytgfaadfkeeehgaa
open Go.ChangeShapes Go.WideShapes Go.ChangeAt Go.RowKit
set_option linter.unusedVariables false
/-- the first byte of an instruction. -/
def opN (o : Nat) (a b : Int) : Nat := o + (if a = 0 then 0 else 64) + (if b = 0 then 0 else 128)
def addS (o : Nat) (a b : Int) : List Nat := [opN o a b] ++ (if a = 0 then [] else putF 9 (foldN a).toNat) ++ (if b = 0 then [] else putF 9 (foldN b).toNat)
theorem or_64 : ∀ k : Fin 64, bits .or .u8 ((k.val : Nat) : Int) 64 = (k.val : Int) + 64 := by decide +kernel
theorem or_128a : ∀ k : Fin 128, bits .or .u8 ((k.val : Nat) : Int) 128 = (k.val : Int) + 128 := by decide +kernel
theorem or_128b : ∀ k : Fin 64, bits .or .u8 ((k.val : Int) + 64) 128 = (k.val : Int) + 192 := by decide +kernel
theorem fold_nat (a : Int) (h1 : -9223372036854775808 ≤ a) (h2 : a < 9223372036854775808) : ∃ u : Nat, foldN a = u ∧ (foldN a).toNat = u ∧ u < 18446744073709551616 := by
  have := foldN_in a h1 h2
  exact ⟨(foldN a).toNat, by omega, rfl, by omega⟩
theorem box3 (w : World) (x y z : Value) (t : TypeId) : (w.alloc (.cells #[x, y, z] t)).cell? ⟨w.heap.size, 0, none⟩ = some x ∧ (w.alloc (.cells #[x, y, z] t)).cell? ⟨w.heap.size, 1, none⟩ = some y ∧ (w.alloc (.cells #[x, y, z] t)).cell? ⟨w.heap.size, 2, none⟩ = some z := by
  have := (MapKept.heap_alloc w (Obj.cells #[x, y, z] t)).1
  refine ⟨?_, ?_, ?_⟩ <;> (unfold World.cell?; rw [this]; rfl)
theorem Gr.pre {w w' : World} {o : Obj} {v v' : Value} (h : Gr (w.alloc o) w' v v') : Gr w w' v v' := by
  have b := below_alloc w o
  refine ⟨⟨h.g.os, h.g.tape, h.g.output, Nat.le_trans b.size h.g.size, fun i hi hne => ?_⟩, ?_⟩
  · rw [h.g.block i (Nat.lt_of_lt_of_le hi b.size) hne, b.block i hi]
  · rcases h.at_ with e | e
    · exact .inl e
    · right; intro k hk; exact Nat.le_trans b.size (e k hk)
set_option maxRecDepth 100000 in
set_option maxHeartbeats 1000000 in
theorem add_11 {w : World} {base : Nat} {v : Value} {n : Nat} {xs : List Nat} (o : Nat) (a b : Int) (ho : o < 64) (own : w.ownsRow base 5 1 v n (bys xs)) (hbase : base ≤ w.heap.size) (hn : n ≤ 900000)
    (ha1 : Hid (-9223372036854775808 ≤ a)) (ha2 : Hid (a < 9223372036854775808)) (hb1 : Hid (-9223372036854775808 ≤ b)) (hb2 : Hid (b < 9223372036854775808)) (az : a = 0) (bz : b = 0) :
    Calls Try.prog 18 #[v, .agg #[.int .i64 o, .int .i64 a, .int .i64 b]] w fun e w' => ∃ v' n', e = .returned v' ∧ w'.ownsRow base 5 1 v' n' (bys (xs ++ addS o a b)) ∧ Gr w w' v v' ∧ n' ≤ n + 21 := by
  obtain ⟨i0, hi0, hz0, hz1, hz2⟩ := info_parts info5
  obtain ⟨ua, ea⟩ := fold_nat a ha1.out ha2.out
  obtain ⟨ub, eb⟩ := fold_nat b hb1.out hb2.out
  have Ua := Lib.hid ea; have Ub := Lib.hid eb; clear ea eb
  have fo : (o : Int) % 256 = o := by omega
  have AZ := Lib.hid az; have BZ := Lib.hid bz
  have na : (a != 0) = false := by rw [az]; rfl
  have nb : (b != 0) = false := by rw [bz]; rfl
  clear az bz
  have own0 := own.alloc (.cells #[.int .i64 o, .int .i64 a, .int .i64 b] 24)
  obtain ⟨b00, b01, b02⟩ := box3 w (.int .i64 o) (.int .i64 a) (.int .i64 b) 24
  have bne : v.ownBlock ≠ some w.heap.size := fun e => by have := (own.lt _ e).2; omega
  have OWN := Lib.hid own0; have B1 := Lib.hid b01; have B2 := Lib.hid b02; have BNE := Lib.hid bne
  have BLT : Hid (w.heap.size < (w.alloc (.cells #[.int .i64 o, .int .i64 a, .int .i64 b] 24)).heap.size) := Lib.hid (by simp)
  have HBX : Hid (base ≤ w.heap.size) := Lib.hid hbase
  clear own own0 bne
  go_enter Try.func18, Try.ntmps18
  go_wp2_with (at_builtin; refine wpList_append_own_at _ rfl (.tmp 19) (.tmp 21) 28 rfl base 5 i0 (.int .u8 0) 1 1 Try.underlying28 hi0 hz0 hz1 hz2 rfl (by decide) _ n (bys xs) rfl (OWN.out.alloc _) ⟨w.heap.size + 1, 0, none⟩ 1 1 [.int .u8 ((o : Int))] rfl rfl ?c1 ?c2 (by unfold maxLen; omega) (by omega) (by have := HBX.out; simp; omega) ?_)
  case c1 =>
    intro j u hj
    match j, hj with
    | 0, hj => simp at hj; subst hj; have := new_cell (w.alloc (.cells #[.int .i64 o, .int .i64 a, .int .i64 b] 24)) (.int .u8 ((o : Int))) 5; simpa using this
  case c2 => intro u hu; simp at hu; subst hu; rfl
  intro v2 w2 own2 gr2 _ at2
  have g2 : Gr (w.alloc (.cells #[.int .i64 o, .int .i64 a, .int .i64 b] 24)) w2 v v2 := Gr.append gr2 (by simpa using at2)
  have own2 : w2.ownsRow base 5 1 v2 (n + 1) (bys (xs ++ [opN o a b])) := by
    rw [bys_app, bys_sing, show ((opN o a b : Nat) : Int) = (o : Int) from by unfold opN; rw [if_pos AZ.out, if_pos BZ.out]; omega]; exact own2
  have G2 := Lib.hid g2; have OWN2 := Lib.hid own2
  have b1 := (g2.cell BLT.out BNE.out).trans B1.out
  have b2 := (g2.cell BLT.out BNE.out).trans B2.out
  have hs2 := g2.g.size
  clear gr2 at2 g2 own2 b01 b02
  go_wp2
  go_ret
  refine ⟨_, (n + 1), rfl, ?_, Gr.pre (o := .cells #[.int .i64 o, .int .i64 a, .int .i64 b] 24) G2.out, by omega⟩
  have := OWN2.out
  unfold addS
  rw [if_pos AZ.out, if_pos BZ.out]
  
  
  simpa using this
set_option maxRecDepth 100000 in
set_option maxHeartbeats 1000000 in
theorem add_10 {w : World} {base : Nat} {v : Value} {n : Nat} {xs : List Nat} (o : Nat) (a b : Int) (ho : o < 64) (own : w.ownsRow base 5 1 v n (bys xs)) (hbase : base ≤ w.heap.size) (hn : n ≤ 900000)
    (ha1 : Hid (-9223372036854775808 ≤ a)) (ha2 : Hid (a < 9223372036854775808)) (hb1 : Hid (-9223372036854775808 ≤ b)) (hb2 : Hid (b < 9223372036854775808)) (az : a = 0) (bz : ¬ b = 0) :
    Calls Try.prog 18 #[v, .agg #[.int .i64 o, .int .i64 a, .int .i64 b]] w fun e w' => ∃ v' n', e = .returned v' ∧ w'.ownsRow base 5 1 v' n' (bys (xs ++ addS o a b)) ∧ Gr w w' v v' ∧ n' ≤ n + 21 := by
  obtain ⟨i0, hi0, hz0, hz1, hz2⟩ := info_parts info5
  obtain ⟨ua, ea⟩ := fold_nat a ha1.out ha2.out
  obtain ⟨ub, eb⟩ := fold_nat b hb1.out hb2.out
  have Ua := Lib.hid ea; have Ub := Lib.hid eb; clear ea eb
  have fo : (o : Int) % 256 = o := by omega
  have e1 : bits .or .u8 (o : Int) 128 = (o : Int) + 128 := or_128a ⟨o, by omega⟩
  have AZ := Lib.hid az; have BZ := Lib.hid bz
  have na : (a != 0) = false := by rw [az]; rfl
  have nb : (b != 0) = true := bne_iff_ne.2 bz
  clear az bz
  have own0 := own.alloc (.cells #[.int .i64 o, .int .i64 a, .int .i64 b] 24)
  obtain ⟨b00, b01, b02⟩ := box3 w (.int .i64 o) (.int .i64 a) (.int .i64 b) 24
  have bne : v.ownBlock ≠ some w.heap.size := fun e => by have := (own.lt _ e).2; omega
  have OWN := Lib.hid own0; have B1 := Lib.hid b01; have B2 := Lib.hid b02; have BNE := Lib.hid bne
  have BLT : Hid (w.heap.size < (w.alloc (.cells #[.int .i64 o, .int .i64 a, .int .i64 b] 24)).heap.size) := Lib.hid (by simp)
  have HBX : Hid (base ≤ w.heap.size) := Lib.hid hbase
  clear own own0 bne
  go_enter Try.func18, Try.ntmps18
  go_wp2_with (at_builtin; refine wpList_append_own_at _ rfl (.tmp 19) (.tmp 21) 28 rfl base 5 i0 (.int .u8 0) 1 1 Try.underlying28 hi0 hz0 hz1 hz2 rfl (by decide) _ n (bys xs) rfl (OWN.out.alloc _) ⟨w.heap.size + 1, 0, none⟩ 1 1 [.int .u8 ((o : Int) + 128)] rfl rfl ?c1 ?c2 (by unfold maxLen; omega) (by omega) (by have := HBX.out; simp; omega) ?_)
  case c1 =>
    intro j u hj
    match j, hj with
    | 0, hj => simp at hj; subst hj; have := new_cell (w.alloc (.cells #[.int .i64 o, .int .i64 a, .int .i64 b] 24)) (.int .u8 ((o : Int) + 128)) 5; simpa using this
  case c2 => intro u hu; simp at hu; subst hu; rfl
  intro v2 w2 own2 gr2 _ at2
  have g2 : Gr (w.alloc (.cells #[.int .i64 o, .int .i64 a, .int .i64 b] 24)) w2 v v2 := Gr.append gr2 (by simpa using at2)
  have own2 : w2.ownsRow base 5 1 v2 (n + 1) (bys (xs ++ [opN o a b])) := by
    rw [bys_app, bys_sing, show ((opN o a b : Nat) : Int) = (o : Int) + 128 from by unfold opN; rw [if_pos AZ.out, if_neg BZ.out]; omega]; exact own2
  have G2 := Lib.hid g2; have OWN2 := Lib.hid own2
  have b1 := (g2.cell BLT.out BNE.out).trans B1.out
  have b2 := (g2.cell BLT.out BNE.out).trans B2.out
  have hs2 := g2.g.size
  clear gr2 at2 g2 own2 b01 b02
  go_wp2_with fail
  refine (fold_any b _ hb1.out hb2.out).mono ?_; rintro e _w ⟨rfl, rfl⟩
  rw [Ub.out.1]
  go_wp2_with fail
  refine (put_any ub OWN2.out (by have := HBX.out; have := BLT.out; omega) Ub.out.2.2 (by omega)).mono ?_; rintro e w3 ⟨v3, n3, rfl, own3, g3, hn3⟩
  have g3' := G2.out.trans g3
  have G3 := Lib.hid g3'; have OWN3 := Lib.hid own3
  have b1 := (g3'.cell BLT.out BNE.out).trans B1.out
  have b2 := (g3'.cell BLT.out BNE.out).trans B2.out
  have hs3 := g3'.g.size
  clear g3 g3' own3
  go_wp2
  go_ret
  refine ⟨_, n3, rfl, ?_, Gr.pre (o := .cells #[.int .i64 o, .int .i64 a, .int .i64 b] 24) G3.out, by omega⟩
  have := OWN3.out
  unfold addS
  rw [if_pos AZ.out, if_neg BZ.out]
  
  rw [Ub.out.2.1]
  simpa using this
set_option maxRecDepth 100000 in
set_option maxHeartbeats 1000000 in
theorem add_01 {w : World} {base : Nat} {v : Value} {n : Nat} {xs : List Nat} (o : Nat) (a b : Int) (ho : o < 64) (own : w.ownsRow base 5 1 v n (bys xs)) (hbase : base ≤ w.heap.size) (hn : n ≤ 900000)
    (ha1 : Hid (-9223372036854775808 ≤ a)) (ha2 : Hid (a < 9223372036854775808)) (hb1 : Hid (-9223372036854775808 ≤ b)) (hb2 : Hid (b < 9223372036854775808)) (az : ¬ a = 0) (bz : b = 0) :
    Calls Try.prog 18 #[v, .agg #[.int .i64 o, .int .i64 a, .int .i64 b]] w fun e w' => ∃ v' n', e = .returned v' ∧ w'.ownsRow base 5 1 v' n' (bys (xs ++ addS o a b)) ∧ Gr w w' v v' ∧ n' ≤ n + 21 := by
  obtain ⟨i0, hi0, hz0, hz1, hz2⟩ := info_parts info5
  obtain ⟨ua, ea⟩ := fold_nat a ha1.out ha2.out
  obtain ⟨ub, eb⟩ := fold_nat b hb1.out hb2.out
  have Ua := Lib.hid ea; have Ub := Lib.hid eb; clear ea eb
  have fo : (o : Int) % 256 = o := by omega
  have e1 : bits .or .u8 (o : Int) 64 = (o : Int) + 64 := or_64 ⟨o, ho⟩
  have AZ := Lib.hid az; have BZ := Lib.hid bz
  have na : (a != 0) = true := bne_iff_ne.2 az
  have nb : (b != 0) = false := by rw [bz]; rfl
  clear az bz
  have own0 := own.alloc (.cells #[.int .i64 o, .int .i64 a, .int .i64 b] 24)
  obtain ⟨b00, b01, b02⟩ := box3 w (.int .i64 o) (.int .i64 a) (.int .i64 b) 24
  have bne : v.ownBlock ≠ some w.heap.size := fun e => by have := (own.lt _ e).2; omega
  have OWN := Lib.hid own0; have B1 := Lib.hid b01; have B2 := Lib.hid b02; have BNE := Lib.hid bne
  have BLT : Hid (w.heap.size < (w.alloc (.cells #[.int .i64 o, .int .i64 a, .int .i64 b] 24)).heap.size) := Lib.hid (by simp)
  have HBX : Hid (base ≤ w.heap.size) := Lib.hid hbase
  clear own own0 bne
  go_enter Try.func18, Try.ntmps18
  go_wp2_with (at_builtin; refine wpList_append_own_at _ rfl (.tmp 19) (.tmp 21) 28 rfl base 5 i0 (.int .u8 0) 1 1 Try.underlying28 hi0 hz0 hz1 hz2 rfl (by decide) _ n (bys xs) rfl (OWN.out.alloc _) ⟨w.heap.size + 1, 0, none⟩ 1 1 [.int .u8 ((o : Int) + 64)] rfl rfl ?c1 ?c2 (by unfold maxLen; omega) (by omega) (by have := HBX.out; simp; omega) ?_)
  case c1 =>
    intro j u hj
    match j, hj with
    | 0, hj => simp at hj; subst hj; have := new_cell (w.alloc (.cells #[.int .i64 o, .int .i64 a, .int .i64 b] 24)) (.int .u8 ((o : Int) + 64)) 5; simpa using this
  case c2 => intro u hu; simp at hu; subst hu; rfl
  intro v2 w2 own2 gr2 _ at2
  have g2 : Gr (w.alloc (.cells #[.int .i64 o, .int .i64 a, .int .i64 b] 24)) w2 v v2 := Gr.append gr2 (by simpa using at2)
  have own2 : w2.ownsRow base 5 1 v2 (n + 1) (bys (xs ++ [opN o a b])) := by
    rw [bys_app, bys_sing, show ((opN o a b : Nat) : Int) = (o : Int) + 64 from by unfold opN; rw [if_neg AZ.out, if_pos BZ.out]; omega]; exact own2
  have G2 := Lib.hid g2; have OWN2 := Lib.hid own2
  have b1 := (g2.cell BLT.out BNE.out).trans B1.out
  have b2 := (g2.cell BLT.out BNE.out).trans B2.out
  have hs2 := g2.g.size
  clear gr2 at2 g2 own2 b01 b02
  go_wp2_with fail
  refine (fold_any a _ ha1.out ha2.out).mono ?_; rintro e _w ⟨rfl, rfl⟩
  rw [Ua.out.1]
  go_wp2_with fail
  refine (put_any ua OWN2.out (by have := HBX.out; have := BLT.out; omega) Ua.out.2.2 (by omega)).mono ?_; rintro e w3 ⟨v3, n3, rfl, own3, g3, hn3⟩
  have g3' := G2.out.trans g3
  have G3 := Lib.hid g3'; have OWN3 := Lib.hid own3
  have b1 := (g3'.cell BLT.out BNE.out).trans B1.out
  have b2 := (g3'.cell BLT.out BNE.out).trans B2.out
  have hs3 := g3'.g.size
  clear g3 g3' own3
  go_wp2
  go_ret
  refine ⟨_, n3, rfl, ?_, Gr.pre (o := .cells #[.int .i64 o, .int .i64 a, .int .i64 b] 24) G3.out, by omega⟩
  have := OWN3.out
  unfold addS
  rw [if_neg AZ.out, if_pos BZ.out]
  rw [Ua.out.2.1]
  
  simpa using this
set_option maxRecDepth 100000 in
set_option maxHeartbeats 1000000 in
theorem add_00 {w : World} {base : Nat} {v : Value} {n : Nat} {xs : List Nat} (o : Nat) (a b : Int) (ho : o < 64) (own : w.ownsRow base 5 1 v n (bys xs)) (hbase : base ≤ w.heap.size) (hn : n ≤ 900000)
    (ha1 : Hid (-9223372036854775808 ≤ a)) (ha2 : Hid (a < 9223372036854775808)) (hb1 : Hid (-9223372036854775808 ≤ b)) (hb2 : Hid (b < 9223372036854775808)) (az : ¬ a = 0) (bz : ¬ b = 0) :
    Calls Try.prog 18 #[v, .agg #[.int .i64 o, .int .i64 a, .int .i64 b]] w fun e w' => ∃ v' n', e = .returned v' ∧ w'.ownsRow base 5 1 v' n' (bys (xs ++ addS o a b)) ∧ Gr w w' v v' ∧ n' ≤ n + 21 := by
  obtain ⟨i0, hi0, hz0, hz1, hz2⟩ := info_parts info5
  obtain ⟨ua, ea⟩ := fold_nat a ha1.out ha2.out
  obtain ⟨ub, eb⟩ := fold_nat b hb1.out hb2.out
  have Ua := Lib.hid ea; have Ub := Lib.hid eb; clear ea eb
  have fo : (o : Int) % 256 = o := by omega
  have e1 : bits .or .u8 (o : Int) 64 = (o : Int) + 64 := or_64 ⟨o, ho⟩
  have e2 : bits .or .u8 ((o : Int) + 64) 128 = (o : Int) + 192 := or_128b ⟨o, ho⟩
  have AZ := Lib.hid az; have BZ := Lib.hid bz
  have na : (a != 0) = true := bne_iff_ne.2 az
  have nb : (b != 0) = true := bne_iff_ne.2 bz
  clear az bz
  have own0 := own.alloc (.cells #[.int .i64 o, .int .i64 a, .int .i64 b] 24)
  obtain ⟨b00, b01, b02⟩ := box3 w (.int .i64 o) (.int .i64 a) (.int .i64 b) 24
  have bne : v.ownBlock ≠ some w.heap.size := fun e => by have := (own.lt _ e).2; omega
  have OWN := Lib.hid own0; have B1 := Lib.hid b01; have B2 := Lib.hid b02; have BNE := Lib.hid bne
  have BLT : Hid (w.heap.size < (w.alloc (.cells #[.int .i64 o, .int .i64 a, .int .i64 b] 24)).heap.size) := Lib.hid (by simp)
  have HBX : Hid (base ≤ w.heap.size) := Lib.hid hbase
  clear own own0 bne
  go_enter Try.func18, Try.ntmps18
  go_wp2_with (at_builtin; refine wpList_append_own_at _ rfl (.tmp 19) (.tmp 21) 28 rfl base 5 i0 (.int .u8 0) 1 1 Try.underlying28 hi0 hz0 hz1 hz2 rfl (by decide) _ n (bys xs) rfl (OWN.out.alloc _) ⟨w.heap.size + 1, 0, none⟩ 1 1 [.int .u8 ((o : Int) + 192)] rfl rfl ?c1 ?c2 (by unfold maxLen; omega) (by omega) (by have := HBX.out; simp; omega) ?_)
  case c1 =>
    intro j u hj
    match j, hj with
    | 0, hj => simp at hj; subst hj; have := new_cell (w.alloc (.cells #[.int .i64 o, .int .i64 a, .int .i64 b] 24)) (.int .u8 ((o : Int) + 192)) 5; simpa using this
  case c2 => intro u hu; simp at hu; subst hu; rfl
  intro v2 w2 own2 gr2 _ at2
  have g2 : Gr (w.alloc (.cells #[.int .i64 o, .int .i64 a, .int .i64 b] 24)) w2 v v2 := Gr.append gr2 (by simpa using at2)
  have own2 : w2.ownsRow base 5 1 v2 (n + 1) (bys (xs ++ [opN o a b])) := by
    rw [bys_app, bys_sing, show ((opN o a b : Nat) : Int) = (o : Int) + 192 from by unfold opN; rw [if_neg AZ.out, if_neg BZ.out]; omega]; exact own2
  have G2 := Lib.hid g2; have OWN2 := Lib.hid own2
  have b1 := (g2.cell BLT.out BNE.out).trans B1.out
  have b2 := (g2.cell BLT.out BNE.out).trans B2.out
  have hs2 := g2.g.size
  clear gr2 at2 g2 own2 b01 b02
  go_wp2_with fail
  refine (fold_any a _ ha1.out ha2.out).mono ?_; rintro e _w ⟨rfl, rfl⟩
  rw [Ua.out.1]
  go_wp2_with fail
  refine (put_any ua OWN2.out (by have := HBX.out; have := BLT.out; omega) Ua.out.2.2 (by omega)).mono ?_; rintro e w3 ⟨v3, n3, rfl, own3, g3, hn3⟩
  have g3' := G2.out.trans g3
  have G3 := Lib.hid g3'; have OWN3 := Lib.hid own3
  have b1 := (g3'.cell BLT.out BNE.out).trans B1.out
  have b2 := (g3'.cell BLT.out BNE.out).trans B2.out
  have hs3 := g3'.g.size
  clear g3 g3' own3
  go_wp2_with fail
  refine (fold_any b _ hb1.out hb2.out).mono ?_; rintro e _w ⟨rfl, rfl⟩
  rw [Ub.out.1]
  go_wp2_with fail
  refine (put_any ub OWN3.out (by have := HBX.out; have := BLT.out; omega) Ub.out.2.2 (by omega)).mono ?_; rintro e w4 ⟨v4, n4, rfl, own4, g4, hn4⟩
  have g4' := G3.out.trans g4
  have G4 := Lib.hid g4'; have OWN4 := Lib.hid own4
  have b1 := (g4'.cell BLT.out BNE.out).trans B1.out
  have b2 := (g4'.cell BLT.out BNE.out).trans B2.out
  have hs4 := g4'.g.size
  clear g4 g4' own4
  go_wp2
  go_ret
  refine ⟨_, n4, rfl, ?_, Gr.pre (o := .cells #[.int .i64 o, .int .i64 a, .int .i64 b] 24) G4.out, by omega⟩
  have := OWN4.out
  unfold addS
  rw [if_neg AZ.out, if_neg BZ.out]
  rw [Ua.out.2.1]
  rw [Ub.out.2.1]
  simpa using this
theorem add_any {w : World} {base : Nat} {v : Value} {n : Nat} {xs : List Nat} (o : Nat) (a b : Int) (ho : o < 64) (own : w.ownsRow base 5 1 v n (bys xs)) (hbase : base ≤ w.heap.size) (hn : n ≤ 900000)
    (ha1 : Hid (-9223372036854775808 ≤ a)) (ha2 : Hid (a < 9223372036854775808)) (hb1 : Hid (-9223372036854775808 ≤ b)) (hb2 : Hid (b < 9223372036854775808)) :
    Calls Try.prog 18 #[v, .agg #[.int .i64 o, .int .i64 a, .int .i64 b]] w fun e w' => ∃ v' n', e = .returned v' ∧ w'.ownsRow base 5 1 v' n' (bys (xs ++ addS o a b)) ∧ Gr w w' v v' ∧ n' ≤ n + 21 := by
  by_cases az : a = 0
  · by_cases bz : b = 0
    · exact add_11 o a b ho own hbase hn ha1 ha2 hb1 hb2 az bz
    · exact add_10 o a b ho own hbase hn ha1 ha2 hb1 hb2 az bz
  · by_cases bz : b = 0
    · exact add_01 o a b ho own hbase hn ha1 ha2 hb1 hb2 az bz
    · exact add_00 o a b ho own hbase hn ha1 ha2 hb1 hb2 az bz
end Go.Proofs.Ytgfaadfkeeehgaa
