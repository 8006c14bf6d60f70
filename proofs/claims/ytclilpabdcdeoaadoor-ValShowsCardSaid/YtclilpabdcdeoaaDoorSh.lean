import Derived.Test.YtclilpabdcdeoaaDoorRre
namespace Go.Proofs.YtclilpabdcdeoaaDoor
open Go.ChangeShapes Go.WideShapes Go.ChangeAt Go.RowKit
set_option linter.unusedVariables false
set_option linter.unusedSimpArgs false
theorem info56 : (Tryd.prog.info? 56).map (fun i => (i.zero, i.size, i.bytes)) = some (some (.agg #[.string .empty, .slice none 0 0]), 2, 40) := by kernel_rfl
def KidsC (w : World) : List CN → List Value → Prop
  | [], xs => xs = []
  | n :: l, xs => ∃ A c ys, xs = [.string n.name, .slice A n.types.length c] ++ ys ∧ TxRow w A n.types ∧ KidsC w l ys
theorem KidsC.snoc {w : World} {n : CN} {A : Option Addr} {c : Nat} (hr : TxRow w A n.types) : ∀ {l : List CN} {xs : List Value}, KidsC w l xs → KidsC w (l ++ [n]) (xs ++ [.string n.name, .slice A n.types.length c])
  | [], _, h => by rw [show _ = _ from h]; exact ⟨A, c, [], by simp, hr, rfl⟩
  | u :: l, _, ⟨A', c', ys, h1, h3, h4⟩ => ⟨A', c', ys ++ [.string n.name, .slice A n.types.length c], by rw [h1, List.append_assoc], h3, KidsC.snoc hr h4⟩
theorem KidsC.at {w W : World} (hb : Below w.heap.size w W) {g : Nat} : ∀ {l : List CN} {xs : List Value} {o : Nat}, KidsC w l xs → (∀ j (h : j < xs.length), W.cell? ⟨g, o + j, none⟩ = some xs[j]) → ∀ i (h : i < l.length), W.cell? ⟨g, o + i * 2, none⟩ = some (.string l[i].name) ∧ ∃ A' c', W.cell? ⟨g, o + i * 2 + 1, none⟩ = some (.slice A' l[i].types.length c') ∧ TxRow W A' l[i].types
  | n :: l, xs, o, ⟨A, c, ys, h1, h3, h4⟩, hc, i, hi => by
    subst h1
    have hl : ([.string n.name, .slice A n.types.length c] ++ ys : List Value).length = 2 + ys.length := by simp; omega
    cases i with
    | zero =>
      have q0 := hc 0 (by omega)
      have q1 := hc 1 (by omega)
      exact ⟨q0.trans (by simp), A, c, q1.trans (by simp), h3.later hb⟩
    | succ i =>
      have := KidsC.at (W := W) hb (g := g) (o := o + 2) h4 (fun j hj => by
        have q := hc (2 + j) (by omega)
        rw [← Nat.add_assoc] at q
        rw [q]; congr 1
        rw [List.getElem_append_right (by simp)]; congr 1; simp) i (by simpa using hi)
      rw [show o + (i + 1) * 2 = o + 2 + i * 2 by omega]
      simpa using this
structure AS (w w3 : World) (cons : List CN) (k : Nat) (v : Value) (xs : List Value) (wr : World) : Prop where
  bel : Below w3.heap.size w3 wr
  own : wr.ownsRow w3.heap.size 56 2 v k xs
  kids : KidsC w (cons.take k) xs
theorem AS.step {w w3 wr w4 : World} {cons : List CN} {k c' : Nat} {v v' : Value} {xs : List Value} {A' : Option Addr} (h : AS w w3 cons k v xs wr) (hk : k < cons.length) (ht : TxRow w A' cons[k].types) (ob : Obj)
    (own4 : w4.ownsRow w3.heap.size 56 2 v' (k + 1) (xs ++ [.string cons[k].name, .slice A' cons[k].types.length c'])) (gr4 : (wr.drew.alloc ob).grownBy w4 v.ownBlock) : AS w w3 cons (k + 1) v' (xs ++ [.string cons[k].name, .slice A' cons[k].types.length c']) w4 := by
  have hs := h.bel.size
  have h4s := gr4.size
  have h3s : (wr.drew.alloc ob).heap.size = wr.heap.size + 1 := by show (wr.heap.push ob).size = _; simp
  refine ⟨⟨gr4.os.trans h.bel.os, gr4.tape.trans h.bel.tape, gr4.output.trans h.bel.output, by omega, fun b hb => ?_⟩, own4, ?_⟩
  · rw [gr4.block b (by omega) (fun e => by have := h.own.lt b e.symm; omega)]
    show (wr.heap.push ob)[b]? = _
    rw [Array.getElem?_push, if_neg (by omega)]
    exact h.bel.block b hb
  · rw [List.take_succ_eq_append_getElem hk]
    exact KidsC.snoc ht h.kids
theorem AS.fin {w w3 wr : World} {cons : List CN} {v : Value} {xs : List Value} (h : AS w w3 cons cons.length v xs wr) (hb : Below w.heap.size w wr) : ∃ A' c', v = .slice A' cons.length c' ∧ CRow wr A' cons := by
  have hkid := h.kids
  rw [List.take_length] at hkid
  rcases h.own.2 with ⟨q1, q2⟩ | ⟨g, cap, cur, q1, q2, q3, q4, q5, q6, q7⟩
  · exact ⟨none, 0, (by rw [q1, q2]), .inl q2⟩
  · refine ⟨_, _, q1, .inr ⟨g, 0, rfl, (Array.getElem?_eq_some_iff.1 q3).1, fun i hi => ?_⟩⟩
    have hown := h.own
    rw [q1] at hown
    exact KidsC.at hb (o := 0) hkid (fun j hj => by
      rw [Nat.zero_add]
      exact (hown.cellAt j (by rw [← hown.1]; exact hj)).trans (List.getElem?_eq_getElem hj)) i hi
def allN (f : VT → Bool) (l : List VT) : Prop := ∀ v ∈ l, f v = false
set_option maxRecDepth 100000 in
set_option maxHeartbeats 16000000 in
theorem shows_walk {w : World} {V U : VT} {T : TT} {v u t : Value} {cells : List VT} {cons : List CN} {Ac Ak : Option Addr} {cc ck : Nat} (hT : PowTab w) (hv : VIn w V v) (hu : VIn w U u) (ht : TIn w T t) (hcl : VRow w Ac cells) (hck : CRow w Ak cons) :
    Calls Tryd.prog 5 #[v, u, t, .slice Ac cells.length cc, .slice Ak cons.length ck] w fun e w' => e = .returned (.bool true) ∧ Below w.heap.size w w' := by
  have hN := VIn_n 6 hv
  have hNc : ∀ c ∈ cells, okN 7 c := fun x hx => by
    obtain ⟨i, hi, rfl⟩ := List.getElem_of_mem hx
    rcases hcl with h1 | ⟨b, o, _, _, h1⟩
    · omega
    · obtain ⟨A1, c1, e1, _, _, _, _, _, _, _, hin⟩ := okV_in (okL_at h1 i hi)
      exact VIn_n 6 hin
  have HBV := Lib.hid (fun W (hb : Below w.heap.size w W) => big_any 7 V v 64 W most64 (hv.later hb))
  have HBU := Lib.hid (fun W (hb : Below w.heap.size w W) => big_any 7 U u 64 W most64 (hu.later hb))
  have HBT := Lib.hid (fun W (hb : Below w.heap.size w W) => small_any 7 T t 64 W most64 (ht.later hb))
  have HV := Lib.hid hv
  have HU := Lib.hid hu
  have HT2 := Lib.hid ht
  have HCL := Lib.hid hcl
  have HCK := Lib.hid hck
  have HN := Lib.hid hN
  have HNC := Lib.hid hNc
  have HPT := Lib.hid hT
  obtain ⟨A, c, e, rfl, hn, hA⟩ := hv
  obtain ⟨B, cu, eu, rfl, hn2, hB⟩ := hu
  obtain ⟨A2, c2, rfl, hA2⟩ := ht
  clear hcl hck hN hNc hT hn hA hn2 hB hA2
  obtain ⟨w0, hw0⟩ : ∃ w0, w0 = ((w.alloc (.cells #[.int .i64 V.k, .int .i64 V.n, .string V.nm, .slice A V.args.length c, .int .i64 V.node, e, .int .i64 V.at_] 26)).alloc (.cells #[.int .i64 U.k, .int .i64 U.n, .string U.nm, .slice B U.args.length cu, .int .i64 U.node, eu, .int .i64 U.at_] 26)).alloc (.cells #[.int .i64 T.k, .string T.nm, .int .i64 T.vr, .slice A2 T.args.length c2] 34) := ⟨_, rfl⟩
  have B0 : Hid (Below w.heap.size w w0) := Lib.hid (by rw [hw0]; exact (below_alloc w _).trans (((below_alloc _ _).trans ((below_alloc _ _).mono (below_alloc _ _).size)).mono (below_alloc _ _).size))
  have h3 := heap3 w (.cells #[.int .i64 V.k, .int .i64 V.n, .string V.nm, .slice A V.args.length c, .int .i64 V.node, e, .int .i64 V.at_] 26) (.cells #[.int .i64 U.k, .int .i64 U.n, .string U.nm, .slice B U.args.length cu, .int .i64 U.node, eu, .int .i64 U.at_] 26) (.cells #[.int .i64 T.k, .string T.nm, .int .i64 T.vr, .slice A2 T.args.length c2] 34)
  rw [← hw0] at h3
  have bv00 : w0.cell? ⟨w.heap.size, 0, none⟩ = some (.int .i64 V.k) := by simp [World.cell?, h3.1]
  have bv10 : w0.cell? ⟨w.heap.size, 1, none⟩ = some (.int .i64 V.n) := by simp [World.cell?, h3.1]
  have bv20 : w0.cell? ⟨w.heap.size, 2, none⟩ = some (.string V.nm) := by simp [World.cell?, h3.1]
  have bv30 : w0.cell? ⟨w.heap.size, 3, none⟩ = some (.slice A V.args.length c) := by simp [World.cell?, h3.1]
  have bv40 : w0.cell? ⟨w.heap.size, 4, none⟩ = some (.int .i64 V.node) := by simp [World.cell?, h3.1]
  have bv50 : w0.cell? ⟨w.heap.size, 5, none⟩ = some (e) := by simp [World.cell?, h3.1]
  have bv60 : w0.cell? ⟨w.heap.size, 6, none⟩ = some (.int .i64 V.at_) := by simp [World.cell?, h3.1]
  have bu00 : w0.cell? ⟨w.heap.size + 1, 0, none⟩ = some (.int .i64 U.k) := by simp [World.cell?, h3.2.1]
  have bu10 : w0.cell? ⟨w.heap.size + 1, 1, none⟩ = some (.int .i64 U.n) := by simp [World.cell?, h3.2.1]
  have bu20 : w0.cell? ⟨w.heap.size + 1, 2, none⟩ = some (.string U.nm) := by simp [World.cell?, h3.2.1]
  have bu30 : w0.cell? ⟨w.heap.size + 1, 3, none⟩ = some (.slice B U.args.length cu) := by simp [World.cell?, h3.2.1]
  have bu40 : w0.cell? ⟨w.heap.size + 1, 4, none⟩ = some (.int .i64 U.node) := by simp [World.cell?, h3.2.1]
  have bu50 : w0.cell? ⟨w.heap.size + 1, 5, none⟩ = some (eu) := by simp [World.cell?, h3.2.1]
  have bu60 : w0.cell? ⟨w.heap.size + 1, 6, none⟩ = some (.int .i64 U.at_) := by simp [World.cell?, h3.2.1]
  have bt00 : w0.cell? ⟨w.heap.size + 2, 0, none⟩ = some (.int .i64 T.k) := by simp [World.cell?, h3.2.2]
  have bt10 : w0.cell? ⟨w.heap.size + 2, 1, none⟩ = some (.string T.nm) := by simp [World.cell?, h3.2.2]
  have bt20 : w0.cell? ⟨w.heap.size + 2, 2, none⟩ = some (.int .i64 T.vr) := by simp [World.cell?, h3.2.2]
  have bt30 : w0.cell? ⟨w.heap.size + 2, 3, none⟩ = some (.slice A2 T.args.length c2) := by simp [World.cell?, h3.2.2]
  have HW0 := Lib.hid hw0
  clear hw0 h3
  cases hbv : bigD 7 V
  rotate_left
  · rw [hbv] at HBV
    go_enter Tryd.func5, Tryd.ntmps5
    go_wp2_with fail
    rw [← HW0.out]
    refine (awake _).mono ?_; rintro e' w1 ⟨rfl, hb1⟩
    have B1 := Lib.hid (below2 B0.out hb1)
    have bv01 := keepC hb1 bv00
    have bv11 := keepC hb1 bv10
    have bv21 := keepC hb1 bv20
    have bv31 := keepC hb1 bv30
    have bv41 := keepC hb1 bv40
    have bv51 := keepC hb1 bv50
    have bv61 := keepC hb1 bv60
    have bu01 := keepC hb1 bu00
    have bu11 := keepC hb1 bu10
    have bu21 := keepC hb1 bu20
    have bu31 := keepC hb1 bu30
    have bu41 := keepC hb1 bu40
    have bu51 := keepC hb1 bu50
    have bu61 := keepC hb1 bu60
    have bt01 := keepC hb1 bt00
    have bt11 := keepC hb1 bt10
    have bt21 := keepC hb1 bt20
    have bt31 := keepC hb1 bt30
    clear bv00 bv10 bv20 bv30 bv40 bv50 bv60 bu00 bu10 bu20 bu30 bu40 bu50 bu60 bt00 bt10 bt20 bt30
    clear hb1
    go_wp2_with fail
    refine (HBV.out _ B1.out).mono ?_; rintro e' w2 ⟨rfl, hb2⟩
    have B2 := Lib.hid (below2 B1.out hb2)
    have bv02 := keepC hb2 bv01
    have bv12 := keepC hb2 bv11
    have bv22 := keepC hb2 bv21
    have bv32 := keepC hb2 bv31
    have bv42 := keepC hb2 bv41
    have bv52 := keepC hb2 bv51
    have bv62 := keepC hb2 bv61
    have bu02 := keepC hb2 bu01
    have bu12 := keepC hb2 bu11
    have bu22 := keepC hb2 bu21
    have bu32 := keepC hb2 bu31
    have bu42 := keepC hb2 bu41
    have bu52 := keepC hb2 bu51
    have bu62 := keepC hb2 bu61
    have bt02 := keepC hb2 bt01
    have bt12 := keepC hb2 bt11
    have bt22 := keepC hb2 bt21
    have bt32 := keepC hb2 bt31
    clear bv01 bv11 bv21 bv31 bv41 bv51 bv61 bu01 bu11 bu21 bu31 bu41 bu51 bu61 bt01 bt11 bt21 bt31
    clear hb2
    go_wp2
    go_ret
    exact ⟨rfl, B2.out⟩
  rw [hbv] at HBV
  cases hbu : bigD 7 U
  rotate_left
  · rw [hbu] at HBU
    go_enter Tryd.func5, Tryd.ntmps5
    go_wp2_with fail
    rw [← HW0.out]
    refine (awake _).mono ?_; rintro e' w1 ⟨rfl, hb1⟩
    have B1 := Lib.hid (below2 B0.out hb1)
    have bv01 := keepC hb1 bv00
    have bv11 := keepC hb1 bv10
    have bv21 := keepC hb1 bv20
    have bv31 := keepC hb1 bv30
    have bv41 := keepC hb1 bv40
    have bv51 := keepC hb1 bv50
    have bv61 := keepC hb1 bv60
    have bu01 := keepC hb1 bu00
    have bu11 := keepC hb1 bu10
    have bu21 := keepC hb1 bu20
    have bu31 := keepC hb1 bu30
    have bu41 := keepC hb1 bu40
    have bu51 := keepC hb1 bu50
    have bu61 := keepC hb1 bu60
    have bt01 := keepC hb1 bt00
    have bt11 := keepC hb1 bt10
    have bt21 := keepC hb1 bt20
    have bt31 := keepC hb1 bt30
    clear bv00 bv10 bv20 bv30 bv40 bv50 bv60 bu00 bu10 bu20 bu30 bu40 bu50 bu60 bt00 bt10 bt20 bt30
    clear hb1
    go_wp2_with fail
    refine (HBV.out _ B1.out).mono ?_; rintro e' w2 ⟨rfl, hb2⟩
    have B2 := Lib.hid (below2 B1.out hb2)
    have bv02 := keepC hb2 bv01
    have bv12 := keepC hb2 bv11
    have bv22 := keepC hb2 bv21
    have bv32 := keepC hb2 bv31
    have bv42 := keepC hb2 bv41
    have bv52 := keepC hb2 bv51
    have bv62 := keepC hb2 bv61
    have bu02 := keepC hb2 bu01
    have bu12 := keepC hb2 bu11
    have bu22 := keepC hb2 bu21
    have bu32 := keepC hb2 bu31
    have bu42 := keepC hb2 bu41
    have bu52 := keepC hb2 bu51
    have bu62 := keepC hb2 bu61
    have bt02 := keepC hb2 bt01
    have bt12 := keepC hb2 bt11
    have bt22 := keepC hb2 bt21
    have bt32 := keepC hb2 bt31
    clear bv01 bv11 bv21 bv31 bv41 bv51 bv61 bu01 bu11 bu21 bu31 bu41 bu51 bu61 bt01 bt11 bt21 bt31
    clear hb2
    go_wp2_with fail
    refine (HBU.out _ B2.out).mono ?_; rintro e' w3 ⟨rfl, hb3⟩
    have B3 := Lib.hid (below2 B2.out hb3)
    have bv03 := keepC hb3 bv02
    have bv13 := keepC hb3 bv12
    have bv23 := keepC hb3 bv22
    have bv33 := keepC hb3 bv32
    have bv43 := keepC hb3 bv42
    have bv53 := keepC hb3 bv52
    have bv63 := keepC hb3 bv62
    have bu03 := keepC hb3 bu02
    have bu13 := keepC hb3 bu12
    have bu23 := keepC hb3 bu22
    have bu33 := keepC hb3 bu32
    have bu43 := keepC hb3 bu42
    have bu53 := keepC hb3 bu52
    have bu63 := keepC hb3 bu62
    have bt03 := keepC hb3 bt02
    have bt13 := keepC hb3 bt12
    have bt23 := keepC hb3 bt22
    have bt33 := keepC hb3 bt32
    clear bv02 bv12 bv22 bv32 bv42 bv52 bv62 bu02 bu12 bu22 bu32 bu42 bu52 bu62 bt02 bt12 bt22 bt32
    clear hb3
    go_wp2
    go_ret
    exact ⟨rfl, B3.out⟩
  rw [hbu] at HBU
  cases hbt : bigT 7 T
  rotate_left
  · rw [hbt] at HBT
    go_enter Tryd.func5, Tryd.ntmps5
    go_wp2_with fail
    rw [← HW0.out]
    refine (awake _).mono ?_; rintro e' w1 ⟨rfl, hb1⟩
    have B1 := Lib.hid (below2 B0.out hb1)
    have bv01 := keepC hb1 bv00
    have bv11 := keepC hb1 bv10
    have bv21 := keepC hb1 bv20
    have bv31 := keepC hb1 bv30
    have bv41 := keepC hb1 bv40
    have bv51 := keepC hb1 bv50
    have bv61 := keepC hb1 bv60
    have bu01 := keepC hb1 bu00
    have bu11 := keepC hb1 bu10
    have bu21 := keepC hb1 bu20
    have bu31 := keepC hb1 bu30
    have bu41 := keepC hb1 bu40
    have bu51 := keepC hb1 bu50
    have bu61 := keepC hb1 bu60
    have bt01 := keepC hb1 bt00
    have bt11 := keepC hb1 bt10
    have bt21 := keepC hb1 bt20
    have bt31 := keepC hb1 bt30
    clear bv00 bv10 bv20 bv30 bv40 bv50 bv60 bu00 bu10 bu20 bu30 bu40 bu50 bu60 bt00 bt10 bt20 bt30
    clear hb1
    go_wp2_with fail
    refine (HBV.out _ B1.out).mono ?_; rintro e' w2 ⟨rfl, hb2⟩
    have B2 := Lib.hid (below2 B1.out hb2)
    have bv02 := keepC hb2 bv01
    have bv12 := keepC hb2 bv11
    have bv22 := keepC hb2 bv21
    have bv32 := keepC hb2 bv31
    have bv42 := keepC hb2 bv41
    have bv52 := keepC hb2 bv51
    have bv62 := keepC hb2 bv61
    have bu02 := keepC hb2 bu01
    have bu12 := keepC hb2 bu11
    have bu22 := keepC hb2 bu21
    have bu32 := keepC hb2 bu31
    have bu42 := keepC hb2 bu41
    have bu52 := keepC hb2 bu51
    have bu62 := keepC hb2 bu61
    have bt02 := keepC hb2 bt01
    have bt12 := keepC hb2 bt11
    have bt22 := keepC hb2 bt21
    have bt32 := keepC hb2 bt31
    clear bv01 bv11 bv21 bv31 bv41 bv51 bv61 bu01 bu11 bu21 bu31 bu41 bu51 bu61 bt01 bt11 bt21 bt31
    clear hb2
    go_wp2_with fail
    refine (HBU.out _ B2.out).mono ?_; rintro e' w3 ⟨rfl, hb3⟩
    have B3 := Lib.hid (below2 B2.out hb3)
    have bv03 := keepC hb3 bv02
    have bv13 := keepC hb3 bv12
    have bv23 := keepC hb3 bv22
    have bv33 := keepC hb3 bv32
    have bv43 := keepC hb3 bv42
    have bv53 := keepC hb3 bv52
    have bv63 := keepC hb3 bv62
    have bu03 := keepC hb3 bu02
    have bu13 := keepC hb3 bu12
    have bu23 := keepC hb3 bu22
    have bu33 := keepC hb3 bu32
    have bu43 := keepC hb3 bu42
    have bu53 := keepC hb3 bu52
    have bu63 := keepC hb3 bu62
    have bt03 := keepC hb3 bt02
    have bt13 := keepC hb3 bt12
    have bt23 := keepC hb3 bt22
    have bt33 := keepC hb3 bt32
    clear bv02 bv12 bv22 bv32 bv42 bv52 bv62 bu02 bu12 bu22 bu32 bu42 bu52 bu62 bt02 bt12 bt22 bt32
    clear hb3
    go_wp2_with fail
    refine (HBT.out _ B3.out).mono ?_; rintro e' w4 ⟨rfl, hb4⟩
    have B4 := Lib.hid (below2 B3.out hb4)
    have bv04 := keepC hb4 bv03
    have bv14 := keepC hb4 bv13
    have bv24 := keepC hb4 bv23
    have bv34 := keepC hb4 bv33
    have bv44 := keepC hb4 bv43
    have bv54 := keepC hb4 bv53
    have bv64 := keepC hb4 bv63
    have bu04 := keepC hb4 bu03
    have bu14 := keepC hb4 bu13
    have bu24 := keepC hb4 bu23
    have bu34 := keepC hb4 bu33
    have bu44 := keepC hb4 bu43
    have bu54 := keepC hb4 bu53
    have bu64 := keepC hb4 bu63
    have bt04 := keepC hb4 bt03
    have bt14 := keepC hb4 bt13
    have bt24 := keepC hb4 bt23
    have bt34 := keepC hb4 bt33
    clear bv03 bv13 bv23 bv33 bv43 bv53 bv63 bu03 bu13 bu23 bu33 bu43 bu53 bu63 bt03 bt13 bt23 bt33
    clear hb4
    go_wp2
    go_ret
    exact ⟨rfl, B4.out⟩
  rw [hbt] at HBT
  by_cases hc6 : 6 < cells.length
  · have d1 := decide_eq_true hc6
    have d1i : decide ((6 : Int) < (cells.length : Int)) = true := decide_eq_true (by omega)
    go_enter Tryd.func5, Tryd.ntmps5
    go_wp2_with fail
    rw [← HW0.out]
    refine (awake _).mono ?_; rintro e' w1 ⟨rfl, hb1⟩
    have B1 := Lib.hid (below2 B0.out hb1)
    have bv01 := keepC hb1 bv00
    have bv11 := keepC hb1 bv10
    have bv21 := keepC hb1 bv20
    have bv31 := keepC hb1 bv30
    have bv41 := keepC hb1 bv40
    have bv51 := keepC hb1 bv50
    have bv61 := keepC hb1 bv60
    have bu01 := keepC hb1 bu00
    have bu11 := keepC hb1 bu10
    have bu21 := keepC hb1 bu20
    have bu31 := keepC hb1 bu30
    have bu41 := keepC hb1 bu40
    have bu51 := keepC hb1 bu50
    have bu61 := keepC hb1 bu60
    have bt01 := keepC hb1 bt00
    have bt11 := keepC hb1 bt10
    have bt21 := keepC hb1 bt20
    have bt31 := keepC hb1 bt30
    clear bv00 bv10 bv20 bv30 bv40 bv50 bv60 bu00 bu10 bu20 bu30 bu40 bu50 bu60 bt00 bt10 bt20 bt30
    clear hb1
    go_wp2_with fail
    refine (HBV.out _ B1.out).mono ?_; rintro e' w2 ⟨rfl, hb2⟩
    have B2 := Lib.hid (below2 B1.out hb2)
    have bv02 := keepC hb2 bv01
    have bv12 := keepC hb2 bv11
    have bv22 := keepC hb2 bv21
    have bv32 := keepC hb2 bv31
    have bv42 := keepC hb2 bv41
    have bv52 := keepC hb2 bv51
    have bv62 := keepC hb2 bv61
    have bu02 := keepC hb2 bu01
    have bu12 := keepC hb2 bu11
    have bu22 := keepC hb2 bu21
    have bu32 := keepC hb2 bu31
    have bu42 := keepC hb2 bu41
    have bu52 := keepC hb2 bu51
    have bu62 := keepC hb2 bu61
    have bt02 := keepC hb2 bt01
    have bt12 := keepC hb2 bt11
    have bt22 := keepC hb2 bt21
    have bt32 := keepC hb2 bt31
    clear bv01 bv11 bv21 bv31 bv41 bv51 bv61 bu01 bu11 bu21 bu31 bu41 bu51 bu61 bt01 bt11 bt21 bt31
    clear hb2
    go_wp2_with fail
    refine (HBU.out _ B2.out).mono ?_; rintro e' w3 ⟨rfl, hb3⟩
    have B3 := Lib.hid (below2 B2.out hb3)
    have bv03 := keepC hb3 bv02
    have bv13 := keepC hb3 bv12
    have bv23 := keepC hb3 bv22
    have bv33 := keepC hb3 bv32
    have bv43 := keepC hb3 bv42
    have bv53 := keepC hb3 bv52
    have bv63 := keepC hb3 bv62
    have bu03 := keepC hb3 bu02
    have bu13 := keepC hb3 bu12
    have bu23 := keepC hb3 bu22
    have bu33 := keepC hb3 bu32
    have bu43 := keepC hb3 bu42
    have bu53 := keepC hb3 bu52
    have bu63 := keepC hb3 bu62
    have bt03 := keepC hb3 bt02
    have bt13 := keepC hb3 bt12
    have bt23 := keepC hb3 bt22
    have bt33 := keepC hb3 bt32
    clear bv02 bv12 bv22 bv32 bv42 bv52 bv62 bu02 bu12 bu22 bu32 bu42 bu52 bu62 bt02 bt12 bt22 bt32
    clear hb3
    go_wp2_with fail
    refine (HBT.out _ B3.out).mono ?_; rintro e' w4 ⟨rfl, hb4⟩
    have B4 := Lib.hid (below2 B3.out hb4)
    have bv04 := keepC hb4 bv03
    have bv14 := keepC hb4 bv13
    have bv24 := keepC hb4 bv23
    have bv34 := keepC hb4 bv33
    have bv44 := keepC hb4 bv43
    have bv54 := keepC hb4 bv53
    have bv64 := keepC hb4 bv63
    have bu04 := keepC hb4 bu03
    have bu14 := keepC hb4 bu13
    have bu24 := keepC hb4 bu23
    have bu34 := keepC hb4 bu33
    have bu44 := keepC hb4 bu43
    have bu54 := keepC hb4 bu53
    have bu64 := keepC hb4 bu63
    have bt04 := keepC hb4 bt03
    have bt14 := keepC hb4 bt13
    have bt24 := keepC hb4 bt23
    have bt34 := keepC hb4 bt33
    clear bv03 bv13 bv23 bv33 bv43 bv53 bv63 bu03 bu13 bu23 bu33 bu43 bu53 bu63 bt03 bt13 bt23 bt33
    clear hb4
    go_wp2
    go_ret
    exact ⟨rfl, B4.out⟩
  have d1 := decide_eq_false hc6
  have d1i : decide ((6 : Int) < (cells.length : Int)) = false := decide_eq_false (by omega)
  by_cases hk6 : 6 < cons.length
  · have d2 := decide_eq_true hk6
    have d2i : decide ((6 : Int) < (cons.length : Int)) = true := decide_eq_true (by omega)
    go_enter Tryd.func5, Tryd.ntmps5
    go_wp2_with fail
    rw [← HW0.out]
    refine (awake _).mono ?_; rintro e' w1 ⟨rfl, hb1⟩
    have B1 := Lib.hid (below2 B0.out hb1)
    have bv01 := keepC hb1 bv00
    have bv11 := keepC hb1 bv10
    have bv21 := keepC hb1 bv20
    have bv31 := keepC hb1 bv30
    have bv41 := keepC hb1 bv40
    have bv51 := keepC hb1 bv50
    have bv61 := keepC hb1 bv60
    have bu01 := keepC hb1 bu00
    have bu11 := keepC hb1 bu10
    have bu21 := keepC hb1 bu20
    have bu31 := keepC hb1 bu30
    have bu41 := keepC hb1 bu40
    have bu51 := keepC hb1 bu50
    have bu61 := keepC hb1 bu60
    have bt01 := keepC hb1 bt00
    have bt11 := keepC hb1 bt10
    have bt21 := keepC hb1 bt20
    have bt31 := keepC hb1 bt30
    clear bv00 bv10 bv20 bv30 bv40 bv50 bv60 bu00 bu10 bu20 bu30 bu40 bu50 bu60 bt00 bt10 bt20 bt30
    clear hb1
    go_wp2_with fail
    refine (HBV.out _ B1.out).mono ?_; rintro e' w2 ⟨rfl, hb2⟩
    have B2 := Lib.hid (below2 B1.out hb2)
    have bv02 := keepC hb2 bv01
    have bv12 := keepC hb2 bv11
    have bv22 := keepC hb2 bv21
    have bv32 := keepC hb2 bv31
    have bv42 := keepC hb2 bv41
    have bv52 := keepC hb2 bv51
    have bv62 := keepC hb2 bv61
    have bu02 := keepC hb2 bu01
    have bu12 := keepC hb2 bu11
    have bu22 := keepC hb2 bu21
    have bu32 := keepC hb2 bu31
    have bu42 := keepC hb2 bu41
    have bu52 := keepC hb2 bu51
    have bu62 := keepC hb2 bu61
    have bt02 := keepC hb2 bt01
    have bt12 := keepC hb2 bt11
    have bt22 := keepC hb2 bt21
    have bt32 := keepC hb2 bt31
    clear bv01 bv11 bv21 bv31 bv41 bv51 bv61 bu01 bu11 bu21 bu31 bu41 bu51 bu61 bt01 bt11 bt21 bt31
    clear hb2
    go_wp2_with fail
    refine (HBU.out _ B2.out).mono ?_; rintro e' w3 ⟨rfl, hb3⟩
    have B3 := Lib.hid (below2 B2.out hb3)
    have bv03 := keepC hb3 bv02
    have bv13 := keepC hb3 bv12
    have bv23 := keepC hb3 bv22
    have bv33 := keepC hb3 bv32
    have bv43 := keepC hb3 bv42
    have bv53 := keepC hb3 bv52
    have bv63 := keepC hb3 bv62
    have bu03 := keepC hb3 bu02
    have bu13 := keepC hb3 bu12
    have bu23 := keepC hb3 bu22
    have bu33 := keepC hb3 bu32
    have bu43 := keepC hb3 bu42
    have bu53 := keepC hb3 bu52
    have bu63 := keepC hb3 bu62
    have bt03 := keepC hb3 bt02
    have bt13 := keepC hb3 bt12
    have bt23 := keepC hb3 bt22
    have bt33 := keepC hb3 bt32
    clear bv02 bv12 bv22 bv32 bv42 bv52 bv62 bu02 bu12 bu22 bu32 bu42 bu52 bu62 bt02 bt12 bt22 bt32
    clear hb3
    go_wp2_with fail
    refine (HBT.out _ B3.out).mono ?_; rintro e' w4 ⟨rfl, hb4⟩
    have B4 := Lib.hid (below2 B3.out hb4)
    have bv04 := keepC hb4 bv03
    have bv14 := keepC hb4 bv13
    have bv24 := keepC hb4 bv23
    have bv34 := keepC hb4 bv33
    have bv44 := keepC hb4 bv43
    have bv54 := keepC hb4 bv53
    have bv64 := keepC hb4 bv63
    have bu04 := keepC hb4 bu03
    have bu14 := keepC hb4 bu13
    have bu24 := keepC hb4 bu23
    have bu34 := keepC hb4 bu33
    have bu44 := keepC hb4 bu43
    have bu54 := keepC hb4 bu53
    have bu64 := keepC hb4 bu63
    have bt04 := keepC hb4 bt03
    have bt14 := keepC hb4 bt13
    have bt24 := keepC hb4 bt23
    have bt34 := keepC hb4 bt33
    clear bv03 bv13 bv23 bv33 bv43 bv53 bv63 bu03 bu13 bu23 bu33 bu43 bu53 bu63 bt03 bt13 bt23 bt33
    clear hb4
    go_wp2
    go_ret
    exact ⟨rfl, B4.out⟩
  have d2 := decide_eq_false hk6
  have d2i : decide ((6 : Int) < (cons.length : Int)) = false := decide_eq_false (by omega)
  go_enter Tryd.func5, Tryd.ntmps5
  go_wp2_with fail
  rw [← HW0.out]
  refine (awake _).mono ?_; rintro e' w1 ⟨rfl, hb1⟩
  have B1 := Lib.hid (below2 B0.out hb1)
  have bv01 := keepC hb1 bv00
  have bv11 := keepC hb1 bv10
  have bv21 := keepC hb1 bv20
  have bv31 := keepC hb1 bv30
  have bv41 := keepC hb1 bv40
  have bv51 := keepC hb1 bv50
  have bv61 := keepC hb1 bv60
  have bu01 := keepC hb1 bu00
  have bu11 := keepC hb1 bu10
  have bu21 := keepC hb1 bu20
  have bu31 := keepC hb1 bu30
  have bu41 := keepC hb1 bu40
  have bu51 := keepC hb1 bu50
  have bu61 := keepC hb1 bu60
  have bt01 := keepC hb1 bt00
  have bt11 := keepC hb1 bt10
  have bt21 := keepC hb1 bt20
  have bt31 := keepC hb1 bt30
  clear bv00 bv10 bv20 bv30 bv40 bv50 bv60 bu00 bu10 bu20 bu30 bu40 bu50 bu60 bt00 bt10 bt20 bt30
  clear hb1
  go_wp2_with fail
  refine (HBV.out _ B1.out).mono ?_; rintro e' w2 ⟨rfl, hb2⟩
  have B2 := Lib.hid (below2 B1.out hb2)
  have bv02 := keepC hb2 bv01
  have bv12 := keepC hb2 bv11
  have bv22 := keepC hb2 bv21
  have bv32 := keepC hb2 bv31
  have bv42 := keepC hb2 bv41
  have bv52 := keepC hb2 bv51
  have bv62 := keepC hb2 bv61
  have bu02 := keepC hb2 bu01
  have bu12 := keepC hb2 bu11
  have bu22 := keepC hb2 bu21
  have bu32 := keepC hb2 bu31
  have bu42 := keepC hb2 bu41
  have bu52 := keepC hb2 bu51
  have bu62 := keepC hb2 bu61
  have bt02 := keepC hb2 bt01
  have bt12 := keepC hb2 bt11
  have bt22 := keepC hb2 bt21
  have bt32 := keepC hb2 bt31
  clear bv01 bv11 bv21 bv31 bv41 bv51 bv61 bu01 bu11 bu21 bu31 bu41 bu51 bu61 bt01 bt11 bt21 bt31
  clear hb2
  go_wp2_with fail
  refine (HBU.out _ B2.out).mono ?_; rintro e' w3 ⟨rfl, hb3⟩
  have B3 := Lib.hid (below2 B2.out hb3)
  have bv03 := keepC hb3 bv02
  have bv13 := keepC hb3 bv12
  have bv23 := keepC hb3 bv22
  have bv33 := keepC hb3 bv32
  have bv43 := keepC hb3 bv42
  have bv53 := keepC hb3 bv52
  have bv63 := keepC hb3 bv62
  have bu03 := keepC hb3 bu02
  have bu13 := keepC hb3 bu12
  have bu23 := keepC hb3 bu22
  have bu33 := keepC hb3 bu32
  have bu43 := keepC hb3 bu42
  have bu53 := keepC hb3 bu52
  have bu63 := keepC hb3 bu62
  have bt03 := keepC hb3 bt02
  have bt13 := keepC hb3 bt12
  have bt23 := keepC hb3 bt22
  have bt33 := keepC hb3 bt32
  clear bv02 bv12 bv22 bv32 bv42 bv52 bv62 bu02 bu12 bu22 bu32 bu42 bu52 bu62 bt02 bt12 bt22 bt32
  clear hb3
  go_wp2_with fail
  refine (HBT.out _ B3.out).mono ?_; rintro e' w4 ⟨rfl, hb4⟩
  have B4 := Lib.hid (below2 B3.out hb4)
  have bv04 := keepC hb4 bv03
  have bv14 := keepC hb4 bv13
  have bv24 := keepC hb4 bv23
  have bv34 := keepC hb4 bv33
  have bv44 := keepC hb4 bv43
  have bv54 := keepC hb4 bv53
  have bv64 := keepC hb4 bv63
  have bu04 := keepC hb4 bu03
  have bu14 := keepC hb4 bu13
  have bu24 := keepC hb4 bu23
  have bu34 := keepC hb4 bu33
  have bu44 := keepC hb4 bu43
  have bu54 := keepC hb4 bu53
  have bu64 := keepC hb4 bu63
  have bt04 := keepC hb4 bt03
  have bt14 := keepC hb4 bt13
  have bt24 := keepC hb4 bt23
  have bt34 := keepC hb4 bt33
  clear bv03 bv13 bv23 bv33 bv43 bv53 bv63 bu03 bu13 bu23 bu33 bu43 bu53 bu63 bt03 bt13 bt23 bt33
  clear hb4
  have HHC := Lib.hid hc6
  have HHK := Lib.hid hk6
  obtain ⟨i0, hi0, hz0, hz1, hz2⟩ := info_parts info56
  clear d1 d1i d2 d2i
  go_wp2
  clear B0 B1 B2 B3 HBV HBU HBT hc6 hk6
  go_loopw [11, 12] (fun ar i wr => ∃ (k : Nat) (v : Value) (xs : List Value), k ≤ cons.length ∧ i = .int .i64 k ∧ ar = v ∧ Hid (AS w w4 cons k v xs wr)) (fun _ i _ => cons.length - (intOf i).toNat)
  case atStart => exact ⟨0, .slice none 0 0, [], by omega, rfl, rfl, Lib.hid ⟨Below.refl _ _, World.ownsRow_nil _ _ _ _, rfl⟩⟩
  case round =>
    obtain ⟨k, v, xs, hk, rfl, rfl, HAS⟩ := hrel
    have hBW : Hid (Below w.heap.size w wr) := Lib.hid (below2 B4.out HAS.out.bel)
    have hk7 : k ≤ 6 := by have := HHK.out; omega
    by_cases hlt : k < cons.length
    · have hli : (k : Int) < (cons.length : Int) := by omega
      obtain ⟨Ar, cr, rfl⟩ := vformZ HAS.out.own
      obtain ⟨cb, co, rfl, hcb, hcr⟩ : ∃ b o, Ak = some ⟨b, o, none⟩ ∧ b < w.heap.size ∧ ∀ i (h : i < cons.length), w.cell? ⟨b, o + i * 2, none⟩ = some (.string cons[i].name) ∧ ∃ A' c', w.cell? ⟨b, o + i * 2 + 1, none⟩ = some (.slice A' cons[i].types.length c') ∧ TxRow w A' cons[i].types := by
        rcases HCK.out with h1 | h1
        · omega
        · exact h1
      obtain ⟨q1, A', c', q2, q3⟩ := hcr k hlt
      have HTX := Lib.hid q3
      have m0 := (hBW.out.cell (p := ⟨cb, co + k * 2, none⟩) hcb).trans q1
      have m1 := (hBW.out.cell (p := ⟨cb, co + k * 2 + 1, none⟩) hcb).trans q2
      have m0w := (B4.out.cell (p := ⟨cb, co + k * 2, none⟩) hcb).trans q1
      have m1w := (B4.out.cell (p := ⟨cb, co + k * 2 + 1, none⟩) hcb).trans q2
      have hcbl : cb < w4.heap.size := Nat.lt_of_lt_of_le hcb B4.out.size
      clear hcr q1 q2 q3 HCK
      by_cases ht5 : 5 < cons[k].types.length
      · have d1 := decide_eq_true ht5
        have d1i : decide ((5 : Int) < (cons[k].types.length : Int)) = true := decide_eq_true (by omega)
        go_wp2
        go_ret
        exact ⟨rfl, hBW.out⟩
      have d1 := decide_eq_false ht5
      have d1i : decide ((5 : Int) < (cons[k].types.length : Int)) = false := decide_eq_false (by omega)
      by_cases hn60 : 60 < cons[k].name.size
      · have d2 := decide_eq_true hn60
        have d2i : decide ((60 : Int) < (cons[k].name.size : Int)) = true := decide_eq_true (by omega)
        go_wp2
        go_ret
        exact ⟨rfl, hBW.out⟩
      have d2 := decide_eq_false hn60
      have d2i : decide ((60 : Int) < (cons[k].name.size : Int)) = false := decide_eq_false (by omega)
      have ownD : wr.drew.ownsRow w4.heap.size 56 2 (.slice Ar k cr) k xs := Below.own (bdr wr) HAS.out.own
      go_wp2
      refine wp_region_held_drew (S := fun w' => w'.cell? ⟨cb, co + k * 2, none⟩ = some (.string cons[k].name) ∧ w'.cell? ⟨cb, co + k * 2 + 1, none⟩ = some (.slice A' cons[k].types.length c')) (by kernel_rfl) ?_ (fun hHeld => ?_)
      · (try dsimp only); go_keep
      refine wpAnyH_take (i := 0) (oi := { dst := some 59, op := Go.Op.move (Go.Operand.tmp 11), type := 55, pos := _, after := #[], guard := none }) (v := ?va0) rfl (by kernel_rfl) (by kernel_rfl) (by kernel_rfl) (fun _ _ _ h => h) (Or.inl ⟨by rfl, ?hya0⟩) (by assumption) ?_
      case hya0 => (intro wz hSw; (try dsimp only at hSw); go_simp; try with_reducible rfl)
      (try simp only [Act.put, List.setIfInBounds_toArray, List.set_cons_zero, List.set_cons_succ])
      refine wpAnyH_take (i := 1) (oi := { dst := some 60, op := Go.Op.move (Go.Operand.tmp 4), type := 38, pos := _, after := #[], guard := none }) (v := ?va1) rfl (by kernel_rfl) (by kernel_rfl) (by kernel_rfl) (fun _ _ _ h => h) (Or.inl ⟨by rfl, ?hya1⟩) (by assumption) ?_
      case hya1 => (intro wz hSw; (try dsimp only at hSw); go_simp; try with_reducible rfl)
      (try simp only [Act.put, List.setIfInBounds_toArray, List.set_cons_zero, List.set_cons_succ])
      refine wpAnyH_take (i := 2) (oi := { dst := some 61, op := Go.Op.move (Go.Operand.tmp 12), type := 3, pos := _, after := #[], guard := none }) (v := ?va2) rfl (by kernel_rfl) (by kernel_rfl) (by kernel_rfl) (fun _ _ _ h => h) (Or.inl ⟨by rfl, ?hya2⟩) (by assumption) ?_
      case hya2 => (intro wz hSw; (try dsimp only at hSw); go_simp; try with_reducible rfl)
      (try simp only [Act.put, List.setIfInBounds_toArray, List.set_cons_zero, List.set_cons_succ])
      refine wpAnyH_take (i := 3) (oi := { dst := some 62, op := Go.Op.indexAddr 38 (Go.Operand.tmp 60) (Go.Operand.tmp 61), type := 0, pos := _, after := #[{ on := 1, ground := Go.Ground.data }, { on := 2, ground := Go.Ground.data }], guard := none }) (v := ?va3) rfl (by kernel_rfl) (by kernel_rfl) (by kernel_rfl) (fun _ _ _ h => h) (Or.inl ⟨by rfl, ?hya3⟩) (by assumption) ?_
      case hya3 => (intro wz hSw; (try dsimp only at hSw); go_simp; try with_reducible rfl)
      (try simp only [Act.put, List.setIfInBounds_toArray, List.set_cons_zero, List.set_cons_succ])
      refine wpAnyH_take (i := 4) (oi := { dst := some 63, op := Go.Op.fieldAddr 37 (Go.Operand.tmp 62) 0, type := 0, pos := _, after := #[{ on := 3, ground := Go.Ground.data }], guard := none }) (v := ?va4) rfl (by kernel_rfl) (by kernel_rfl) (by kernel_rfl) (fun _ _ _ h => h) (Or.inl ⟨by rfl, ?hya4⟩) (by assumption) ?_
      case hya4 => (intro wz hSw; (try dsimp only at hSw); go_simp; try with_reducible rfl)
      (try simp only [Act.put, List.setIfInBounds_toArray, List.set_cons_zero, List.set_cons_succ])
      refine wpAnyH_take (i := 5) (oi := { dst := some 64, op := Go.Op.load 9 (Go.Operand.tmp 63), type := 9, pos := _, after := #[{ on := 4, ground := Go.Ground.data }], guard := none }) (v := ?va5) rfl (by kernel_rfl) (by kernel_rfl) (by kernel_rfl) (fun _ _ _ h => h) (Or.inl ⟨by rfl, ?hya5⟩) (by assumption) ?_
      case hya5 => (intro wz hSw; (try dsimp only at hSw); go_simp; try with_reducible rfl)
      (try simp only [Act.put, List.setIfInBounds_toArray, List.set_cons_zero, List.set_cons_succ])
      refine wpAnyH_take (i := 6) (oi := { dst := some 65, op := Go.Op.move (Go.Operand.tmp 4), type := 38, pos := _, after := #[], guard := none }) (v := ?va6) rfl (by kernel_rfl) (by kernel_rfl) (by kernel_rfl) (fun _ _ _ h => h) (Or.inl ⟨by rfl, ?hya6⟩) (by assumption) ?_
      case hya6 => (intro wz hSw; (try dsimp only at hSw); go_simp; try with_reducible rfl)
      (try simp only [Act.put, List.setIfInBounds_toArray, List.set_cons_zero, List.set_cons_succ])
      refine wpAnyH_take (i := 7) (oi := { dst := some 66, op := Go.Op.move (Go.Operand.tmp 12), type := 3, pos := _, after := #[], guard := none }) (v := ?va7) rfl (by kernel_rfl) (by kernel_rfl) (by kernel_rfl) (fun _ _ _ h => h) (Or.inl ⟨by rfl, ?hya7⟩) (by assumption) ?_
      case hya7 => (intro wz hSw; (try dsimp only at hSw); go_simp; try with_reducible rfl)
      (try simp only [Act.put, List.setIfInBounds_toArray, List.set_cons_zero, List.set_cons_succ])
      refine wpAnyH_take (i := 8) (oi := { dst := some 67, op := Go.Op.indexAddr 38 (Go.Operand.tmp 65) (Go.Operand.tmp 66), type := 0, pos := _, after := #[{ on := 6, ground := Go.Ground.data }, { on := 7, ground := Go.Ground.data }], guard := none }) (v := ?va8) rfl (by kernel_rfl) (by kernel_rfl) (by kernel_rfl) (fun _ _ _ h => h) (Or.inl ⟨by rfl, ?hya8⟩) (by assumption) ?_
      case hya8 => (intro wz hSw; (try dsimp only at hSw); go_simp; try with_reducible rfl)
      (try simp only [Act.put, List.setIfInBounds_toArray, List.set_cons_zero, List.set_cons_succ])
      refine wpAnyH_take (i := 9) (oi := { dst := some 68, op := Go.Op.fieldAddr 37 (Go.Operand.tmp 67) 1, type := 0, pos := _, after := #[{ on := 8, ground := Go.Ground.data }], guard := none }) (v := ?va9) rfl (by kernel_rfl) (by kernel_rfl) (by kernel_rfl) (fun _ _ _ h => h) (Or.inl ⟨by rfl, ?hya9⟩) (by assumption) ?_
      case hya9 => (intro wz hSw; (try dsimp only at hSw); go_simp; try with_reducible rfl)
      (try simp only [Act.put, List.setIfInBounds_toArray, List.set_cons_zero, List.set_cons_succ])
      refine wpAnyH_take (i := 10) (oi := { dst := some 69, op := Go.Op.load 35 (Go.Operand.tmp 68), type := 35, pos := _, after := #[{ on := 9, ground := Go.Ground.data }], guard := none }) (v := ?va10) rfl (by kernel_rfl) (by kernel_rfl) (by kernel_rfl) (fun _ _ _ h => h) (Or.inl ⟨by rfl, ?hya10⟩) (by assumption) ?_
      case hya10 => (intro wz hSw; (try dsimp only at hSw); go_simp; try with_reducible rfl)
      (try simp only [Act.put, List.setIfInBounds_toArray, List.set_cons_zero, List.set_cons_succ])
      refine wpAnyH_take (i := 11) (oi := { dst := some 70, op := Go.Op.build 56 #[(0, Go.Operand.tmp 64), (1, Go.Operand.tmp 69)], type := 56, pos := _, after := #[{ on := 5, ground := Go.Ground.data }, { on := 10, ground := Go.Ground.data }], guard := none }) (v := ?va11) rfl (by kernel_rfl) (by kernel_rfl) (by kernel_rfl) (fun _ _ _ h => h) (Or.inl ⟨by rfl, ?hya11⟩) (by assumption) ?_
      case hya11 => (intro wz hSw; (try dsimp only at hSw); go_simp; try with_reducible rfl)
      (try simp only [Act.put, List.setIfInBounds_toArray, List.set_cons_zero, List.set_cons_succ])
      refine wpAnyH_ready (rs := [12]) (by kernel_rfl) (by simp) ?_
      refine AllReadyH.cons (o := { dst := some 71, op := Go.Op.buildSlice 55 1 #[(0, Go.Operand.tmp 70)], type := 55, pos := _, after := #[{ on := 11, ground := Go.Ground.data }], guard := none }) rfl (fun K hK => ?_) AllReadyH.nil
      go_simp
      refine hK.out _ _ ?_ (fun hHeld => ?_)
      · (try dsimp only); go_keep
      clear hK K
      (try simp only [Act.put, List.setIfInBounds_toArray, List.set_cons_zero, List.set_cons_succ])
      refine wpAnyH_ready (rs := [13]) (by kernel_rfl) (by simp) ?_
      refine AllReadyH.cons (o := { dst := some 72, op := Go.Op.call { callee := Go.Callee.builtin Go.Builtin.append, args := #[Go.Operand.tmp 59, Go.Operand.tmp 71], argTypes := #[55, 55] }, type := 55, pos := _, after := #[{ on := 0, ground := Go.Ground.data }, { on := 12, ground := Go.Ground.data }], guard := none }) rfl (fun K hK => ?_) AllReadyH.nil
      refine step_append_sl rfl (.tmp 59) (.tmp 71) 55 rfl w4.heap.size 56 i0 _ 2 40 Tryd.underlying55 hi0 hz0 hz1 hz2 rfl (by decide) (.slice Ar k cr) k xs rfl (ownD.alloc (.cells #[.string cons[k].name, .slice A' cons[k].types.length c'] 56)) (some ⟨wr.heap.size, 0, none⟩) 1 1 [.string cons[k].name, .slice A' cons[k].types.length c'] rfl rfl (fun h => by cases h) ?c1 ?c2 (by unfold maxLen; omega) (by omega) ?c3 ?_
      case c1 => (intro ad had; injection had with had; subst had; exact World.news_of_block (MapKept.heap_alloc wr.drew (.cells #[.string cons[k].name, .slice A' cons[k].types.length c'] 56)).1)
      case c2 => (intro u hu; simp only [List.mem_cons, List.not_mem_nil, or_false] at hu; rcases hu with rfl | rfl <;> rfl)
      case c3 => (have := HAS.out.bel.size; show _ ≤ (wr.heap.push _).size; simp; omega)
      intro v1 wa own4 gr4 at4
      have HAS2 := Lib.hid (HAS.out.step (A' := A') (c' := c') hlt HTX.out (.cells #[.string cons[k].name, .slice A' cons[k].types.length c'] 56) own4 gr4)
      obtain ⟨Ar1, cr1, rfl⟩ := vformZ own4
      have m0 := (HAS2.out.bel.cell (p := ⟨cb, co + k * 2, none⟩) hcbl).trans m0w
      have m1 := (HAS2.out.bel.cell (p := ⟨cb, co + k * 2 + 1, none⟩) hcbl).trans m1w
      clear gr4 at4 own4
      refine hK.out _ _ ?_ (fun hHeld => ?_)
      · (try dsimp only); go_keep
      clear hK K
      (try simp only [Act.put, List.setIfInBounds_toArray, List.set_cons_zero, List.set_cons_succ])
      refine wpAnyH_take (i := 14) (oi := { dst := some 11, op := Go.Op.assign (Go.Operand.tmp 72), type := 55, pos := _, after := #[{ on := 13, ground := Go.Ground.data }, { on := 13, ground := Go.Ground.chain }, { on := 0, ground := Go.Ground.phase }, { on := 1, ground := Go.Ground.phase }, { on := 2, ground := Go.Ground.phase }, { on := 3, ground := Go.Ground.phase }, { on := 4, ground := Go.Ground.phase }, { on := 5, ground := Go.Ground.phase }, { on := 6, ground := Go.Ground.phase }, { on := 7, ground := Go.Ground.phase }, { on := 8, ground := Go.Ground.phase }, { on := 9, ground := Go.Ground.phase }, { on := 10, ground := Go.Ground.phase }, { on := 11, ground := Go.Ground.phase }, { on := 12, ground := Go.Ground.phase }, { on := 13, ground := Go.Ground.phase }], guard := none }) (v := ?va14) rfl (by kernel_rfl) (by kernel_rfl) (by kernel_rfl) (fun _ _ _ h => h) (Or.inl ⟨by rfl, ?hya14⟩) (by assumption) ?_
      case hya14 => (intro wz hSw; (try dsimp only at hSw); go_simp; try with_reducible rfl)
      (try simp only [Act.put, List.setIfInBounds_toArray, List.set_cons_zero, List.set_cons_succ])
      refine wpAnyH_done (by kernel_rfl) ?_ _
      go_wp2
      go_roundw
      case rel => exact ⟨k + 1, _, _, by omega, by go_num, rfl, HAS2⟩
      case measure => simp [intOf]; omega
    · obtain rfl : k = cons.length := by omega
      obtain ⟨Ag, cg, rfl, hCR⟩ := HAS.out.fin hBW.out
      have HCR := Lib.hid hCR
      obtain ⟨w5, hw5⟩ : ∃ w5, w5 = wr := ⟨_, rfl⟩
      subst hw5
      have B45 := Lib.hid HAS.out.bel
      have B5 := hBW
      have bv05 := keepC B45.out bv04
      have bv15 := keepC B45.out bv14
      have bv25 := keepC B45.out bv24
      have bv35 := keepC B45.out bv34
      have bv45 := keepC B45.out bv44
      have bv55 := keepC B45.out bv54
      have bv65 := keepC B45.out bv64
      have bu05 := keepC B45.out bu04
      have bu15 := keepC B45.out bu14
      have bu25 := keepC B45.out bu24
      have bu35 := keepC B45.out bu34
      have bu45 := keepC B45.out bu44
      have bu55 := keepC B45.out bu54
      have bu65 := keepC B45.out bu64
      have bt05 := keepC B45.out bt04
      have bt15 := keepC B45.out bt14
      have bt25 := keepC B45.out bt24
      have bt35 := keepC B45.out bt34
      clear bv04 bv14 bv24 bv34 bv44 bv54 bv64 bu04 bu14 bu24 bu34 bu44 bu54 bu64 bt04 bt14 bt24 bt34
      clear hCR HAS hBW hlt hk7
      go_wp2
      go_loopw [13] (fun i wr => ∃ (k : Nat), k ≤ cells.length ∧ i = .int .i64 k ∧ (cells.take k).any (bigD 7) = false ∧ Below w5.heap.size w5 wr) (fun i _ => cells.length - (intOf i).toNat)
      case atStart => exact ⟨0, by omega, rfl, rfl, Below.refl _ _⟩
      case round =>
        obtain ⟨k, hk2, rfl, hany, hb5⟩ := hrel
        have HANY := Lib.hid hany
        have H56 := Lib.hid hb5
        have hBW : Hid (Below w.heap.size w wr) := Lib.hid (below2 B5.out hb5)
        have hk7 : k ≤ 6 := by have := HHC.out; omega
        clear hany hb5
        by_cases hlt : k < cells.length
        · have hli : (k : Int) < (cells.length : Int) := by omega
          obtain ⟨b, o, rfl, hb, hr⟩ : ∃ b o, Ac = some ⟨b, o, none⟩ ∧ b < w.heap.size ∧ okL w cells b o := by
            rcases HCL.out with h1 | h1
            · omega
            · exact h1
          obtain ⟨b', o', hbo, _, hr1⟩ : ∃ b' o', some (⟨b, o, none⟩ : Addr) = some ⟨b', o', none⟩ ∧ b' < wr.heap.size ∧ okL wr cells b' o' := by
            rcases (HCL.out.later hBW.out : VRow wr (some ⟨b, o, none⟩) cells) with h1 | h1
            · omega
            · exact h1
          injection hbo with hbo
          injection hbo with e1 e2
          subst e1 e2
          obtain ⟨A1, c1, e1, x0, x1, x2, x3, x4, x5, x6, hin⟩ := okV_in (okL_at hr1 k hlt)
          have CALL := Lib.hid (big_any 7 cells[k] _ 64 wr most64 hin)
          clear hin hr hr1
          cases hd : bigD 7 cells[k]
          · rw [hd] at CALL
            have HN2 : Hid ((cells.take (k + 1)).any (bigD 7) = false) := Lib.hid ((any_take hlt HANY.out).trans hd)
            go_wp2_with fail
            refine Calls.mono CALL.out ?_; rintro e' w6 ⟨rfl, hb6⟩
            have HB6 := Lib.hid (H56.out.trans (hb6.mono H56.out.size))
            clear hb6 CALL
            go_wp2
            go_roundw
            case rel => exact ⟨k + 1, by omega, by go_num, HN2.out, HB6.out⟩
            case measure => simp [intOf]; omega
          · rw [hd] at CALL
            go_wp2_with fail
            refine Calls.mono CALL.out ?_; rintro e' w6 ⟨rfl, hb6⟩
            have HB6 := Lib.hid (below2 hBW.out hb6)
            clear hb6 CALL
            go_wp2
            go_ret
            exact ⟨rfl, HB6.out⟩
        · obtain rfl : k = cells.length := by omega
          have HALL : Hid (∀ x ∈ cells, bigD 7 x = false) := Lib.hid (fun x hx => by
            have := HANY.out
            rw [List.take_length] at this
            cases hx2 : bigD 7 x
            · rfl
            · rw [List.any_eq_true.2 ⟨x, hx, hx2⟩] at this; cases this)
          have bv06 := keepC H56.out bv05
          have bv16 := keepC H56.out bv15
          have bv26 := keepC H56.out bv25
          have bv36 := keepC H56.out bv35
          have bv46 := keepC H56.out bv45
          have bv56 := keepC H56.out bv55
          have bv66 := keepC H56.out bv65
          have bu06 := keepC H56.out bu05
          have bu16 := keepC H56.out bu15
          have bu26 := keepC H56.out bu25
          have bu36 := keepC H56.out bu35
          have bu46 := keepC H56.out bu45
          have bu56 := keepC H56.out bu55
          have bu66 := keepC H56.out bu65
          have bt06 := keepC H56.out bt05
          have bt16 := keepC H56.out bt15
          have bt26 := keepC H56.out bt25
          have bt36 := keepC H56.out bt35
          clear bv05 bv15 bv25 bv35 bv45 bv55 bv65 bu05 bu15 bu25 bu35 bu45 bu55 bu65 bt05 bt15 bt25 bt35
          have BW := hBW
          have CRW := Lib.hid (HCR.out.later H56.out)
          clear HANY H56 hBW hlt hk7
          have hsz : (rtext cells cons 50 V T).size ≤ 900000 := by
            have := rtext_cap cells cons (fun x hx => ⟨HALL.out x hx, HNC.out x hx⟩) 50 V T hbv HN.out
            have h2 : capB 7 = 524262 := rfl
            omega
          have HSZ := Lib.hid hsz
          have hkl : cons.length ≤ 1000000 := by have := HHK.out; omega
          have hcl2 : cells.length ≤ 1000000 := by have := HHC.out; omega
          obtain ⟨st, hst⟩ : ∃ st, st = rtext cells cons 50 V T := ⟨_, rfl⟩
          obtain ⟨sb, hsb⟩ : ∃ sb, sb = sameD 7 V U := ⟨_, rfl⟩
          have C4 : Hid (∀ W, Below w.heap.size w W → Calls Tryd.prog 14 #[.agg #[.int .i64 V.k, .int .i64 V.n, .string V.nm, .slice A V.args.length c, .int .i64 V.node, e, .int .i64 V.at_], .agg #[.int .i64 T.k, .string T.nm, .int .i64 T.vr, .slice A2 T.args.length c2], .slice Ac cells.length cc, .slice Ak cons.length ck] W fun e w' => e = .returned (.string st) ∧ Below W.heap.size W w') := Lib.hid (fun W h => by rw [hst]; exact render_any (HPT.out.on h) (HCK.out.later h) hkl (HCL.out.later h) (HV.out.later h) (HT2.out.later h) hsz)
          have C6 : Hid (∀ W, Below w.heap.size w W → Calls Tryd.prog 18 #[.agg #[.int .i64 V.k, .int .i64 V.n, .string V.nm, .slice A V.args.length c, .int .i64 V.node, e, .int .i64 V.at_]] W (VlPost W V)) := Lib.hid (fun W h => vl_tree 7 V _ W hbv (HV.out.later h))
          have C21 : Hid (∀ W, Below w.heap.size w W → Calls Tryd.prog 18 #[.agg #[.int .i64 U.k, .int .i64 U.n, .string U.nm, .slice B U.args.length cu, .int .i64 U.node, eu, .int .i64 U.at_]] W (VlPost W U)) := Lib.hid (fun W h => vl_tree 7 U _ W hbu (HU.out.later h))
          have C8 : Hid (∀ W, Below w.heap.size w W → Calls Tryd.prog 24 #[.agg #[.int .i64 T.k, .string T.nm, .int .i64 T.vr, .slice A2 T.args.length c2]] W (TlPost W T)) := Lib.hid (fun W h => ty1_tree 7 T _ W hbt (HT2.out.later h))
          have C10 : Hid (∀ W, Below w.heap.size w W → Calls Tryd.prog 25 #[.slice Ac cells.length cc] W (VsPost W cells)) := Lib.hid (fun W h => vls_any (by omega) HALL.out (HCL.out.later h))
          have C12 : Hid (∀ (W : World) (a1 a2 a3 : Value) (Av : Option Addr) (cv : Nat), RV W V a1 → RT W T a2 → RRow W (fun _ => True) Av cells → CRow W Ag cons → Calls Tryd.prog 23 #[a1, a2, .slice Av cells.length cv, .slice Ag cons.length cg] W fun e w' => e = .returned (.string st) ∧ Below W.heap.size W w') := Lib.hid (fun W a1 a2 a3 Av cv h1 h2 h3 h4 => by rw [hst]; exact rRender_any hkl HALL.out hcl2 hbv h3 h4 h1 h2 hsz)
          have C17 : Hid (∀ W, Below w.heap.size w W → Calls Tryd.prog 15 #[.agg #[.int .i64 V.k, .int .i64 V.n, .string V.nm, .slice A V.args.length c, .int .i64 V.node, e, .int .i64 V.at_], .agg #[.int .i64 U.k, .int .i64 U.n, .string U.nm, .slice B U.args.length cu, .int .i64 U.node, eu, .int .i64 U.at_]] W fun e w' => e = .returned (.bool sb) ∧ Below W.heap.size W w') := Lib.hid (fun W h => by rw [hsb]; exact Same_any (d := 6) hbv (by omega) (HV.out.later h) (HU.out.later h))
          have C22 : Hid (∀ (W : World) (a1 a2 : Value), RV W V a1 → RV W U a2 → Calls Tryd.prog 17 #[a1, a2] W fun e w' => e = .returned (.bool sb) ∧ Below W.heap.size W w') := Lib.hid (fun W a1 a2 h1 h2 => by rw [hsb]; exact rsame_any 7 V U a1 a2 W hbv h1 h2)
          have C28 : Hid (∀ (W : World) (a : Value), RT W T a → Calls Tryd.prog 26 #[a] W fun e w' => (∃ n : Int, e = .returned (.int .i64 n) ∧ 1 ≤ n ∧ n ≤ 501) ∧ Below W.heap.size W w') := Lib.hid (fun W a h => rsize_any 7 T a W hbt h)
          have BN := Lib.hid (And.intro (VIn.bounds HV.out) (VIn.bounds HU.out))
          have SE : (st.toList == st.toList) = true := beq_self_eq_true _
          have SB : (sb == sb) = true := by cases sb <;> rfl
          clear hsz HSZ hst hsb HALL HNC HN HPT HCL HCK HV HU HT2 HCR hbv hbu hbt
          go_wp2
          refine wp_region_held_drew (S := fun w' => w'.cell? ⟨w.heap.size, 0, none⟩ = some (.int .i64 V.k) ∧ w'.cell? ⟨w.heap.size, 1, none⟩ = some (.int .i64 V.n) ∧ w'.cell? ⟨w.heap.size, 2, none⟩ = some (.string V.nm) ∧ w'.cell? ⟨w.heap.size, 3, none⟩ = some (.slice A V.args.length c) ∧ w'.cell? ⟨w.heap.size, 4, none⟩ = some (.int .i64 V.node) ∧ w'.cell? ⟨w.heap.size, 5, none⟩ = some (e) ∧ w'.cell? ⟨w.heap.size, 6, none⟩ = some (.int .i64 V.at_) ∧ w'.cell? ⟨w.heap.size + 1, 0, none⟩ = some (.int .i64 U.k) ∧ w'.cell? ⟨w.heap.size + 1, 1, none⟩ = some (.int .i64 U.n) ∧ w'.cell? ⟨w.heap.size + 1, 2, none⟩ = some (.string U.nm) ∧ w'.cell? ⟨w.heap.size + 1, 3, none⟩ = some (.slice B U.args.length cu) ∧ w'.cell? ⟨w.heap.size + 1, 4, none⟩ = some (.int .i64 U.node) ∧ w'.cell? ⟨w.heap.size + 1, 5, none⟩ = some (eu) ∧ w'.cell? ⟨w.heap.size + 1, 6, none⟩ = some (.int .i64 U.at_) ∧ w'.cell? ⟨w.heap.size + 2, 0, none⟩ = some (.int .i64 T.k) ∧ w'.cell? ⟨w.heap.size + 2, 1, none⟩ = some (.string T.nm) ∧ w'.cell? ⟨w.heap.size + 2, 2, none⟩ = some (.int .i64 T.vr) ∧ w'.cell? ⟨w.heap.size + 2, 3, none⟩ = some (.slice A2 T.args.length c2)) (by kernel_rfl) ?_ (fun hHeld => ?_)
          · (try dsimp only); go_keep
          have bv0D : wr.drew.cell? ⟨w.heap.size, 0, none⟩ = some (.int .i64 V.k) := bv06
          have bv1D : wr.drew.cell? ⟨w.heap.size, 1, none⟩ = some (.int .i64 V.n) := bv16
          have bv2D : wr.drew.cell? ⟨w.heap.size, 2, none⟩ = some (.string V.nm) := bv26
          have bv3D : wr.drew.cell? ⟨w.heap.size, 3, none⟩ = some (.slice A V.args.length c) := bv36
          have bv4D : wr.drew.cell? ⟨w.heap.size, 4, none⟩ = some (.int .i64 V.node) := bv46
          have bv5D : wr.drew.cell? ⟨w.heap.size, 5, none⟩ = some (e) := bv56
          have bv6D : wr.drew.cell? ⟨w.heap.size, 6, none⟩ = some (.int .i64 V.at_) := bv66
          have bu0D : wr.drew.cell? ⟨w.heap.size + 1, 0, none⟩ = some (.int .i64 U.k) := bu06
          have bu1D : wr.drew.cell? ⟨w.heap.size + 1, 1, none⟩ = some (.int .i64 U.n) := bu16
          have bu2D : wr.drew.cell? ⟨w.heap.size + 1, 2, none⟩ = some (.string U.nm) := bu26
          have bu3D : wr.drew.cell? ⟨w.heap.size + 1, 3, none⟩ = some (.slice B U.args.length cu) := bu36
          have bu4D : wr.drew.cell? ⟨w.heap.size + 1, 4, none⟩ = some (.int .i64 U.node) := bu46
          have bu5D : wr.drew.cell? ⟨w.heap.size + 1, 5, none⟩ = some (eu) := bu56
          have bu6D : wr.drew.cell? ⟨w.heap.size + 1, 6, none⟩ = some (.int .i64 U.at_) := bu66
          have bt0D : wr.drew.cell? ⟨w.heap.size + 2, 0, none⟩ = some (.int .i64 T.k) := bt06
          have bt1D : wr.drew.cell? ⟨w.heap.size + 2, 1, none⟩ = some (.string T.nm) := bt16
          have bt2D : wr.drew.cell? ⟨w.heap.size + 2, 2, none⟩ = some (.int .i64 T.vr) := bt26
          have bt3D : wr.drew.cell? ⟨w.heap.size + 2, 3, none⟩ = some (.slice A2 T.args.length c2) := bt36
          clear bv06 bv16 bv26 bv36 bv46 bv56 bv66 bu06 bu16 bu26 bu36 bu46 bu56 bu66 bt06 bt16 bt26 bt36
          have WD : Hid (Below w.heap.size w wr.drew) := Lib.hid (below2 BW.out (bdr wr))
          have CRD := Lib.hid (CRW.out.later (bdr wr))
          refine wpAnyH_take (i := 0) (oi := { dst := some 84, op := Go.Op.load 26 (Go.Operand.tmp 5), type := 26, pos := _, after := #[], guard := none }) (v := ?vf0) rfl (by kernel_rfl) (by kernel_rfl) (by kernel_rfl) (fun _ _ _ h => h) (Or.inl ⟨by rfl, ?hyf0⟩) (by assumption) ?_
          case hyf0 => (intro wz hSw; (try dsimp only at hSw); go_simp; try with_reducible rfl)
          (try simp only [Act.put, List.setIfInBounds_toArray, List.set_cons_zero, List.set_cons_succ])
          refine wpAnyH_take (i := 1) (oi := { dst := some 85, op := Go.Op.load 34 (Go.Operand.tmp 7), type := 34, pos := _, after := #[], guard := none }) (v := ?vf1) rfl (by kernel_rfl) (by kernel_rfl) (by kernel_rfl) (fun _ _ _ h => h) (Or.inl ⟨by rfl, ?hyf1⟩) (by assumption) ?_
          case hyf1 => (intro wz hSw; (try dsimp only at hSw); go_simp; try with_reducible rfl)
          (try simp only [Act.put, List.setIfInBounds_toArray, List.set_cons_zero, List.set_cons_succ])
          refine wpAnyH_take (i := 2) (oi := { dst := some 86, op := Go.Op.move (Go.Operand.tmp 3), type := 23, pos := _, after := #[], guard := none }) (v := ?vf2) rfl (by kernel_rfl) (by kernel_rfl) (by kernel_rfl) (fun _ _ _ h => h) (Or.inl ⟨by rfl, ?hyf2⟩) (by assumption) ?_
          case hyf2 => (intro wz hSw; (try dsimp only at hSw); go_simp; try with_reducible rfl)
          (try simp only [Act.put, List.setIfInBounds_toArray, List.set_cons_zero, List.set_cons_succ])
          refine wpAnyH_take (i := 3) (oi := { dst := some 87, op := Go.Op.move (Go.Operand.tmp 4), type := 38, pos := _, after := #[], guard := none }) (v := ?vf3) rfl (by kernel_rfl) (by kernel_rfl) (by kernel_rfl) (fun _ _ _ h => h) (Or.inl ⟨by rfl, ?hyf3⟩) (by assumption) ?_
          case hyf3 => (intro wz hSw; (try dsimp only at hSw); go_simp; try with_reducible rfl)
          (try simp only [Act.put, List.setIfInBounds_toArray, List.set_cons_zero, List.set_cons_succ])
          refine wpAnyH_take (i := 5) (oi := { dst := some 89, op := Go.Op.load 26 (Go.Operand.tmp 5), type := 26, pos := _, after := #[], guard := none }) (v := ?vf5) rfl (by kernel_rfl) (by kernel_rfl) (by kernel_rfl) (fun _ _ _ h => h) (Or.inl ⟨by rfl, ?hyf5⟩) (by assumption) ?_
          case hyf5 => (intro wz hSw; (try dsimp only at hSw); go_simp; try with_reducible rfl)
          (try simp only [Act.put, List.setIfInBounds_toArray, List.set_cons_zero, List.set_cons_succ])
          refine wpAnyH_take (i := 7) (oi := { dst := some 91, op := Go.Op.load 34 (Go.Operand.tmp 7), type := 34, pos := _, after := #[], guard := none }) (v := ?vf7) rfl (by kernel_rfl) (by kernel_rfl) (by kernel_rfl) (fun _ _ _ h => h) (Or.inl ⟨by rfl, ?hyf7⟩) (by assumption) ?_
          case hyf7 => (intro wz hSw; (try dsimp only at hSw); go_simp; try with_reducible rfl)
          (try simp only [Act.put, List.setIfInBounds_toArray, List.set_cons_zero, List.set_cons_succ])
          refine wpAnyH_take (i := 9) (oi := { dst := some 93, op := Go.Op.move (Go.Operand.tmp 3), type := 23, pos := _, after := #[], guard := none }) (v := ?vf9) rfl (by kernel_rfl) (by kernel_rfl) (by kernel_rfl) (fun _ _ _ h => h) (Or.inl ⟨by rfl, ?hyf9⟩) (by assumption) ?_
          case hyf9 => (intro wz hSw; (try dsimp only at hSw); go_simp; try with_reducible rfl)
          (try simp only [Act.put, List.setIfInBounds_toArray, List.set_cons_zero, List.set_cons_succ])
          refine wpAnyH_take (i := 11) (oi := { dst := some 95, op := Go.Op.move (Go.Operand.tmp 11), type := 55, pos := _, after := #[], guard := none }) (v := ?vf11) rfl (by kernel_rfl) (by kernel_rfl) (by kernel_rfl) (fun _ _ _ h => h) (Or.inl ⟨by rfl, ?hyf11⟩) (by assumption) ?_
          case hyf11 => (intro wz hSw; (try dsimp only at hSw); go_simp; try with_reducible rfl)
          (try simp only [Act.put, List.setIfInBounds_toArray, List.set_cons_zero, List.set_cons_succ])
          refine wpAnyH_ready (rs := [4]) (by kernel_rfl) (by simp) ?_
          refine AllReadyH.cons (o := { dst := some 88, op := Go.Op.call { callee := Go.Callee.value (Go.Operand.func 14), args := #[Go.Operand.tmp 84, Go.Operand.tmp 85, Go.Operand.tmp 86, Go.Operand.tmp 87], argTypes := #[26, 34, 23, 38] }, type := 9, pos := _, after := #[{ on := 0, ground := Go.Ground.data }, { on := 1, ground := Go.Ground.data }, { on := 2, ground := Go.Ground.data }, { on := 3, ground := Go.Ground.data }], guard := none }) rfl (fun K hK => ?_) AllReadyH.nil
          go_simp
          refine Calls.mono (C4.out _ WD.out) ?_; rintro e' w4 ⟨rfl, hb⟩
          have W4 : Hid (Below w.heap.size w w4) := Lib.hid (below2 WD.out hb)
          have CR4 := Lib.hid (CRD.out.later hb)
          have bv0E4 := keepC hb bv0D
          have bv1E4 := keepC hb bv1D
          have bv2E4 := keepC hb bv2D
          have bv3E4 := keepC hb bv3D
          have bv4E4 := keepC hb bv4D
          have bv5E4 := keepC hb bv5D
          have bv6E4 := keepC hb bv6D
          have bu0E4 := keepC hb bu0D
          have bu1E4 := keepC hb bu1D
          have bu2E4 := keepC hb bu2D
          have bu3E4 := keepC hb bu3D
          have bu4E4 := keepC hb bu4D
          have bu5E4 := keepC hb bu5D
          have bu6E4 := keepC hb bu6D
          have bt0E4 := keepC hb bt0D
          have bt1E4 := keepC hb bt1D
          have bt2E4 := keepC hb bt2D
          have bt3E4 := keepC hb bt3D
          clear bv0D bv1D bv2D bv3D bv4D bv5D bv6D bu0D bu1D bu2D bu3D bu4D bu5D bu6D bt0D bt1D bt2D bt3D
          clear hb
          go_wp2_with fail
          refine hK.out _ _ ?_ (fun hHeld => ?_)
          · (try dsimp only); go_keep
          clear hK K
          (try simp only [Act.put, List.setIfInBounds_toArray, List.set_cons_zero, List.set_cons_succ])
          refine wpAnyH_ready (rs := [6]) (by kernel_rfl) (by simp) ?_
          refine AllReadyH.cons (o := { dst := some 90, op := Go.Op.call { callee := Go.Callee.value (Go.Operand.func 18), args := #[Go.Operand.tmp 89], argTypes := #[26] }, type := 46, pos := _, after := #[{ on := 5, ground := Go.Ground.data }, { on := 4, ground := Go.Ground.chain }], guard := none }) rfl (fun K hK => ?_) AllReadyH.nil
          go_simp
          refine Calls.mono (C6.out _ W4.out) ?_; rintro e' w6 ⟨A6, c6, rfl, hr, hb⟩
          have W6 : Hid (Below w.heap.size w w6) := Lib.hid (below2 W4.out hb)
          have CR6 := Lib.hid (CR4.out.later hb)
          have bv0E6 := keepC hb bv0E4
          have bv1E6 := keepC hb bv1E4
          have bv2E6 := keepC hb bv2E4
          have bv3E6 := keepC hb bv3E4
          have bv4E6 := keepC hb bv4E4
          have bv5E6 := keepC hb bv5E4
          have bv6E6 := keepC hb bv6E4
          have bu0E6 := keepC hb bu0E4
          have bu1E6 := keepC hb bu1E4
          have bu2E6 := keepC hb bu2E4
          have bu3E6 := keepC hb bu3E4
          have bu4E6 := keepC hb bu4E4
          have bu5E6 := keepC hb bu5E4
          have bu6E6 := keepC hb bu6E4
          have bt0E6 := keepC hb bt0E4
          have bt1E6 := keepC hb bt1E4
          have bt2E6 := keepC hb bt2E4
          have bt3E6 := keepC hb bt3E4
          clear bv0E4 bv1E4 bv2E4 bv3E4 bv4E4 bv5E4 bv6E4 bu0E4 bu1E4 bu2E4 bu3E4 bu4E4 bu5E4 bu6E4 bt0E4 bt1E4 bt2E4 bt3E4
          have RA6x : Hid (RV w6 V (.agg #[.int .i64 V.k, .int .i64 V.n, .string V.nm, .slice A6 V.args.length c6, .int .i64 V.node, .pointer none, .int .i64 V.at_, .int .i64 0])) := Lib.hid ⟨A6, c6, rfl, BN.out.1, hr.any⟩
          clear hr
          clear hb
          go_wp2_with fail
          refine hK.out _ _ ?_ (fun hHeld => ?_)
          · (try dsimp only); go_keep
          clear hK K
          (try simp only [Act.put, List.setIfInBounds_toArray, List.set_cons_zero, List.set_cons_succ])
          refine wpAnyH_ready (rs := [8]) (by kernel_rfl) (by simp) ?_
          refine AllReadyH.cons (o := { dst := some 92, op := Go.Op.call { callee := Go.Callee.value (Go.Operand.func 24), args := #[Go.Operand.tmp 91], argTypes := #[34] }, type := 60, pos := _, after := #[{ on := 7, ground := Go.Ground.data }, { on := 6, ground := Go.Ground.chain }], guard := none }) rfl (fun K hK => ?_) AllReadyH.nil
          go_simp
          refine Calls.mono (C8.out _ W6.out) ?_; rintro e' w8 ⟨A8, c8, rfl, hr, hb⟩
          have W8 : Hid (Below w.heap.size w w8) := Lib.hid (below2 W6.out hb)
          have CR8 := Lib.hid (CR6.out.later hb)
          have RA8 := Lib.hid (RA6x.out.later hb)
          have bv0E8 := keepC hb bv0E6
          have bv1E8 := keepC hb bv1E6
          have bv2E8 := keepC hb bv2E6
          have bv3E8 := keepC hb bv3E6
          have bv4E8 := keepC hb bv4E6
          have bv5E8 := keepC hb bv5E6
          have bv6E8 := keepC hb bv6E6
          have bu0E8 := keepC hb bu0E6
          have bu1E8 := keepC hb bu1E6
          have bu2E8 := keepC hb bu2E6
          have bu3E8 := keepC hb bu3E6
          have bu4E8 := keepC hb bu4E6
          have bu5E8 := keepC hb bu5E6
          have bu6E8 := keepC hb bu6E6
          have bt0E8 := keepC hb bt0E6
          have bt1E8 := keepC hb bt1E6
          have bt2E8 := keepC hb bt2E6
          have bt3E8 := keepC hb bt3E6
          clear bv0E6 bv1E6 bv2E6 bv3E6 bv4E6 bv5E6 bv6E6 bu0E6 bu1E6 bu2E6 bu3E6 bu4E6 bu5E6 bu6E6 bt0E6 bt1E6 bt2E6 bt3E6
          have RB8x : Hid (RT w8 T (.agg #[.int .i64 T.k, .string T.nm, .int .i64 T.vr, .slice A8 T.args.length c8])) := Lib.hid ⟨A8, c8, rfl, hr.any⟩
          clear hr
          clear hb
          go_wp2_with fail
          refine hK.out _ _ ?_ (fun hHeld => ?_)
          · (try dsimp only); go_keep
          clear hK K
          (try simp only [Act.put, List.setIfInBounds_toArray, List.set_cons_zero, List.set_cons_succ])
          refine wpAnyH_ready (rs := [10]) (by kernel_rfl) (by simp) ?_
          refine AllReadyH.cons (o := { dst := some 94, op := Go.Op.call { callee := Go.Callee.value (Go.Operand.func 25), args := #[Go.Operand.tmp 93], argTypes := #[23] }, type := 43, pos := _, after := #[{ on := 9, ground := Go.Ground.data }, { on := 8, ground := Go.Ground.chain }], guard := none }) rfl (fun K hK => ?_) AllReadyH.nil
          go_simp
          refine Calls.mono (C10.out _ W8.out) ?_; rintro e' w10 ⟨A10, c10, rfl, hr, hb⟩
          have W10 : Hid (Below w.heap.size w w10) := Lib.hid (below2 W8.out hb)
          have CR10 := Lib.hid (CR8.out.later hb)
          have RA10 := Lib.hid (RA8.out.later hb)
          have RB10 := Lib.hid (RB8x.out.later hb)
          have bv0E10 := keepC hb bv0E8
          have bv1E10 := keepC hb bv1E8
          have bv2E10 := keepC hb bv2E8
          have bv3E10 := keepC hb bv3E8
          have bv4E10 := keepC hb bv4E8
          have bv5E10 := keepC hb bv5E8
          have bv6E10 := keepC hb bv6E8
          have bu0E10 := keepC hb bu0E8
          have bu1E10 := keepC hb bu1E8
          have bu2E10 := keepC hb bu2E8
          have bu3E10 := keepC hb bu3E8
          have bu4E10 := keepC hb bu4E8
          have bu5E10 := keepC hb bu5E8
          have bu6E10 := keepC hb bu6E8
          have bt0E10 := keepC hb bt0E8
          have bt1E10 := keepC hb bt1E8
          have bt2E10 := keepC hb bt2E8
          have bt3E10 := keepC hb bt3E8
          clear bv0E8 bv1E8 bv2E8 bv3E8 bv4E8 bv5E8 bv6E8 bu0E8 bu1E8 bu2E8 bu3E8 bu4E8 bu5E8 bu6E8 bt0E8 bt1E8 bt2E8 bt3E8
          have RC10x : Hid (RRow w10 (fun _ => True) A10 cells) := Lib.hid hr.any
          clear hr
          clear hb
          go_wp2_with fail
          refine hK.out _ _ ?_ (fun hHeld => ?_)
          · (try dsimp only); go_keep
          clear hK K
          (try simp only [Act.put, List.setIfInBounds_toArray, List.set_cons_zero, List.set_cons_succ])
          refine wpAnyH_ready (rs := [12]) (by kernel_rfl) (by simp) ?_
          refine AllReadyH.cons (o := { dst := some 96, op := Go.Op.call { callee := Go.Callee.value (Go.Operand.func 23), args := #[Go.Operand.tmp 90, Go.Operand.tmp 92, Go.Operand.tmp 94, Go.Operand.tmp 95], argTypes := #[46, 60, 43, 55] }, type := 9, pos := _, after := #[{ on := 6, ground := Go.Ground.data }, { on := 8, ground := Go.Ground.data }, { on := 10, ground := Go.Ground.data }, { on := 11, ground := Go.Ground.data }, { on := 10, ground := Go.Ground.chain }], guard := none }) rfl (fun K hK => ?_) AllReadyH.nil
          go_simp
          refine Calls.mono (C12.out _ _ _ (.bool true) _ _ RA10.out RB10.out RC10x.out CR10.out) ?_; rintro e' w12 ⟨rfl, hb⟩
          have W12 : Hid (Below w.heap.size w w12) := Lib.hid (below2 W10.out hb)
          have CR12 := Lib.hid (CR10.out.later hb)
          have RA12 := Lib.hid (RA10.out.later hb)
          have RB12 := Lib.hid (RB10.out.later hb)
          have RC12 := Lib.hid (RC10x.out.later hb)
          have bv0E12 := keepC hb bv0E10
          have bv1E12 := keepC hb bv1E10
          have bv2E12 := keepC hb bv2E10
          have bv3E12 := keepC hb bv3E10
          have bv4E12 := keepC hb bv4E10
          have bv5E12 := keepC hb bv5E10
          have bv6E12 := keepC hb bv6E10
          have bu0E12 := keepC hb bu0E10
          have bu1E12 := keepC hb bu1E10
          have bu2E12 := keepC hb bu2E10
          have bu3E12 := keepC hb bu3E10
          have bu4E12 := keepC hb bu4E10
          have bu5E12 := keepC hb bu5E10
          have bu6E12 := keepC hb bu6E10
          have bt0E12 := keepC hb bt0E10
          have bt1E12 := keepC hb bt1E10
          have bt2E12 := keepC hb bt2E10
          have bt3E12 := keepC hb bt3E10
          clear bv0E10 bv1E10 bv2E10 bv3E10 bv4E10 bv5E10 bv6E10 bu0E10 bu1E10 bu2E10 bu3E10 bu4E10 bu5E10 bu6E10 bt0E10 bt1E10 bt2E10 bt3E10
          clear hb
          go_wp2_with fail
          refine hK.out _ _ ?_ (fun hHeld => ?_)
          · (try dsimp only); go_keep
          clear hK K
          (try simp only [Act.put, List.setIfInBounds_toArray, List.set_cons_zero, List.set_cons_succ])
          refine wpAnyH_take (i := 13) (oi := { dst := some 97, op := Go.Op.binOp Go.BinOp.eql 9 (Go.Operand.tmp 88) (Go.Operand.tmp 96) 9, type := 4, pos := _, after := #[{ on := 4, ground := Go.Ground.data }, { on := 12, ground := Go.Ground.data }], guard := none }) (v := ?vf13) rfl (by kernel_rfl) (by kernel_rfl) (by kernel_rfl) (fun _ _ _ h => h) (Or.inl ⟨by rfl, ?hyf13⟩) (by assumption) ?_
          case hyf13 => (intro wz hSw; (try dsimp only at hSw); go_simp; try with_reducible rfl)
          (try simp only [Act.put, List.setIfInBounds_toArray, List.set_cons_zero, List.set_cons_succ])
          refine wpAnyH_take (i := 14) (oi := { dst := some 98, op := Go.Op.move (Go.Operand.tmp 97), type := 4, pos := _, after := #[{ on := 13, ground := Go.Ground.data }, { on := 12, ground := Go.Ground.chain }], guard := none }) (v := ?vf14) rfl (by kernel_rfl) (by kernel_rfl) (by kernel_rfl) (fun _ _ _ h => h) (Or.inl ⟨by rfl, ?hyf14⟩) (by assumption) ?_
          case hyf14 => (intro wz hSw; (try dsimp only at hSw); go_simp; try with_reducible rfl)
          (try simp only [Act.put, List.setIfInBounds_toArray, List.set_cons_zero, List.set_cons_succ])
          refine wpAnyH_take (i := 15) (oi := { dst := some 99, op := Go.Op.load 26 (Go.Operand.tmp 5), type := 26, pos := _, after := #[{ on := 14, ground := Go.Ground.guard }], guard := some (14, true) }) (v := ?vf15) rfl (by kernel_rfl) (by kernel_rfl) (by kernel_rfl) (fun _ _ _ h => h) (Or.inl ⟨by rfl, ?hyf15⟩) (by assumption) ?_
          case hyf15 => (intro wz hSw; (try dsimp only at hSw); go_simp; try with_reducible rfl)
          (try simp only [Act.put, List.setIfInBounds_toArray, List.set_cons_zero, List.set_cons_succ])
          refine wpAnyH_take (i := 16) (oi := { dst := some 100, op := Go.Op.load 26 (Go.Operand.tmp 6), type := 26, pos := _, after := #[{ on := 14, ground := Go.Ground.guard }], guard := some (14, true) }) (v := ?vf16) rfl (by kernel_rfl) (by kernel_rfl) (by kernel_rfl) (fun _ _ _ h => h) (Or.inl ⟨by rfl, ?hyf16⟩) (by assumption) ?_
          case hyf16 => (intro wz hSw; (try dsimp only at hSw); go_simp; try with_reducible rfl)
          (try simp only [Act.put, List.setIfInBounds_toArray, List.set_cons_zero, List.set_cons_succ])
          refine wpAnyH_take (i := 18) (oi := { dst := some 102, op := Go.Op.load 26 (Go.Operand.tmp 5), type := 26, pos := _, after := #[{ on := 14, ground := Go.Ground.guard }], guard := some (14, true) }) (v := ?vf18) rfl (by kernel_rfl) (by kernel_rfl) (by kernel_rfl) (fun _ _ _ h => h) (Or.inl ⟨by rfl, ?hyf18⟩) (by assumption) ?_
          case hyf18 => (intro wz hSw; (try dsimp only at hSw); go_simp; try with_reducible rfl)
          (try simp only [Act.put, List.setIfInBounds_toArray, List.set_cons_zero, List.set_cons_succ])
          refine wpAnyH_take (i := 20) (oi := { dst := some 104, op := Go.Op.load 26 (Go.Operand.tmp 6), type := 26, pos := _, after := #[{ on := 14, ground := Go.Ground.guard }], guard := some (14, true) }) (v := ?vf20) rfl (by kernel_rfl) (by kernel_rfl) (by kernel_rfl) (fun _ _ _ h => h) (Or.inl ⟨by rfl, ?hyf20⟩) (by assumption) ?_
          case hyf20 => (intro wz hSw; (try dsimp only at hSw); go_simp; try with_reducible rfl)
          (try simp only [Act.put, List.setIfInBounds_toArray, List.set_cons_zero, List.set_cons_succ])
          refine wpAnyH_ready (rs := [17]) (by kernel_rfl) (by simp) ?_
          refine AllReadyH.cons (o := { dst := some 101, op := Go.Op.call { callee := Go.Callee.value (Go.Operand.func 15), args := #[Go.Operand.tmp 99, Go.Operand.tmp 100], argTypes := #[26, 26] }, type := 4, pos := _, after := #[{ on := 15, ground := Go.Ground.data }, { on := 16, ground := Go.Ground.data }, { on := 14, ground := Go.Ground.chain }, { on := 14, ground := Go.Ground.guard }], guard := some (14, true) }) rfl (fun K hK => ?_) AllReadyH.nil
          go_simp
          refine Calls.mono (C17.out _ W12.out) ?_; rintro e' w17 ⟨rfl, hb⟩
          have W17 : Hid (Below w.heap.size w w17) := Lib.hid (below2 W12.out hb)
          have CR17 := Lib.hid (CR12.out.later hb)
          have RA17 := Lib.hid (RA12.out.later hb)
          have RB17 := Lib.hid (RB12.out.later hb)
          have RC17 := Lib.hid (RC12.out.later hb)
          have bv0E17 := keepC hb bv0E12
          have bv1E17 := keepC hb bv1E12
          have bv2E17 := keepC hb bv2E12
          have bv3E17 := keepC hb bv3E12
          have bv4E17 := keepC hb bv4E12
          have bv5E17 := keepC hb bv5E12
          have bv6E17 := keepC hb bv6E12
          have bu0E17 := keepC hb bu0E12
          have bu1E17 := keepC hb bu1E12
          have bu2E17 := keepC hb bu2E12
          have bu3E17 := keepC hb bu3E12
          have bu4E17 := keepC hb bu4E12
          have bu5E17 := keepC hb bu5E12
          have bu6E17 := keepC hb bu6E12
          have bt0E17 := keepC hb bt0E12
          have bt1E17 := keepC hb bt1E12
          have bt2E17 := keepC hb bt2E12
          have bt3E17 := keepC hb bt3E12
          clear bv0E12 bv1E12 bv2E12 bv3E12 bv4E12 bv5E12 bv6E12 bu0E12 bu1E12 bu2E12 bu3E12 bu4E12 bu5E12 bu6E12 bt0E12 bt1E12 bt2E12 bt3E12
          clear hb
          go_wp2_with fail
          refine hK.out _ _ ?_ (fun hHeld => ?_)
          · (try dsimp only); go_keep
          clear hK K
          (try simp only [Act.put, List.setIfInBounds_toArray, List.set_cons_zero, List.set_cons_succ])
          refine wpAnyH_ready (rs := [19]) (by kernel_rfl) (by simp) ?_
          refine AllReadyH.cons (o := { dst := some 103, op := Go.Op.call { callee := Go.Callee.value (Go.Operand.func 18), args := #[Go.Operand.tmp 102], argTypes := #[26] }, type := 46, pos := _, after := #[{ on := 18, ground := Go.Ground.data }, { on := 17, ground := Go.Ground.chain }, { on := 14, ground := Go.Ground.guard }], guard := some (14, true) }) rfl (fun K hK => ?_) AllReadyH.nil
          go_simp
          refine Calls.mono (C6.out _ W17.out) ?_; rintro e' w19 ⟨A19, c19, rfl, hr, hb⟩
          have W19 : Hid (Below w.heap.size w w19) := Lib.hid (below2 W17.out hb)
          have CR19 := Lib.hid (CR17.out.later hb)
          have RA19 := Lib.hid (RA17.out.later hb)
          have RB19 := Lib.hid (RB17.out.later hb)
          have RC19 := Lib.hid (RC17.out.later hb)
          have bv0E19 := keepC hb bv0E17
          have bv1E19 := keepC hb bv1E17
          have bv2E19 := keepC hb bv2E17
          have bv3E19 := keepC hb bv3E17
          have bv4E19 := keepC hb bv4E17
          have bv5E19 := keepC hb bv5E17
          have bv6E19 := keepC hb bv6E17
          have bu0E19 := keepC hb bu0E17
          have bu1E19 := keepC hb bu1E17
          have bu2E19 := keepC hb bu2E17
          have bu3E19 := keepC hb bu3E17
          have bu4E19 := keepC hb bu4E17
          have bu5E19 := keepC hb bu5E17
          have bu6E19 := keepC hb bu6E17
          have bt0E19 := keepC hb bt0E17
          have bt1E19 := keepC hb bt1E17
          have bt2E19 := keepC hb bt2E17
          have bt3E19 := keepC hb bt3E17
          clear bv0E17 bv1E17 bv2E17 bv3E17 bv4E17 bv5E17 bv6E17 bu0E17 bu1E17 bu2E17 bu3E17 bu4E17 bu5E17 bu6E17 bt0E17 bt1E17 bt2E17 bt3E17
          have RD19x : Hid (RV w19 V (.agg #[.int .i64 V.k, .int .i64 V.n, .string V.nm, .slice A19 V.args.length c19, .int .i64 V.node, .pointer none, .int .i64 V.at_, .int .i64 0])) := Lib.hid ⟨A19, c19, rfl, BN.out.1, hr.any⟩
          clear hr
          clear hb
          go_wp2_with fail
          refine hK.out _ _ ?_ (fun hHeld => ?_)
          · (try dsimp only); go_keep
          clear hK K
          (try simp only [Act.put, List.setIfInBounds_toArray, List.set_cons_zero, List.set_cons_succ])
          refine wpAnyH_ready (rs := [21]) (by kernel_rfl) (by simp) ?_
          refine AllReadyH.cons (o := { dst := some 105, op := Go.Op.call { callee := Go.Callee.value (Go.Operand.func 18), args := #[Go.Operand.tmp 104], argTypes := #[26] }, type := 46, pos := _, after := #[{ on := 20, ground := Go.Ground.data }, { on := 19, ground := Go.Ground.chain }, { on := 14, ground := Go.Ground.guard }], guard := some (14, true) }) rfl (fun K hK => ?_) AllReadyH.nil
          go_simp
          refine Calls.mono (C21.out _ W19.out) ?_; rintro e' w21 ⟨A21, c21, rfl, hr, hb⟩
          have W21 : Hid (Below w.heap.size w w21) := Lib.hid (below2 W19.out hb)
          have CR21 := Lib.hid (CR19.out.later hb)
          have RA21 := Lib.hid (RA19.out.later hb)
          have RB21 := Lib.hid (RB19.out.later hb)
          have RC21 := Lib.hid (RC19.out.later hb)
          have RD21 := Lib.hid (RD19x.out.later hb)
          have bv0E21 := keepC hb bv0E19
          have bv1E21 := keepC hb bv1E19
          have bv2E21 := keepC hb bv2E19
          have bv3E21 := keepC hb bv3E19
          have bv4E21 := keepC hb bv4E19
          have bv5E21 := keepC hb bv5E19
          have bv6E21 := keepC hb bv6E19
          have bu0E21 := keepC hb bu0E19
          have bu1E21 := keepC hb bu1E19
          have bu2E21 := keepC hb bu2E19
          have bu3E21 := keepC hb bu3E19
          have bu4E21 := keepC hb bu4E19
          have bu5E21 := keepC hb bu5E19
          have bu6E21 := keepC hb bu6E19
          have bt0E21 := keepC hb bt0E19
          have bt1E21 := keepC hb bt1E19
          have bt2E21 := keepC hb bt2E19
          have bt3E21 := keepC hb bt3E19
          clear bv0E19 bv1E19 bv2E19 bv3E19 bv4E19 bv5E19 bv6E19 bu0E19 bu1E19 bu2E19 bu3E19 bu4E19 bu5E19 bu6E19 bt0E19 bt1E19 bt2E19 bt3E19
          have RE21x : Hid (RV w21 U (.agg #[.int .i64 U.k, .int .i64 U.n, .string U.nm, .slice A21 U.args.length c21, .int .i64 U.node, .pointer none, .int .i64 U.at_, .int .i64 0])) := Lib.hid ⟨A21, c21, rfl, BN.out.2, hr.any⟩
          clear hr
          clear hb
          go_wp2_with fail
          refine hK.out _ _ ?_ (fun hHeld => ?_)
          · (try dsimp only); go_keep
          clear hK K
          (try simp only [Act.put, List.setIfInBounds_toArray, List.set_cons_zero, List.set_cons_succ])
          refine wpAnyH_ready (rs := [22]) (by kernel_rfl) (by simp) ?_
          refine AllReadyH.cons (o := { dst := some 106, op := Go.Op.call { callee := Go.Callee.value (Go.Operand.func 17), args := #[Go.Operand.tmp 103, Go.Operand.tmp 105], argTypes := #[46, 46] }, type := 4, pos := _, after := #[{ on := 19, ground := Go.Ground.data }, { on := 21, ground := Go.Ground.data }, { on := 21, ground := Go.Ground.chain }, { on := 14, ground := Go.Ground.guard }], guard := some (14, true) }) rfl (fun K hK => ?_) AllReadyH.nil
          go_simp
          refine Calls.mono (C22.out _ _ _ RD21.out RE21x.out) ?_; rintro e' w22 ⟨rfl, hb⟩
          have W22 : Hid (Below w.heap.size w w22) := Lib.hid (below2 W21.out hb)
          have CR22 := Lib.hid (CR21.out.later hb)
          have RA22 := Lib.hid (RA21.out.later hb)
          have RB22 := Lib.hid (RB21.out.later hb)
          have RC22 := Lib.hid (RC21.out.later hb)
          have RD22 := Lib.hid (RD21.out.later hb)
          have RE22 := Lib.hid (RE21x.out.later hb)
          have bv0E22 := keepC hb bv0E21
          have bv1E22 := keepC hb bv1E21
          have bv2E22 := keepC hb bv2E21
          have bv3E22 := keepC hb bv3E21
          have bv4E22 := keepC hb bv4E21
          have bv5E22 := keepC hb bv5E21
          have bv6E22 := keepC hb bv6E21
          have bu0E22 := keepC hb bu0E21
          have bu1E22 := keepC hb bu1E21
          have bu2E22 := keepC hb bu2E21
          have bu3E22 := keepC hb bu3E21
          have bu4E22 := keepC hb bu4E21
          have bu5E22 := keepC hb bu5E21
          have bu6E22 := keepC hb bu6E21
          have bt0E22 := keepC hb bt0E21
          have bt1E22 := keepC hb bt1E21
          have bt2E22 := keepC hb bt2E21
          have bt3E22 := keepC hb bt3E21
          clear bv0E21 bv1E21 bv2E21 bv3E21 bv4E21 bv5E21 bv6E21 bu0E21 bu1E21 bu2E21 bu3E21 bu4E21 bu5E21 bu6E21 bt0E21 bt1E21 bt2E21 bt3E21
          clear hb
          go_wp2_with fail
          refine hK.out _ _ ?_ (fun hHeld => ?_)
          · (try dsimp only); go_keep
          clear hK K
          (try simp only [Act.put, List.setIfInBounds_toArray, List.set_cons_zero, List.set_cons_succ])
          refine wpAnyH_take (i := 23) (oi := { dst := some 107, op := Go.Op.binOp Go.BinOp.eql 4 (Go.Operand.tmp 101) (Go.Operand.tmp 106) 4, type := 4, pos := _, after := #[{ on := 17, ground := Go.Ground.data }, { on := 22, ground := Go.Ground.data }, { on := 14, ground := Go.Ground.guard }], guard := some (14, true) }) (v := ?vf23) rfl (by kernel_rfl) (by kernel_rfl) (by kernel_rfl) (fun _ _ _ h => h) (Or.inl ⟨by rfl, ?hyf23⟩) (by assumption) ?_
          case hyf23 => (intro wz hSw; (try dsimp only at hSw); go_simp; try with_reducible rfl)
          (try simp only [Act.put, List.setIfInBounds_toArray, List.set_cons_zero, List.set_cons_succ])
          refine wpAnyH_take (i := 24) (oi := { dst := some 108, op := Go.Op.pick (Go.Operand.tmp 98) (Go.Operand.tmp 107) (Go.Operand.const (Go.Value.bool false)), type := 4, pos := _, after := #[{ on := 14, ground := Go.Ground.data }, { on := 23, ground := Go.Ground.data }], guard := none }) (v := ?vf24) rfl (by kernel_rfl) (by kernel_rfl) (by kernel_rfl) (fun _ _ _ h => h) (Or.inl ⟨by rfl, ?hyf24⟩) (by assumption) ?_
          case hyf24 => (intro wz hSw; (try dsimp only at hSw); go_simp; try with_reducible rfl)
          (try simp only [Act.put, List.setIfInBounds_toArray, List.set_cons_zero, List.set_cons_succ])
          refine wpAnyH_take (i := 25) (oi := { dst := some 109, op := Go.Op.move (Go.Operand.tmp 108), type := 4, pos := _, after := #[{ on := 24, ground := Go.Ground.data }, { on := 22, ground := Go.Ground.chain }], guard := none }) (v := ?vf25) rfl (by kernel_rfl) (by kernel_rfl) (by kernel_rfl) (fun _ _ _ h => h) (Or.inl ⟨by rfl, ?hyf25⟩) (by assumption) ?_
          case hyf25 => (intro wz hSw; (try dsimp only at hSw); go_simp; try with_reducible rfl)
          (try simp only [Act.put, List.setIfInBounds_toArray, List.set_cons_zero, List.set_cons_succ])
          refine wpAnyH_take (i := 26) (oi := { dst := some 110, op := Go.Op.load 34 (Go.Operand.tmp 7), type := 34, pos := _, after := #[{ on := 25, ground := Go.Ground.guard }], guard := some (25, true) }) (v := ?vf26) rfl (by kernel_rfl) (by kernel_rfl) (by kernel_rfl) (fun _ _ _ h => h) (Or.inl ⟨by rfl, ?hyf26⟩) (by assumption) ?_
          case hyf26 => (intro wz hSw; (try dsimp only at hSw); go_simp; try with_reducible rfl)
          (try simp only [Act.put, List.setIfInBounds_toArray, List.set_cons_zero, List.set_cons_succ])
          refine wpAnyH_ready (rs := [27]) (by kernel_rfl) (by simp) ?_
          refine AllReadyH.cons (o := { dst := some 111, op := Go.Op.call { callee := Go.Callee.value (Go.Operand.func 24), args := #[Go.Operand.tmp 110], argTypes := #[34] }, type := 60, pos := _, after := #[{ on := 26, ground := Go.Ground.data }, { on := 25, ground := Go.Ground.chain }, { on := 25, ground := Go.Ground.guard }], guard := some (25, true) }) rfl (fun K hK => ?_) AllReadyH.nil
          go_simp
          refine Calls.mono (C8.out _ W22.out) ?_; rintro e' w27 ⟨A27, c27, rfl, hr, hb⟩
          have W27 : Hid (Below w.heap.size w w27) := Lib.hid (below2 W22.out hb)
          have CR27 := Lib.hid (CR22.out.later hb)
          have RA27 := Lib.hid (RA22.out.later hb)
          have RB27 := Lib.hid (RB22.out.later hb)
          have RC27 := Lib.hid (RC22.out.later hb)
          have RD27 := Lib.hid (RD22.out.later hb)
          have RE27 := Lib.hid (RE22.out.later hb)
          have bv0E27 := keepC hb bv0E22
          have bv1E27 := keepC hb bv1E22
          have bv2E27 := keepC hb bv2E22
          have bv3E27 := keepC hb bv3E22
          have bv4E27 := keepC hb bv4E22
          have bv5E27 := keepC hb bv5E22
          have bv6E27 := keepC hb bv6E22
          have bu0E27 := keepC hb bu0E22
          have bu1E27 := keepC hb bu1E22
          have bu2E27 := keepC hb bu2E22
          have bu3E27 := keepC hb bu3E22
          have bu4E27 := keepC hb bu4E22
          have bu5E27 := keepC hb bu5E22
          have bu6E27 := keepC hb bu6E22
          have bt0E27 := keepC hb bt0E22
          have bt1E27 := keepC hb bt1E22
          have bt2E27 := keepC hb bt2E22
          have bt3E27 := keepC hb bt3E22
          clear bv0E22 bv1E22 bv2E22 bv3E22 bv4E22 bv5E22 bv6E22 bu0E22 bu1E22 bu2E22 bu3E22 bu4E22 bu5E22 bu6E22 bt0E22 bt1E22 bt2E22 bt3E22
          have RF27x : Hid (RT w27 T (.agg #[.int .i64 T.k, .string T.nm, .int .i64 T.vr, .slice A27 T.args.length c27])) := Lib.hid ⟨A27, c27, rfl, hr.any⟩
          clear hr
          clear hb
          go_wp2_with fail
          refine hK.out _ _ ?_ (fun hHeld => ?_)
          · (try dsimp only); go_keep
          clear hK K
          (try simp only [Act.put, List.setIfInBounds_toArray, List.set_cons_zero, List.set_cons_succ])
          refine wpAnyH_ready (rs := [28]) (by kernel_rfl) (by simp) ?_
          refine AllReadyH.cons (o := { dst := some 112, op := Go.Op.call { callee := Go.Callee.value (Go.Operand.func 26), args := #[Go.Operand.tmp 111], argTypes := #[60] }, type := 3, pos := _, after := #[{ on := 27, ground := Go.Ground.data }, { on := 27, ground := Go.Ground.chain }, { on := 25, ground := Go.Ground.guard }], guard := some (25, true) }) rfl (fun K hK => ?_) AllReadyH.nil
          go_simp
          refine Calls.mono (C28.out _ _ RF27x.out) ?_; rintro e' w28 ⟨⟨n, rfl, hn1, hn5⟩, hb⟩
          have W28 : Hid (Below w.heap.size w w28) := Lib.hid (below2 W27.out hb)
          have CR28 := Lib.hid (CR27.out.later hb)
          have RA28 := Lib.hid (RA27.out.later hb)
          have RB28 := Lib.hid (RB27.out.later hb)
          have RC28 := Lib.hid (RC27.out.later hb)
          have RD28 := Lib.hid (RD27.out.later hb)
          have RE28 := Lib.hid (RE27.out.later hb)
          have RF28 := Lib.hid (RF27x.out.later hb)
          have bv0E28 := keepC hb bv0E27
          have bv1E28 := keepC hb bv1E27
          have bv2E28 := keepC hb bv2E27
          have bv3E28 := keepC hb bv3E27
          have bv4E28 := keepC hb bv4E27
          have bv5E28 := keepC hb bv5E27
          have bv6E28 := keepC hb bv6E27
          have bu0E28 := keepC hb bu0E27
          have bu1E28 := keepC hb bu1E27
          have bu2E28 := keepC hb bu2E27
          have bu3E28 := keepC hb bu3E27
          have bu4E28 := keepC hb bu4E27
          have bu5E28 := keepC hb bu5E27
          have bu6E28 := keepC hb bu6E27
          have bt0E28 := keepC hb bt0E27
          have bt1E28 := keepC hb bt1E27
          have bt2E28 := keepC hb bt2E27
          have bt3E28 := keepC hb bt3E27
          clear bv0E27 bv1E27 bv2E27 bv3E27 bv4E27 bv5E27 bv6E27 bu0E27 bu1E27 bu2E27 bu3E27 bu4E27 bu5E27 bu6E27 bt0E27 bt1E27 bt2E27 bt3E27
          have dn := decide_eq_true (show (0 : Int) < n by omega)
          clear hb
          go_wp2_with fail
          refine hK.out _ _ ?_ (fun hHeld => ?_)
          · (try dsimp only); go_keep
          clear hK K
          (try simp only [Act.put, List.setIfInBounds_toArray, List.set_cons_zero, List.set_cons_succ])
          refine wpAnyH_take (i := 29) (oi := { dst := some 113, op := Go.Op.binOp Go.BinOp.gtr 3 (Go.Operand.tmp 112) (Go.Operand.const (Go.Value.int Go.IntKind.i64 0)) 3, type := 4, pos := _, after := #[{ on := 28, ground := Go.Ground.data }, { on := 25, ground := Go.Ground.guard }], guard := some (25, true) }) (v := ?vf29) rfl (by kernel_rfl) (by kernel_rfl) (by kernel_rfl) (fun _ _ _ h => h) (Or.inl ⟨by rfl, ?hyf29⟩) (by assumption) ?_
          case hyf29 => (intro wz hSw; (try dsimp only at hSw); go_simp; try with_reducible rfl)
          (try simp only [Act.put, List.setIfInBounds_toArray, List.set_cons_zero, List.set_cons_succ])
          refine wpAnyH_take (i := 30) (oi := { dst := some 114, op := Go.Op.pick (Go.Operand.tmp 109) (Go.Operand.tmp 113) (Go.Operand.const (Go.Value.bool false)), type := 4, pos := _, after := #[{ on := 25, ground := Go.Ground.data }, { on := 29, ground := Go.Ground.data }], guard := none }) (v := ?vf30) rfl (by kernel_rfl) (by kernel_rfl) (by kernel_rfl) (fun _ _ _ h => h) (Or.inl ⟨by rfl, ?hyf30⟩) (by assumption) ?_
          case hyf30 => (intro wz hSw; (try dsimp only at hSw); go_simp; try with_reducible rfl)
          (try simp only [Act.put, List.setIfInBounds_toArray, List.set_cons_zero, List.set_cons_succ])
          refine wpAnyH_take (i := 31) (oi := { dst := some 10, op := Go.Op.assign (Go.Operand.tmp 114), type := 4, pos := _, after := #[{ on := 30, ground := Go.Ground.data }, { on := 28, ground := Go.Ground.chain }, { on := 0, ground := Go.Ground.phase }, { on := 1, ground := Go.Ground.phase }, { on := 2, ground := Go.Ground.phase }, { on := 3, ground := Go.Ground.phase }, { on := 4, ground := Go.Ground.phase }, { on := 5, ground := Go.Ground.phase }, { on := 6, ground := Go.Ground.phase }, { on := 7, ground := Go.Ground.phase }, { on := 8, ground := Go.Ground.phase }, { on := 9, ground := Go.Ground.phase }, { on := 10, ground := Go.Ground.phase }, { on := 11, ground := Go.Ground.phase }, { on := 12, ground := Go.Ground.phase }, { on := 13, ground := Go.Ground.phase }, { on := 14, ground := Go.Ground.phase }, { on := 15, ground := Go.Ground.phase }, { on := 16, ground := Go.Ground.phase }, { on := 17, ground := Go.Ground.phase }, { on := 18, ground := Go.Ground.phase }, { on := 19, ground := Go.Ground.phase }, { on := 20, ground := Go.Ground.phase }, { on := 21, ground := Go.Ground.phase }, { on := 22, ground := Go.Ground.phase }, { on := 23, ground := Go.Ground.phase }, { on := 24, ground := Go.Ground.phase }, { on := 25, ground := Go.Ground.phase }, { on := 26, ground := Go.Ground.phase }, { on := 27, ground := Go.Ground.phase }, { on := 28, ground := Go.Ground.phase }, { on := 29, ground := Go.Ground.phase }, { on := 30, ground := Go.Ground.phase }], guard := none }) (v := ?vf31) rfl (by kernel_rfl) (by kernel_rfl) (by kernel_rfl) (fun _ _ _ h => h) (Or.inl ⟨by rfl, ?hyf31⟩) (by assumption) ?_
          case hyf31 => (intro wz hSw; (try dsimp only at hSw); go_simp; try with_reducible rfl)
          (try simp only [Act.put, List.setIfInBounds_toArray, List.set_cons_zero, List.set_cons_succ])
          refine wpAnyH_done (by kernel_rfl) ?_ _
          go_wp2
          go_ret
          exact ⟨rfl, W28.out⟩
end Go.Proofs.YtclilpabdcdeoaaDoor
