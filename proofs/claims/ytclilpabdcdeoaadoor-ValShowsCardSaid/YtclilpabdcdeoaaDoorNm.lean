import Derived.Test.YtclilpabdcdeoaaDoorBl
import Derived.Test.YtclilpabdcdeoaaDoorShelf
import Derived.Lib.ItoaLen
namespace Go.Proofs.YtclilpabdcdeoaaDoor
open Go.ChangeShapes Go.WideShapes Go.ChangeAt Go.RowKit
set_option linter.unusedVariables false
def numT (z : Int) : ByteArray := ⟨(Lib.itoa z).toArray⟩
theorem RS.wrote2 {w0 w w1 : World} {R : Nat} {cs ks : Value} {t : ByteArray} {A : Option Addr} {n cap : Nat} {A' : Option Addr} {n' cap' : Nat} (hb : Below w0.heap.size w0 w) (hR : w0.heap.size ≤ R) (hRd : w.heap[R]? = some (.cells #[cs, ks, .slice A n cap] 79 (0, 0)))
    (own1 : w1.ownsRow (R + 1) 5 1 (.slice A' n' cap') n' (Lib.strCells t)) (hb1 : Below (R + 1) w w1) (ok : Lib.OthersKept 5 none w w1) :
    RS w0 (w1.setCell ⟨R, 2, none⟩ (.slice A' n' cap')) R cs ks t ∧ Kp R w (w1.setCell ⟨R, 2, none⟩ (.slice A' n' cap')) ∧ w1.cell? ⟨R, 2, none⟩ = some (.slice A n cap) ∧ w1.frozen? ⟨R, 2, none⟩ = false := by
  have K1 : Kp R w w1 := fun k c t ht _ h => ok k _ h (by simp) (fun c' fz e => by injection e with _ e; exact ht e)
  have R1 : w1.heap[R]? = some (.cells #[cs, ks, .slice A n cap] 79 (0, 0)) := (hb1.block R (by omega)).trans hRd
  have hRne : (Value.slice A' n' cap').ownBlock ≠ some R := own_type own1 (by decide) R1
  refine ⟨⟨?_, hR, A', n', cap', ?_, ?_⟩, fun k c t ht hk hx => ?_, by simp [World.cell?, R1], by simp [World.frozen?, R1]⟩
  · exact (hb.trans (hb1.mono (by omega))).setCell (p := ⟨R, 2, none⟩) hR _
  · simp [World.setCell, Array.getElem?_modify, R1]
  · exact ownsRow_setCell_other own1 (a := ⟨R, 2, none⟩) hRne (.slice A' n' cap')
  · have := K1 k c t ht hk hx
    simp only [World.setCell]; rw [Array.getElem?_modify, if_neg (fun e => hk e.symm)]; exact this
def PowTab (w0 : World) : Prop := Lib.TabBelow Tryd.prog w0.heap.size w0 "internal/strconv.uint64pow10" .u64 Lib.pow10Tab
/-- a number written into a row. -/
def Wrote2 (w w' : World) (B : Nat) (s : ByteArray) (e : Ending) : Prop := ∃ A' n' cap', e = .returned (.slice A' n' cap') ∧ w'.ownsRow B 5 1 (.slice A' n' cap') n' (Lib.strCells s) ∧ Below B w w' ∧ Lib.OthersKept 5 none w w'
theorem num36 {w0 w : World} {R : Nat} (z : Int) (hT : PowTab w0) (hb : Below w0.heap.size w0 w) (hR : w0.heap.size ≤ R) {A : Option Addr} {n cap : Nat} {s : ByteArray} (own : w.ownsRow (R + 1) 5 1 (.slice A n cap) n (Lib.strCells s)) (hn : n ≤ 1000000) (hB : R + 1 ≤ w.heap.size) (h0 : -9223372036854775808 ≤ z) (h1 : z ≤ 9223372036854775807) :
    Calls Tryd.prog 36 #[.slice A n cap, .int .i64 z, .int .i64 10] w fun e w' => Wrote2 w w' (R + 1) (s ++ numT z) e := by
  refine (Tryd.strconv_AppendInt_10 (R + 1) n z h0 h1 _ _ w own hB (by omega) (fun w' hw' => hT w' (hb.trans (hw'.mono (by omega))))).mono ?_
  rintro e w' ⟨v', rfl, own', hb', ok⟩
  obtain ⟨A', cap', rfl⟩ := own_form own'
  exact ⟨A', _, cap', rfl, by rw [strCells_app]; exact own', hb', ok⟩
set_option maxRecDepth 100000 in
set_option maxHeartbeats 4000000 in
theorem value_num {w0 w : World} {R vb vo : Nat} {cs ks : Value} {s nm : ByteArray} {z wi vr : Int} {A0 : Option Addr} {n0 c0 : Nat} (h : RS w0 w R cs ks s) (hT : PowTab w0) (hs : s.size ≤ 900000)
    (hv : ∀ O, (w.alloc O).cell? ⟨vb, vo, none⟩ = some (.int .i64 1)) (hv1 : ∀ O, (w.alloc O).cell? ⟨vb, vo + 1, none⟩ = some (.int .i64 z)) (hw : wi < 50) (h0 : -9223372036854775808 ≤ z) (h1 : z ≤ 9223372036854775807) :
    Calls Tryd.prog 31 #[.pointer (some ⟨R, 0, none⟩), .pointer (some ⟨vb, vo, none⟩), .agg #[.int .i64 1, .string nm, .int .i64 vr, .slice A0 n0 c0], .int .i64 wi] w fun e w' => e = .returned (.tuple #[]) ∧ Hid (RS w0 w' R cs ks (s ++ numT z)) ∧ Hid (Kp R w w') := by
  have dw : decide (50 ≤ wi) = false := decide_eq_false (by omega)
  obtain ⟨A, n, cap, hRd, own⟩ := h.at_
  have hn : n = s.size := by have := own.1; rw [Lib.strCells_length] at this; omega
  have HN : Hid (n ≤ 1000000) := Lib.hid (by omega)
  have hRl : R < w.heap.size := (Array.getElem?_eq_some_iff.1 hRd).1
  obtain ⟨O, hO⟩ : ∃ O : Obj, O = .cells #[.int .i64 1, .string nm, .int .i64 vr, .slice A0 n0 c0] 34 := ⟨_, rfl⟩
  have HA : Hid (RS w0 (w.alloc O) R cs ks s) := Lib.hid (h.alloc O)
  have hRA : (w.alloc O).heap[R]? = some (.cells #[cs, ks, .slice A n cap] 79 (0, 0)) := kp_alloc (R + 1) w O R _ 79 (by decide) (by omega) hRd
  have c2 : (w.alloc O).cell? ⟨R, 2, none⟩ = some (.slice A n cap) := by simp [World.cell?, hRA]
  have HRA := Lib.hid hRA
  have HSZ : Hid (R + 1 ≤ (w.alloc O).heap.size) := Lib.hid (by show R + 1 ≤ (w.heap.push O).size; simp; omega)
  have OWA : Hid ((w.alloc O).ownsRow (R + 1) 5 1 (.slice A n cap) n (Lib.strCells s)) := Lib.hid (own.alloc O)
  have KA : Hid (Kp R w (w.alloc O)) := Lib.hid (kp_alloc R w O)
  have HT := Lib.hid hT
  have H0 := Lib.hid h0; have H1 := Lib.hid h1
  have hv1 := hv1 O
  have hv := hv O
  subst hO
  clear h own hRd hRA hn hs hT hRl h0 h1
  go_enter Tryd.func31, Tryd.ntmps31
  go_wp2
  go_quiet (fail)
  go_wp2
  go_region_with (go_at_call 36; refine Calls.mono (num36 z HT.out (by exact HA.out.below.trans ⟨rfl, rfl, rfl, Nat.le_refl _, fun _ _ => rfl⟩) HA.out.hR (by exact OWA.out) HN.out (by exact HSZ.out) H0.out H1.out) ?_; rintro e w1 ⟨A', n', cap', rfl, own1, hb1, ok⟩; have fin := RS.wrote2 HA.out.below HA.out.hR HRA.out own1 ⟨hb1.os, hb1.tape, hb1.output, hb1.size, hb1.block⟩ (fun k o hk => ok k o hk); have zc := fin.2.2.1; have zf := fin.2.2.2; have FIN := Lib.hid fin.1; have KF := Lib.hid fin.2.1; clear own1 hb1 ok fin)
  all_goals
    go_wp2
    first | go_end0 | (simp only [Exit.inBlock, Exit.then]; refine bodyPost_ret (results_none rfl _ _ _) rfl ?_) | refine bodyPost_ret (results_none rfl _ _ _) rfl ?_
    exact ⟨rfl, FIN, Lib.hid (KA.out.trans KF.out)⟩
end Go.Proofs.YtclilpabdcdeoaaDoor
