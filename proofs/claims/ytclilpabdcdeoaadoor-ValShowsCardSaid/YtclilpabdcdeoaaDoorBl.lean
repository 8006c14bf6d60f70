import Derived.Test.YtclilpabdcdeoaaDoorLf
import Derived.Deep.RegionWith
import Derived.BigRegion
namespace Go.Proofs.YtclilpabdcdeoaaDoor
open Go.ChangeShapes Go.WideShapes Go.ChangeAt Go.RowKit
set_option linter.unusedVariables false
def boolT (b : Bool) : ByteArray := if b = true then ⟨#[116, 114, 117, 101]⟩ else ⟨#[102, 97, 108, 115, 101]⟩
/-- a row that was written further. -/
def Wrote (w w' : World) (B : Nat) (A : Option Addr) (n cap : Nat) (s : ByteArray) (e : Ending) : Prop := ∃ A' n' cap', e = .returned (.slice A' n' cap') ∧ w'.ownsRow B 5 1 (.slice A' n' cap') n' (Lib.strCells s) ∧ w.grownBy w' (Value.ownBlock (.slice A n cap))
theorem own_form {w : World} {B n : Nat} {v : Value} {xs : List Value} (h : w.ownsRow B 5 1 v n xs) : ∃ A cap, v = .slice A n cap := by
  rcases h.2 with ⟨rfl, rfl⟩ | ⟨g, cap, _, e, _⟩
  · exact ⟨_, _, rfl⟩
  · exact ⟨_, _, e⟩
set_option maxRecDepth 100000 in
theorem bool43 (b : Bool) {w : World} {B : Nat} {A : Option Addr} {n cap : Nat} {s : ByteArray} (own : w.ownsRow B 5 1 (.slice A n cap) n (Lib.strCells s)) (hn : n ≤ 1000000) (hB : B ≤ w.heap.size) :
    Calls Tryd.prog 43 #[.slice A n cap, .bool b] w fun e w' => Wrote w w' B A n cap (s ++ boolT b) e := by
  obtain ⟨i0, hi, hz0, hz1, hz2⟩ := info_parts info5
  cases b
  · go_enter Tryd.func43, Tryd.ntmps43
    go_wp2_with (at_builtin; refine Lib.wpList_append_own_string _ rfl (.tmp 8) (.const (.string ⟨#[102, 97, 108, 115, 101]⟩)) 77 9 rfl B 5 i0 Tryd.underlying77 Tryd.underlying9 hi hz0 hz1 hz2 _ _ _ rfl own ⟨#[102, 97, 108, 115, 101]⟩ rfl (by unfold maxLen; show n + 5 ≤ _; omega) (by show n + 5 ≤ _; omega) hB ?_)
    intro v' w1 own1 gr hne
    obtain ⟨A', cap', rfl⟩ := own_form own1
    have OWN := Lib.hid own1; clear own1
    go_wp2
    go_ret
    exact ⟨_, _, _, rfl, by rw [strCells_app]; exact OWN.out, gr⟩
  · go_enter Tryd.func43, Tryd.ntmps43
    go_wp2_with (at_builtin; refine Lib.wpList_append_own_string _ rfl (.tmp 6) (.const (.string ⟨#[116, 114, 117, 101]⟩)) 77 9 rfl B 5 i0 Tryd.underlying77 Tryd.underlying9 hi hz0 hz1 hz2 _ _ _ rfl own ⟨#[116, 114, 117, 101]⟩ rfl (by unfold maxLen; show n + 4 ≤ _; omega) (by show n + 4 ≤ _; omega) hB ?_)
    intro v' w1 own1 gr hne
    obtain ⟨A', cap', rfl⟩ := own_form own1
    have OWN := Lib.hid own1; clear own1
    go_wp2
    go_ret
    exact ⟨_, _, _, rfl, by rw [strCells_app]; exact OWN.out, gr⟩
theorem bool37 (b : Bool) {w : World} {B : Nat} {A : Option Addr} {n cap : Nat} {s : ByteArray} (own : w.ownsRow B 5 1 (.slice A n cap) n (Lib.strCells s)) (hn : n ≤ 1000000) (hB : B ≤ w.heap.size) :
    Calls Tryd.prog 37 #[.slice A n cap, .bool b] w fun e w' => Wrote w w' B A n cap (s ++ boolT b) e := by
  go_enter Tryd.func37, Tryd.ntmps37
  go_wp2_with fail
  refine (bool43 b own hn hB).mono ?_
  rintro e w' ⟨A', n', cap', rfl, own', gr⟩
  have OWN := Lib.hid own'; clear own'
  go_wp2
  go_ret
  exact ⟨_, _, _, rfl, OWN.out, gr⟩
/-- what a writing callee leaves, laid into the renderer. -/
theorem RS.wrote {w0 w w1 : World} {R : Nat} {cs ks : Value} {s t : ByteArray} {A : Option Addr} {n cap : Nat} {A' : Option Addr} {n' cap' : Nat} (hb : Below w0.heap.size w0 w) (hR : w0.heap.size ≤ R) (hRd : w.heap[R]? = some (.cells #[cs, ks, .slice A n cap] 79 (0, 0)))
    (own : w.ownsRow (R + 1) 5 1 (.slice A n cap) n (Lib.strCells s)) (own1 : w1.ownsRow (R + 1) 5 1 (.slice A' n' cap') n' (Lib.strCells t)) (gr : w.grownBy w1 (Value.ownBlock (.slice A n cap))) :
    RS w0 (w1.setCell ⟨R, 2, none⟩ (.slice A' n' cap')) R cs ks t ∧ Kp R w (w1.setCell ⟨R, 2, none⟩ (.slice A' n' cap')) ∧ w1.cell? ⟨R, 2, none⟩ = some (.slice A n cap) ∧ w1.frozen? ⟨R, 2, none⟩ = false := by
  have K1 := grown_kp (R := R) own gr
  have R1 : w1.heap[R]? = some (.cells #[cs, ks, .slice A n cap] 79 (0, 0)) := grown_kp (R := R + 1) own gr R _ 79 (by decide) (by omega) hRd
  have hRne : (Value.slice A' n' cap').ownBlock ≠ some R := own_type own1 (by decide) R1
  refine ⟨⟨?_, hR, A', n', cap', ?_, ?_⟩, fun k c t ht hk hx => ?_, by simp [World.cell?, R1], by simp [World.frozen?, R1]⟩
  · exact (hb.grown gr hb.size (fun q hq => by have := (own.lt q hq).1; omega)).setCell (p := ⟨R, 2, none⟩) hR _
  · simp [World.setCell, Array.getElem?_modify, R1]
  · exact ownsRow_setCell_other own1 (a := ⟨R, 2, none⟩) hRne (.slice A' n' cap')
  · have := K1 k c t ht hk hx
    simp only [World.setCell]; rw [Array.getElem?_modify, if_neg (fun e => hk e.symm)]; exact this
set_option maxRecDepth 100000 in
set_option maxHeartbeats 4000000 in
theorem value_bool {w0 w : World} {R vb vo : Nat} {cs ks : Value} {s nm : ByteArray} {z wi vr : Int} {A0 : Option Addr} {n0 c0 : Nat} (h : RS w0 w R cs ks s) (hs : s.size ≤ 900000)
    (hv : ∀ O, (w.alloc O).cell? ⟨vb, vo, none⟩ = some (.int .i64 2)) (hv1 : ∀ O, (w.alloc O).cell? ⟨vb, vo + 1, none⟩ = some (.int .i64 z)) (hw : wi < 50) :
    Calls Tryd.prog 31 #[.pointer (some ⟨R, 0, none⟩), .pointer (some ⟨vb, vo, none⟩), .agg #[.int .i64 2, .string nm, .int .i64 vr, .slice A0 n0 c0], .int .i64 wi] w fun e w' => e = .returned (.tuple #[]) ∧ Hid (RS w0 w' R cs ks (s ++ boolT (z == 1))) ∧ Hid (Kp R w w') := by
  have dw : decide (50 ≤ wi) = false := decide_eq_false (by omega)
  obtain ⟨A, n, cap, hRd, own⟩ := h.at_
  have hn : n = s.size := by have := own.1; rw [Lib.strCells_length] at this; omega
  have HN : Hid (n ≤ 1000000) := Lib.hid (by omega)
  have H := Lib.hid h; have OWN := Lib.hid own; have HRD := Lib.hid hRd
  have c2 : ∀ O, (w.alloc O).cell? ⟨R, 2, none⟩ = some (.slice A n cap) := fun O => by
    have := kp_alloc (R + 1) w O R _ 79 (by decide) (by omega) hRd
    simp [World.cell?, this]
  have HRL : Hid (R < w.heap.size) := Lib.hid (Array.getElem?_eq_some_iff.1 hRd).1
  obtain ⟨b, hb⟩ : ∃ b, b = (z == 1) := ⟨_, rfl⟩
  rw [← hb]
  have hb' : (z == 1) = b := hb.symm
  obtain ⟨O, hO⟩ : ∃ O : Obj, O = .cells #[.int .i64 2, .string nm, .int .i64 vr, .slice A0 n0 c0] 34 := ⟨_, rfl⟩
  have HA : Hid (RS w0 (w.alloc O) R cs ks s) := Lib.hid (H.out.alloc O)
  have HRA : Hid ((w.alloc O).heap[R]? = some (.cells #[cs, ks, .slice A n cap] 79 (0, 0))) := Lib.hid (kp_alloc (R + 1) w O R _ 79 (by decide) (by omega) hRd)
  have HSZ : Hid (R + 1 ≤ (w.alloc O).heap.size) := Lib.hid (by show R + 1 ≤ (w.heap.push O).size; have := HRL.out; simp; omega)
  have OWA : Hid ((w.alloc O).ownsRow (R + 1) 5 1 (.slice A n cap) n (Lib.strCells s)) := Lib.hid (OWN.out.alloc O)
  have KA : Hid (Kp R w (w.alloc O)) := Lib.hid (kp_alloc R w O)
  have c2 := c2 O
  have hv1 := hv1 O
  have hv := hv O
  have HOO := Lib.hid hO
  subst hO
  clear h own hRd hn hb hs H OWN HRD HRL HOO
  go_enter Tryd.func31, Tryd.ntmps31
  go_wp2
  go_quiet (fail)
  go_wp2
  go_region_with (go_at_call 37; refine Calls.mono (bool37 b (by exact OWA.out) HN.out (by exact HSZ.out)) ?_; rintro e w1 ⟨A', n', cap', rfl, own1, gr⟩; have fin := RS.wrote HA.out.below HA.out.hR HRA.out OWA.out own1 ⟨gr.os, gr.tape, gr.output, gr.size, gr.block⟩; have zc := fin.2.2.1; have zf := fin.2.2.2; have FIN := Lib.hid fin.1; have KF := Lib.hid fin.2.1; clear own1 gr fin)
  all_goals
    go_wp2
    first | go_end0 | (simp only [Exit.inBlock, Exit.then]; refine bodyPost_ret (results_none rfl _ _ _) rfl ?_) | refine bodyPost_ret (results_none rfl _ _ _) rfl ?_
    exact ⟨rfl, FIN, Lib.hid (KA.out.trans KF.out)⟩
end Go.Proofs.YtclilpabdcdeoaaDoor
