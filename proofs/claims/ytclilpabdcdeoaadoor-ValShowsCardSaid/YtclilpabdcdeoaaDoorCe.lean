import Derived.Test.YtclilpabdcdeoaaDoorNm
namespace Go.Proofs.YtclilpabdcdeoaaDoor
open Go.ChangeShapes Go.WideShapes Go.ChangeAt Go.RowKit
set_option linter.unusedVariables false
/-- a cell outside the renderer and outside rows of bytes, or one that was there when the renderer was made. -/
def Has (w0 w : World) (R b o : Nat) (v : Value) : Prop := (∃ c t, t ≠ 5 ∧ b ≠ R ∧ w.heap[b]? = some (.cells c t (0, 0)) ∧ c[o]? = some v) ∨ (b < w0.heap.size ∧ w0.cell? ⟨b, o, none⟩ = some v)
theorem Has.kp {w0 w w' : World} {R b o : Nat} {v : Value} (h : Has w0 w R b o v) (k : Kp R w w') : Has w0 w' R b o v := by
  rcases h with ⟨c, t, h1, h2, h3, h4⟩ | h
  · exact .inl ⟨c, t, h1, h2, k b c t h1 h2 h3, h4⟩
  · exact .inr h
theorem Has.cell {w0 w : World} {R b o : Nat} {v : Value} (h : Has w0 w R b o v) (hb : Below w0.heap.size w0 w) : w.cell? ⟨b, o, none⟩ = some v := by
  rcases h with ⟨c, t, h1, h2, h3, h4⟩ | h
  · simp [World.cell?, h3, h4]
  · exact (hb.cell (p := ⟨b, o, none⟩) h.1).trans h.2
theorem RS.lt {w0 w : World} {R : Nat} {cs ks : Value} {s : ByteArray} (h : RS w0 w R cs ks s) : R < w.heap.size := by
  obtain ⟨A, n, cap, h1, h2⟩ := h.at_
  exact (Array.getElem?_eq_some_iff.1 h1).1
theorem RS.c0 {w0 w : World} {R : Nat} {cs ks : Value} {s : ByteArray} (h : RS w0 w R cs ks s) : w.cell? ⟨R, 0, none⟩ = some cs := by
  obtain ⟨A, n, cap, h1, h2⟩ := h.at_
  simp [World.cell?, h1]
theorem has_new (w0 w : World) (R : Nat) (c : Array Value) (t : TypeId) (ht : t ≠ 5) (hR : R < w.heap.size) (o : Nat) (v : Value) (h : c[o]? = some v) : Has w0 (w.alloc (.cells c t)) R w.heap.size o v :=
  .inl ⟨c, t, ht, by omega, (MapKept.heap_alloc w _).1, h⟩
def refT : ByteArray := ⟨#[114, 101, 102, 32]⟩
set_option maxRecDepth 100000 in
set_option maxHeartbeats 4000000 in
theorem cell_bad {w0 w : World} {R vb vo : Nat} {ks : Value} {s nm : ByteArray} {at_ wi vr k : Int} {Ac At : Option Addr} {nc cc nt ct : Nat} (h : RS w0 w R (.slice Ac nc cc) ks s) (hs : s.size ≤ 900000)
    (hv : Has w0 w R vb (vo + 6) (.int .i64 at_)) (hbad : at_ < 0 ∨ (nc : Int) ≤ at_ ∨ nt ≠ 1) :
    Calls Tryd.prog 39 #[.pointer (some ⟨R, 0, none⟩), .pointer (some ⟨vb, vo, none⟩), .agg #[.int .i64 k, .string nm, .int .i64 vr, .slice At nt ct], .int .i64 wi] w fun e w' => e = .returned (.tuple #[]) ∧ Hid (RS w0 w' R (.slice Ac nc cc) ks (s ++ refT ++ markT)) ∧ Hid (Kp R w w') := by
  have TX : Hid (∀ O, Calls Tryd.prog 35 #[.pointer (some ⟨R, 0, none⟩), .string ⟨#[114, 101, 102, 32]⟩] (w.alloc O) fun e w' => e = .returned (.tuple #[]) ∧ Hid (RS w0 w' R (.slice Ac nc cc) ks (s ++ refT)) ∧ Hid (Kp R (w.alloc O) w')) := Lib.hid (fun O =>
    text_any refT (h.alloc O) (by have : refT.size = 4 := rfl; omega))
  have HV := Lib.hid hv
  have HRL := Lib.hid h.lt
  have HSS : Hid ((s ++ refT).size + 1 ≤ 1000000) := Lib.hid (by rw [ByteArray.size_append]; have : refT.size = 4 := rfl; omega)
  clear h hv hs
  go_enter Tryd.func39, Tryd.ntmps39
  go_wp2_with fail
  refine (TX.out _).mono ?_; rintro e w1 ⟨rfl, H1, K1⟩
  have v1 := (HV.out.kp ((kp_alloc R w _).trans K1.out)).cell H1.out.below
  have b1 := ((has_new w0 w R #[.int .i64 k, .string nm, .int .i64 vr, .slice At nt ct] 34 (by decide) HRL.out 3 _ rfl).kp K1.out).cell H1.out.below
  have r0 := H1.out.c0
  have TY : Hid (∀ q, Calls Tryd.prog 35 #[.pointer (some ⟨R, 0, none⟩), .string ⟨#[63]⟩] (w1.drewN q) fun e w' => e = .returned (.tuple #[]) ∧ Hid (RS w0 w' R (.slice Ac nc cc) ks (s ++ refT ++ markT)) ∧ Hid (Kp R w w')) := Lib.hid (fun q =>
    (text_any markT (H1.out.drewN q) HSS.out).mono (by
      rintro e w' ⟨rfl, a, b⟩
      exact ⟨rfl, a, Lib.hid ((kp_alloc R w _).trans (K1.out.trans b.out))⟩))
  clear TX H1 K1 HV HRL HSS
  by_cases c1 : at_ < 0
  · have d1 := decide_eq_true c1
    clear hbad
    go_wp2
    go_quiet (fail)
    go_wp2_with fail
    refine (TY.out _).mono ?_; rintro e w2 ⟨rfl, H2, K2⟩
    clear TY
    go_wp2
    first | go_end0 | (simp only [Exit.inBlock, Exit.then]; refine bodyPost_ret (results_none rfl _ _ _) rfl ?_) | refine bodyPost_ret (results_none rfl _ _ _) rfl ?_
    exact ⟨rfl, H2, K2⟩
  have d1 := decide_eq_false c1
  by_cases c2 : (nc : Int) ≤ at_
  · have d2 := decide_eq_true c2
    clear hbad
    go_wp2
    go_quiet (fail)
    go_wp2_with fail
    refine (TY.out _).mono ?_; rintro e w2 ⟨rfl, H2, K2⟩
    clear TY
    go_wp2
    first | go_end0 | (simp only [Exit.inBlock, Exit.then]; refine bodyPost_ret (results_none rfl _ _ _) rfl ?_) | refine bodyPost_ret (results_none rfl _ _ _) rfl ?_
    exact ⟨rfl, H2, K2⟩
  have d2 := decide_eq_false c2
  have hnt : nt ≠ 1 := by rcases hbad with h | h | h; exact absurd h c1; exact absurd h c2; exact h
  have d3 : ((nt : Int) == 1) = false := beq_eq_false_iff_ne.2 (by omega)
  have d4 : ((nt : Int) != 1) = true := by simp [bne, d3]
  have d5 : (nt == 1) = false := beq_eq_false_iff_ne.2 hnt
  clear hbad
  go_wp2
  go_quiet (fail)
  go_wp2_with fail
  refine (TY.out _).mono ?_; rintro e w2 ⟨rfl, H2, K2⟩
  clear TY
  go_wp2
  first | go_end0 | (simp only [Exit.inBlock, Exit.then]; refine bodyPost_ret (results_none rfl _ _ _) rfl ?_) | refine bodyPost_ret (results_none rfl _ _ _) rfl ?_
  exact ⟨rfl, H2, K2⟩
end Go.Proofs.YtclilpabdcdeoaaDoor
