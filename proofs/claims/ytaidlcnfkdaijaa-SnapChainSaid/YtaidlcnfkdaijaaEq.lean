import Derived.Test.YtaidlcnfkdaijaaPut
import Derived.Test.YtaidlcnfkdaijaaSays
namespace Go.Proofs.Ytaidlcnfkdaijaa
open Go.ChangeShapes Go.WideShapes Go.ChangeAt Go.RowKit
set_option linter.unusedVariables false
/-- the writer. -/
def WObj (w : World) (g : Nat) (ov nv : Value) (at_ done : Nat) (shift : Int) (bv : Value) : Prop := w.heap[g]? = some (.cells #[ov, nv, .int .i64 at_, .int .i64 done, .int .i64 shift, bv] 41 (0, 0))
section
variable {w : World} {g : Nat} {ov nv bv : Value} {at_ done : Nat} {shift : Int}
theorem WObj.c0 (h : WObj w g ov nv at_ done shift bv) : w.cell? ⟨g, 0, none⟩ = some ov := by unfold WObj at h; simp [World.cell?, h]
theorem WObj.c1 (h : WObj w g ov nv at_ done shift bv) : w.cell? ⟨g, 1, none⟩ = some nv := by unfold WObj at h; simp [World.cell?, h]
theorem WObj.c2 (h : WObj w g ov nv at_ done shift bv) : w.cell? ⟨g, 2, none⟩ = some (.int .i64 at_) := by unfold WObj at h; simp [World.cell?, h]
theorem WObj.c3 (h : WObj w g ov nv at_ done shift bv) : w.cell? ⟨g, 3, none⟩ = some (.int .i64 done) := by unfold WObj at h; simp [World.cell?, h]
theorem WObj.c4 (h : WObj w g ov nv at_ done shift bv) : w.cell? ⟨g, 4, none⟩ = some (.int .i64 shift) := by unfold WObj at h; simp [World.cell?, h]
theorem WObj.c5 (h : WObj w g ov nv at_ done shift bv) : w.cell? ⟨g, 5, none⟩ = some bv := by unfold WObj at h; simp [World.cell?, h]
theorem WObj.f (h : WObj w g ov nv at_ done shift bv) (i : Nat) : w.frozen? ⟨g, i, none⟩ = false := by unfold WObj at h; simp [World.frozen?, h]
theorem WObj.lt (h : WObj w g ov nv at_ done shift bv) : g < w.heap.size := by
  unfold WObj at h
  exact (Array.getElem?_eq_some_iff.1 h).1
theorem WObj.of_heap {w' : World} (h : WObj w g ov nv at_ done shift bv) (e : w'.heap[g]? = w.heap[g]?) : WObj w' g ov nv at_ done shift bv := e.trans h
theorem WObj.below {w' : World} (h : WObj w g ov nv at_ done shift bv) (hb : Below w.heap.size w w') : WObj w' g ov nv at_ done shift bv := h.of_heap (hb.block g h.lt)
theorem WObj.set2 (h : WObj w g ov nv at_ done shift bv) (k : Nat) : WObj (w.setCell ⟨g, 2, none⟩ (.int .i64 k)) g ov nv k done shift bv := by unfold WObj at h ⊢; simp [World.setCell, Array.getElem?_modify, h]
theorem WObj.set3 (h : WObj w g ov nv at_ done shift bv) (k : Nat) : WObj (w.setCell ⟨g, 3, none⟩ (.int .i64 k)) g ov nv at_ k shift bv := by unfold WObj at h ⊢; simp [World.setCell, Array.getElem?_modify, h]
theorem WObj.set4 (h : WObj w g ov nv at_ done shift bv) (k : Int) : WObj (w.setCell ⟨g, 4, none⟩ (.int .i64 k)) g ov nv at_ done k bv := by unfold WObj at h ⊢; simp [World.setCell, Array.getElem?_modify, h]
theorem WObj.set5 (h : WObj w g ov nv at_ done shift bv) (v : Value) : WObj (w.setCell ⟨g, 5, none⟩ v) g ov nv at_ done shift v := by unfold WObj at h ⊢; simp [World.setCell, Array.getElem?_modify, h]
end
theorem Sl.cells {w : World} {A : Option Addr} {n c : Nat} {xs : List Nat} (s : Sl w A n c xs) : 0 < n → ∃ h o, A = some ⟨h, o, none⟩ ∧ h < w.heap.size ∧ ∀ j, j < n → w.cell? ⟨h, o + j, none⟩ = some (.int .u8 (xs.getD j 0 : Nat)) := s.2.2
theorem wk_add (k q : Nat) (h : k + q ≤ 90000) : IntKind.i64.wrap ((k : Int) + q) = k + q ∧ wrap64 ((k : Int) + q) = k + q := by
  refine ⟨?_, ?_⟩
  · simp only [IntKind.wrap_i64]; omega
  · unfold wrap64; omega
def EqTo (old new : List Nat) (F at_ k : Nat) : Prop := F + k ≤ old.length ∧ at_ + k ≤ new.length ∧ ∀ j, j < k → old.getD (F + j) 0 = new.getD (at_ + j) 0
set_option maxRecDepth 100000 in
set_option maxHeartbeats 4000000 in
theorem equal_pos {w : World} {g : Nat} {A B : Option Addr} {no co nn cn at_ done : Nat} {shift : Int} {bv : Value} {old new : List Nat} (F : Nat)
    (r : WObj w g (.slice A no co) (.slice B nn cn) at_ done shift bv) (so : Sl w A no co old) (sn : Sl w B nn cn new) (hF : F ≤ 5000) (hat : at_ ≤ nn) (hno : no ≤ 420) (hnn : nn ≤ 420) :
    Calls Try.prog 22 #[.pointer (some ⟨g, 0, none⟩), .int .i64 F] w fun e w' => ∃ k : Nat, e = .returned (.int .i64 k) ∧ Below w.heap.size w w' ∧ (0 < k → EqTo old new F at_ k) ∧ k ≤ 420 := by
  have SO := Lib.hid so.cells; have SN := Lib.hid sn.cells
  have LO := so.1; have LN := sn.1
  have R := Lib.hid r
  clear r so sn
  have hF0 : decide ((F : Int) < 0) = false := decide_eq_false (by omega)
  go_enter Try.func22, Try.ntmps22
  go_wp2
  go_loopw [5] (fun k wr => ∃ (m : Nat), k = .int .i64 m ∧ m ≤ 420 ∧ Hid (Below w.heap.size w wr) ∧ Hid (0 < m → EqTo old new F at_ m)) (fun k _ => 421 - (intOf k).toNat)
  case atStart => exact ⟨0, rfl, by omega, Lib.hid (Below.refl _ _), Lib.hid (fun h => absurd h (by omega))⟩
  case round =>
    obtain ⟨m, rfl, hm, hb, he⟩ := hrel
    have ro := R.out.below hb.out
    have c0 := ro.c0; have c1 := ro.c1; have c2 := ro.c2
    obtain ⟨P, hP⟩ : ∃ P : Nat, (F : Int) + (m : Int) = P := ⟨F + m, by omega⟩
    obtain ⟨Q, hQ⟩ : ∃ Q : Nat, (at_ : Int) + (m : Int) = Q := ⟨at_ + m, by omega⟩
    have hPl : P ≤ 6000 := by omega
    have hQl : Q ≤ 6000 := by omega
    have eP : P = F + m := by omega
    have eQ : Q = at_ + m := by omega
    have HM420 : Hid (m ≤ 420) := Lib.hid hm
    have RET : ∀ n, Below w.heap.size w (wr.drewN n) := fun n => bt hb.out (below_drewN wr n)
    have RH := Lib.hid RET; clear ro RET
    by_cases h1 : P < no
    · obtain ⟨ho, oo, rfl, _, hco⟩ := SO.out (by omega)
      have x1 : wr.cell? ⟨ho, oo + P, none⟩ = some (.int .u8 (old.getD P 0 : Nat)) := by rw [hb.out.cell (p := ⟨ho, oo + P, none⟩) (by assumption)]; exact hco _ h1
      have d1 : decide ((P : Int) < (no : Int)) = true := decide_eq_true (by omega)
      by_cases h2 : Q < nn
      · obtain ⟨hn, on, rfl, _, hcn⟩ := SN.out (by omega)
        have x2 : wr.cell? ⟨hn, on + Q, none⟩ = some (.int .u8 (new.getD Q 0 : Nat)) := by rw [hb.out.cell (p := ⟨hn, on + Q, none⟩) (by assumption)]; exact hcn _ h2
        have d2 : decide ((Q : Int) < (nn : Int)) = true := decide_eq_true (by omega)
        have NX : Hid (old.getD P 0 = new.getD Q 0 → EqTo old new F at_ (m + 1)) := Lib.hid (fun h3 => ⟨by omega, by omega, fun j hj => by
          rcases Nat.lt_or_ge j m with q | q
          · exact (he.out (by omega)).2.2 j q
          · rw [show j = m by omega, ← eP, ← eQ]; exact h3⟩)
        obtain ⟨x, hx⟩ : ∃ x, x = old.getD P 0 := ⟨_, rfl⟩
        obtain ⟨y, hy⟩ : ∃ y, y = new.getD Q 0 := ⟨_, rfl⟩
        rw [← hx] at x1; rw [← hy] at x2; rw [← hx, ← hy] at NX
        clear hx hy hco hcn eP eQ
        by_cases h3 : x = y
        · subst h3
          have d3 : ((x : Int) == (x : Int)) = true := beq_self_eq_true _
          have N2 : Hid (EqTo old new F at_ (m + 1)) := Lib.hid (NX.out rfl)
          have HMM : Hid (m + 1 ≤ 420) := Lib.hid (by have := N2.out.1; omega)
          have ME : Hid (421 - (m + 1) < 421 - m) := Lib.hid (by omega)
          clear NX
          go_wp2
          go_quiet (fail)
          go_wp2
          go_roundw
          case rel => exact ⟨m + 1, by go_num, HMM.out, Lib.hid (RH.out _), Lib.hid (fun _ => N2.out)⟩
          case measure =>
            simp only [intOf]
            have e : ((m : Int) + 1).toNat = m + 1 := by omega
            rw [e, Int.toNat_natCast]
            exact ME.out
        · have d3 : ((x : Int) == (y : Int)) = false := beq_eq_false_iff_ne.2 (by omega)
          clear h3
          go_wp2
          go_quiet (fail)
          go_wp2
          go_ret
          exact ⟨m, rfl, RH.out _, he.out, HM420.out⟩
      · clear eP eQ
        have d2 : decide ((Q : Int) < (nn : Int)) = false := decide_eq_false (by omega)
        go_wp2
        go_quiet (fail)
        go_wp2
        go_ret
        exact ⟨m, rfl, RH.out _, he.out, HM420.out⟩
    · clear eP eQ
      have d1 : decide ((P : Int) < (no : Int)) = false := decide_eq_false (by omega)
      go_wp2
      go_quiet (fail)
      go_wp2
      go_ret
      exact ⟨m, rfl, RH.out _, he.out, HM420.out⟩
set_option maxRecDepth 100000 in
set_option maxHeartbeats 4000000 in
theorem equal_neg {w : World} {g : Nat} (f : Int) (hf : f < 0) :
    Calls Try.prog 22 #[.pointer (some ⟨g, 0, none⟩), .int .i64 f] w fun e w' => e = .returned (.int .i64 0) ∧ Below w.heap.size w w' := by
  have hF0 : decide (f < 0) = true := decide_eq_true hf
  clear hf
  go_enter Try.func22, Try.ntmps22
  go_wp2
  go_ret
  exact ⟨rfl, Below.refl _ _⟩
theorem equal_any {w : World} {g : Nat} {A B : Option Addr} {no co nn cn at_ done : Nat} {shift : Int} {bv : Value} {old new : List Nat} (f : Int)
    (r : WObj w g (.slice A no co) (.slice B nn cn) at_ done shift bv) (so : Sl w A no co old) (sn : Sl w B nn cn new) (hF : f ≤ 5000) (hat : at_ ≤ nn) (hno : no ≤ 420) (hnn : nn ≤ 420) :
    Calls Try.prog 22 #[.pointer (some ⟨g, 0, none⟩), .int .i64 f] w fun e w' => ∃ k : Nat, e = .returned (.int .i64 k) ∧ Below w.heap.size w w' ∧ (0 < k → ∃ F : Nat, f = F ∧ EqTo old new F at_ k) ∧ k ≤ 420 := by
  by_cases h : f < 0
  · exact (equal_neg f h).mono fun e w' ⟨he, hb⟩ => ⟨0, he, hb, fun h => absurd h (by omega), by omega⟩
  · obtain ⟨F, rfl⟩ : ∃ F : Nat, f = F := ⟨f.toNat, by omega⟩
    exact (equal_pos F r so sn (by omega) hat hno hnn).mono fun e w' ⟨k, he, hb, hk, hl⟩ => ⟨k, he, hb, fun h => ⟨F, rfl, hk h⟩, hl⟩
end Go.Proofs.Ytaidlcnfkdaijaa
