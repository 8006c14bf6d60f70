import Derived.Test.YtknpgmbniohcnaaRc
namespace Go.Proofs.Ytknpgmbniohcnaa
open Go.ChangeShapes Go.WideShapes Go.ChangeAt Go.RowKit
set_option linter.unusedVariables false
/-- the program's heap and the document's own, alike. -/
structure PI (w wr : World) (H Hr B : Nat) (m : Hm) : Prop where
  hp : HpAt wr B H 0 m
  rh : RH wr B Hr m
  ne : H ≠ Hr
  lt : H < B ∧ Hr < B
  ge : w.heap.size ≤ H ∧ w.heap.size ≤ Hr
  bel : Below w.heap.size w wr
theorem row_type {w : World} {B e n k : Nat} {v : Value} {xs : List Value} (h : w.ownsRow B e 1 v n xs) (hk : v.ownBlock = some k) : ∃ c, w.heap[k]? = some (.cells c e (0, 0)) := by
  rcases h.2 with ⟨rfl, _⟩ | ⟨g, cap, cur, rfl, _, hg, _⟩
  · simp [Value.ownBlock] at hk
  · simp [Value.ownBlock] at hk; subst hk; exact ⟨_, hg⟩
theorem HpAt.types {w : World} {B H o k : Nat} {m : Hm} (h : HpAt w B H o m) (hk : HR w H o k) : k = H ∨ (B ≤ k ∧ ∃ c, w.heap[k]? = some (.cells c 28 (0, 0)) ∨ w.heap[k]? = some (.cells c 4 (0, 0))) := by
  obtain ⟨cc, T, A1, c1, A2, c2, t1, t2, t3, e1, e2, e3, e4, e5, o1, o2⟩ := h.at_
  have f2 : w.cell? ⟨H, o + 2, none⟩ = some (.slice A1 m.ws.length c1) := by simp [World.cell?, e1, e4]
  have f3 : w.cell? ⟨H, o + 3, none⟩ = some (.slice A2 m.st.length c2) := by simp [World.cell?, e1, e5]
  rcases hk with e | ⟨n, c, hc⟩ | ⟨n, c, hc⟩
  · exact .inl e
  · right
    rw [f2] at hc; injection hc with hc; rw [hc] at o1
    obtain ⟨c', z⟩ := row_type o1 (k := k) rfl
    exact ⟨(o1.lt k rfl).1, c', .inl z⟩
  · right
    rw [f3] at hc; injection hc with hc; rw [hc] at o2
    obtain ⟨c', z⟩ := row_type o2 (k := k) rfl
    exact ⟨(o2.lt k rfl).1, c', .inr z⟩
theorem RH.types {w : World} {B H k : Nat} {m : Hm} (h : RH w B H m) (hk : RR w H k) : k = H ∨ (B ≤ k ∧ ∃ c, w.heap[k]? = some (.cells c 27 (0, 0))) := by
  rcases hk with e | ⟨n, c, hc⟩
  · exact .inl e
  · right
    obtain ⟨T, A, c', t, h1, h2⟩ := h.at_
    have e1 : w.cell? ⟨H, 1, none⟩ = some (.slice A m.ws.length c') := by simp [World.cell?, h1]
    rw [e1] at hc; injection hc with hc; rw [hc] at h2
    exact ⟨(h2.lt k rfl).1, row_type h2 rfl⟩
theorem PI.disj {w wr : World} {H Hr B k : Nat} {m : Hm} (h : PI w wr H Hr B m) (h1 : HR wr H 0 k) (h2 : RR wr Hr k) : False := by
  have ne := h.ne; have lt := h.lt
  rcases h.hp.types h1 with e | ⟨a, c, z⟩ <;> rcases h.rh.types h2 with e' | ⟨a', c', z'⟩
  · omega
  · omega
  · omega
  · rcases z with z | z
    · rw [z] at z'; injection z' with z'; injection z' with _ z'; exact absurd z' (by decide)
    · rw [z] at z'; injection z' with z'; injection z' with _ z'; exact absurd z' (by decide)
theorem PI.below {w wr w' : World} {H Hr B : Nat} {m : Hm} (h : PI w wr H Hr B m) (hb : Below wr.heap.size wr w') : PI w w' H Hr B m := ⟨h.hp.below hb, h.rh.below hb, h.ne, h.lt, h.ge, h.bel.trans (hb.mono h.bel.size)⟩
/-- the program's heap has turned, the other not yet. -/
structure PH (w wr : World) (H Hr B : Nat) (m m' : Hm) : Prop where
  hp : HpAt wr B H 0 m'
  rh : RH wr B Hr m
  ne : H ≠ Hr
  lt : H < B ∧ Hr < B
  ge : w.heap.size ≤ H ∧ w.heap.size ≤ Hr
  bel : Below w.heap.size w wr
theorem PI.half {w wr w' : World} {H Hr B : Nat} {m m' : Hm} (h : PI w wr H Hr B m) (hp : HpAt w' B H 0 m') (f : Frm wr w' (HR wr H 0)) : PH w w' H Hr B m m' := by
  have lt := h.lt; have ge := h.ge
  exact ⟨hp, h.rh.frm f (fun k h2 h1 => h.disj h1 h2), h.ne, h.lt, h.ge, h.bel.trans (frm_ge h.hp f (by omega) (by omega) h.bel.size)⟩
theorem PH.below {w wr w' : World} {H Hr B : Nat} {m m' : Hm} (h : PH w wr H Hr B m m') (hb : Below wr.heap.size wr w') : PH w w' H Hr B m m' := ⟨h.hp.below hb, h.rh.below hb, h.ne, h.lt, h.ge, h.bel.trans (hb.mono h.bel.size)⟩
theorem PH.disj {w wr : World} {H Hr B k : Nat} {m m' : Hm} (h : PH w wr H Hr B m m') (h1 : HR wr H 0 k) (h2 : RR wr Hr k) : False := by
  have ne := h.ne; have lt := h.lt
  rcases h.hp.types h1 with e | ⟨a, c, z⟩ <;> rcases h.rh.types h2 with e' | ⟨a', c', z'⟩
  · omega
  · omega
  · omega
  · rcases z with z | z
    · rw [z] at z'; injection z' with z'; injection z' with _ z'; exact absurd z' (by decide)
    · rw [z] at z'; injection z' with z'; injection z' with _ z'; exact absurd z' (by decide)
theorem PH.whole {w wr w' : World} {H Hr B : Nat} {m m' : Hm} (h : PH w wr H Hr B m m') (rh : RH w' B Hr m') (f : Frm wr w' (RR wr Hr)) : PI w w' H Hr B m' := by
  have lt := h.lt; have ge := h.ge
  refine ⟨h.hp.frm f (fun k h1 h2 => h.disj h1 h2), rh, h.ne, h.lt, h.ge, h.bel.trans (f.below (fun k hk => ?_) h.bel.size)⟩
  rcases h.rh.types hk with e | ⟨e, _⟩ <;> omega
theorem frm_R {w w' : World} {H : Nat} (h : Below w.heap.size w w' ∨ Frm w w' (fun k => k = H)) : Frm w w' (RR w H) := by
  rcases h with h | h
  · exact ⟨h.os, h.tape, h.output, h.size, fun i hi _ => h.block i hi⟩
  · exact h.mono fun k _ e => .inl e
/-- a copy of an act. -/
def XC (w : World) (C : Nat) (r : AcR) (A : Option Addr) (n c : Nat) : Prop := w.heap[C]? = some (.cells #[.int .i64 r.op, .int .i64 r.kind, .int .i64 r.tag, .int .i64 r.i, .int .u64 r.p, .int .u64 r.x, .slice A n c] 49 (0, 0))
theorem XC.hr {w : World} {B H o C n c : Nat} {m : Hm} {r : AcR} {A : Option Addr} (x : XC w C r A n c) (h : HpAt w B H o m) (hC : C ≠ H) : ¬ HR w H o C := fun hk => by
  rcases h.types hk with e | ⟨_, c', z⟩
  · exact hC e
  · unfold XC at x
    rcases z with z | z <;> (rw [x] at z; injection z with z; injection z with _ z; exact absurd z (by decide))
theorem XC.rr {w : World} {B H C n c : Nat} {m : Hm} {r : AcR} {A : Option Addr} (x : XC w C r A n c) (h : RH w B H m) (hC : C ≠ H) : ¬ RR w H C := fun hk => by
  rcases h.types hk with e | ⟨_, c', z⟩
  · exact hC e
  · unfold XC at x
    rw [x] at z; injection z with z; injection z with _ z; exact absurd z (by decide)
theorem XC.lt {w : World} {C n c : Nat} {r : AcR} {A : Option Addr} (x : XC w C r A n c) : C < w.heap.size := (Array.getElem?_eq_some_iff.1 x).1
theorem XC.frm {w w' : World} {R : Nat → Prop} {C n c : Nat} {r : AcR} {A : Option Addr} (x : XC w C r A n c) (f : Frm w w' R) (h : ¬ R C) : XC w' C r A n c := (f.block C x.lt h).trans x
theorem XC.below {w w' : World} {C n c : Nat} {r : AcR} {A : Option Addr} (x : XC w C r A n c) (h : Below w.heap.size w w') : XC w' C r A n c := (h.block C x.lt).trans x
theorem XC.cells {w : World} {C n c : Nat} {r : AcR} {A : Option Addr} (x : XC w C r A n c) : w.cell? ⟨C, 0, none⟩ = some (.int .i64 r.op) ∧ w.cell? ⟨C, 1, none⟩ = some (.int .i64 r.kind) ∧ w.cell? ⟨C, 2, none⟩ = some (.int .i64 r.tag) ∧ w.cell? ⟨C, 3, none⟩ = some (.int .i64 r.i) ∧ w.cell? ⟨C, 4, none⟩ = some (.int .u64 r.p) ∧ w.cell? ⟨C, 5, none⟩ = some (.int .u64 r.x) ∧ w.cell? ⟨C, 6, none⟩ = some (.slice A n c) := by
  unfold XC at x
  refine ⟨?_, ?_, ?_, ?_, ?_, ?_, ?_⟩ <;> (unfold World.cell?; rw [x]; rfl)
end Go.Proofs.Ytknpgmbniohcnaa
