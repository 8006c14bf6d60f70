import Derived.Test.YtanhkchpffkloaaGreatDoorEu
import Derived.OrdersIn
import Derived.LoopNIn
import Derived.TacticsIn
import Derived.RangeFuncRecord
namespace Go.Proofs.YtanhkchpffkloaaGreatDoor
open Go Go.RowKit
set_option linter.unusedVariables false
set_option linter.unusedSimpArgs false
noncomputable section
variable {ds : List Deferred}
/-! ### code walked in a function's frame (ro = none) or in a round's of a range over a function -/
def FF (ro : Option Nat) : Fence := { Fence.wide with round := ro }
theorem room_FF (ro : Option Nat) (n : Nat) : (FF ro).room n := fun d h => by cases h
theorem callsIn_FF {ro : Option Nat} {n : Nat} {P : Program} {f : FuncId} {args : Array Value} {w : World} {R : Ending → World → Prop} : CallsIn (FF ro) n P f args w R ↔ Calls P f args w R := by
  rw [← callsIn_wide (n := n)]
  exact ⟨fun h => ⟨h.1, fun cs _ => h.2 cs (room_FF ro _)⟩, fun h => ⟨h.1, fun cs _ => h.2 cs (room_wide _)⟩⟩
theorem rowsIn_FF {ro : Option Nat} {n : Nat} {P : Program} {row : String} {args : Array Value} {w : World} {R : Value → World → Prop} (h : Rows P row args w R) : RowsIn (FF ro) n P row args w R := fun c cs _ => by
  obtain ⟨v, w', r, s⟩ := h c cs
  exact ⟨v, w', r, stepsIn_wide.2 s⟩
theorem opIn_FF {ro : Option Nat} {n : Nat} {P : Program} {o : Oper} (hnd : ∀ c, o.op ≠ .defer c) {a : Act} {w : World} {K K' : Act → World → Prop} {Q : Exit → Act → World → Prop} (hK : ∀ a w, K a w → K' a w) (h : o.wp P a w K Q) : o.wpIn (FF ro) n P a w K' Q := by
  refine ⟨fun _ _ => trivial, ?_⟩
  rw [Oper.semAt_eq _ _ _ hnd]
  unfold Oper.wp at h
  generalize (execOp a.eval o).run P w = r at *
  cases r with
  | ok n' w' =>
    cases n' with
    | value v => exact hK _ _ h
    | skip => exact hK _ _ h
    | defer d => exact hK _ _ h
    | enter f args =>
      refine ⟨fun h => (by cases h), callsIn_FF.2 (Calls.mono h fun e w'' he => ?_)⟩
      cases e with
      | returned v => exact hK _ _ he
      | panicked c => exact he
      | outgrown => exact he
    | row row args => exact ⟨fun h => (by cases h), rowsIn_FF (Rows.mono h fun _ _ he => hK _ _ he)⟩
    | _ => exact h.elim
  | halt x w' =>
    cases x with
    | panic v => exact h
    | _ => exact h.elim
def NoDefer (ops : Array Oper) : Prop := ∀ (i : Nat) (o : Oper), ops[i]? = some o → ∀ c, o.op ≠ .defer c
theorem opsIn_FF {ro : Option Nat} {n : Nat} {P : Program} {ops : Array Oper} (hnd : NoDefer ops) {Q : Exit → Act → World → Prop} (hl : ¬ LetsOut Q) : ∀ (l : List Nat) (a : Act) (w : World), wpOps P ops Q l a w → wpOpsIn (FF ro) n P ops Q l a w
  | [], a, w, h => h
  | i :: l, a, w, h => by
    unfold wpOps at h
    unfold wpOpsIn
    cases ho : ops[i]? with
    | none => simp only [ho] at h ⊢; exact opsIn_FF hnd hl l a w h
    | some o =>
      simp only [ho] at h ⊢
      split
      · rename_i hw
        rw [if_pos hw] at h
        rcases h with h | h
        · exact opIn_FF (hnd i o ho) (fun a w h => opsIn_FF hnd hl l a w h) h
        · exact absurd h.2 hl
      · rename_i hw
        rw [if_neg hw] at h
        exact ⟨fun _ _ => trivial, opsIn_FF hnd hl l _ w h⟩
theorem wpOpIn_FF {ro : Option Nat} {n : Nat} {P : Program} {ops : Array Oper} (hnd : NoDefer ops) {Q : Exit → Act → World → Prop} (hl : ¬ LetsOut Q) {i : Nat} {K K' : Act → World → Prop} (hK : ∀ a w, K a w → K' a w) {a : Act} {w : World} (h : wpOp P ops Q i K a w) : wpOpIn (FF ro) n P ops Q i K' a w := by
  unfold wpOp at h
  unfold wpOpIn
  cases ho : ops[i]? with
  | none => simp only [ho] at h ⊢; exact hK _ _ h
  | some o =>
    simp only [ho] at h ⊢
    split
    · rename_i hw
      rw [if_pos hw] at h
      rcases h with h | h
      · exact opIn_FF (hnd i o ho) hK h
      · exact absurd h.2 hl
    · rename_i hw
      rw [if_neg hw] at h
      exact ⟨fun _ _ => trivial, hK _ _ h⟩
theorem anyIn_FF {ro : Option Nat} {n : Nat} {P : Program} {ops : Array Oper} (hnd : NoDefer ops) {Q : Exit → Act → World → Prop} (hl : ¬ LetsOut Q) : ∀ (f : Nat) (L : Array Bool) (a : Act) (w : World), wpAny P .any ops Q f L a w → wpAnyIn (FF ro) n P .any ops Q f L a w
  | 0, _, _, _, h => h
  | f + 1, L, a, w, h => ⟨h.1, fun i hi => wpOpIn_FF hnd hl (fun a w h => anyIn_FF hnd hl f _ a w h) (h.2 i hi)⟩
def wpR (ro : Option Nat) (P : Program) (c : Code) (Q : Exit → Act → World → Prop) (a : Act) (w : World) : Prop := ∀ n, c.wpIn (FF ro) n P Q a w
section
variable {ro : Option Nat} {P : Program} {Q : Exit → Act → World → Prop} {a : Act} {w : World}
theorem wpR_none {c : Code} (h : wpR none P c Q a w) : c.wp P Q a w := wpIn_wide.1 (h 0)
theorem wpR_mono {c : Code} {Q' : Exit → Act → World → Prop} (h : wpR ro P c Q a w) (hq : ∀ e a w, Q e a w → Q' e a w) : wpR ro P c Q' a w := fun n => wpIn_mono (h n) hq
theorem wpR_skip (h : Q .normal a w) : wpR ro P .skip Q a w := fun n => wpIn_skip h
theorem wpR_ret (h : Q .ret a w) : wpR ro P .ret Q a w := fun n => wpIn_ret h
theorem wpR_exit {id : Nat} (h : Q (.exit id) a w) : wpR ro P (.exit id) Q a w := fun n => wpIn_exit h
theorem wpR_seq {x y : Code} (h : wpR ro P x (Exit.then (wpR ro P y Q) Q) a w) : wpR ro P (.seq x y) Q a w := fun n => wpIn_seq (wpIn_mono (h n) fun e a w he => by
  cases e with
  | normal => exact he n
  | exit id => exact he
  | goto l => exact he
  | ret => exact he
  | panic ch => exact he
  | outgrown => exact he)
theorem wpR_cond {c : Operand} {x y : Code} {t : Bool} (hc : a.eval c = .bool t) (h : wpR ro P (if t then x else y) Q a w) : wpR ro P (.cond c x y) Q a w := fun n => wpIn_cond hc (h n)
theorem wpR_block {id : Nat} {c : Code} (h : wpR ro P c (Exit.inBlock id Q) a w) : wpR ro P (.block id c) Q a w := fun n => wpIn_block (h n)
def roundsR (ro : Option Nat) (P : Program) (c : Code) (Q : Exit → Act → World → Prop) : Nat → Act → World → Prop
  | 0, _, _ => False
  | m + 1, a, w => wpR ro P c (Exit.then (roundsR ro P c Q m) Q) a w
theorem roundsR_in {c : Code} (n : Nat) : ∀ (m : Nat) (a : Act) (w : World), roundsR ro P c Q m a w → Code.roundsIn (FF ro) n P c Q m a w
  | 0, _, _, h => h
  | m + 1, a, w, h => by
    rw [roundsIn_succ]
    refine wpIn_mono (h n) fun e a w he => ?_
    cases e with
    | normal => exact roundsR_in n m a w he
    | exit id => exact he
    | goto l => exact he
    | ret => exact he
    | panic ch => exact he
    | outgrown => exact he
theorem wpR_loop_rounds {c : Code} (m : Nat) (h : roundsR ro P c Q m a w) : wpR ro P (.loop c) Q a w := fun n => wpIn_loop_rounds m (roundsR_in n m a w h)
theorem roundsR_mono {c : Code} {Q' : Exit → Act → World → Prop} (hq : ∀ e a w, Q e a w → Q' e a w) : ∀ (m : Nat) (a : Act) (w : World), roundsR ro P c Q m a w → roundsR ro P c Q' m a w
  | 0, _, _, h => h
  | m + 1, a, w, h => wpR_mono h fun x a1 w1 hp => by
    cases x with
    | normal => exact roundsR_mono hq m _ _ hp
    | exit id => exact hq _ _ _ hp
    | goto l => exact hq _ _ _ hp
    | ret => exact hq _ _ _ hp
    | panic ch => exact hq _ _ _ hp
    | outgrown => exact hq _ _ _ hp
theorem wpR_region {id : Nat} {ops : Array Oper} (hnd : NoDefer ops) (hl : ¬ LetsOut Q) (h : wpOps P ops Q (List.range ops.size) a w) : wpR ro P (.region id ops false) Q a w := fun n => wpIn_region (opsIn_FF hnd hl _ a w h)
theorem wpR_region_any {id : Nat} {ops : Array Oper} (hnd : NoDefer ops) (hl : ¬ LetsOut Q) (hm : P.follows .mixedOrders = true) (h : wpAny P .any ops Q ops.size (Array.replicate ops.size false) a { w with drawn := w.drawn + 1 }) : wpR ro P (.region id ops true) Q a w := fun n => wpIn_region_any hm (anyIn_FF hnd hl _ _ a _ h)
end
theorem post_stays {e : Ex} {A' : AA} {H' : Hp} {E : Env} {H : Hp} {w : World} : ¬ LetsOut (Post ds e A' H' E H w) := fun ⟨a, w', h⟩ => by
  have h1 := h.1
  cases e <;> cases h1
/-! ### no code that defers -/
def ndOp (o : Op) : Bool := match o with
  | .defer _ => false
  | _ => true
def ndOps (l : List Oper) : Bool := List.rec (motive := fun _ => Bool) true (fun o _ ih => ite' (ndOp o.op) ih false) l
theorem ndOps_ok : ∀ {l : List Oper}, ndOps l = true → ∀ o ∈ l, ∀ c, o.op ≠ .defer c
  | [], _, o, ho => by cases ho
  | o :: l, h, o2, ho => fun c e => by
    obtain ⟨h1, h2⟩ := ite'_true_eq (show ite' (ndOp o.op) (ndOps l) false = true from h)
    rcases List.mem_cons.1 ho with e1 | e1
    · subst e1; rw [e] at h1; cases h1
    · exact ndOps_ok h2 o2 e1 c e
theorem noDefer_of {ops : Array Oper} (h : ndOps ops.toList = true) : NoDefer ops := fun i o ho => ndOps_ok h o (by
  have := Array.mem_of_getElem? ho
  simpa using this)
def nrCode (c : Code) : Bool :=
  Code.rec (motive := fun _ => Bool) true (fun _ _ _ => true) (fun _ _ a b => ite' a b false) (fun _ _ _ a b => ite' a b false) (fun _ _ a => a) (fun _ a => a) (fun _ _ _ _ _ _ => false) (fun _ => true) (fun _ a => a) (fun _ => true) (fun _ => true) true (fun _ => true) c
def ndCode (c : Code) : Bool :=
  Code.rec (motive := fun _ => Bool) true (fun _ ops _ => ndOps ops.toList) (fun _ _ a b => ite' a b false) (fun _ _ _ a b => ite' a b false) (fun _ _ a => a) (fun _ a => a) (fun _ _ x y a b => ite' (nrCode x) (ite' (nrCode y) (ite' a b false) false) false) (fun _ => true) (fun _ a => a) (fun _ => true) (fun _ => true) true (fun _ => true) c
/-! ### the marks that ranges over functions leave among what is deferred -/
def markD (D : Nat) : Deferred := { target := .collected D, args := #[] }
structure Mks (B : Nat) (w : World) (ms : List Nat) : Prop where
  nd : ms.Nodup
  at_ : ∀ D ∈ ms, B ≤ D ∧ w.heap[D]? = some (.deferred (some []))
theorem Mks.nil {B : Nat} {w : World} : Mks B w [] := ⟨List.nodup_nil, fun D hD => by cases hD⟩
theorem Mks.mono {B B' : Nat} {w : World} {ms : List Nat} (h : Mks B w ms) (hB : B' ≤ B) : Mks B' w ms := ⟨h.nd, fun D hD => ⟨Nat.le_trans hB (h.at_ D hD).1, (h.at_ D hD).2⟩⟩
theorem HRel.notD {E : Env} {H : Hp} {w : World} (hr : HRel E H w) {D b : Nat} {x : Blk} {o : Option (List Deferred)} (hD : w.heap[D]? = some (.deferred o)) (hb : H.b.get b = some x) : E.s b ≠ D := fun e => by
  have := hr.rel b x hb
  rw [e, hD] at this
  unfold BR at this
  split at this
  · obtain ⟨cs, fz, h1, _⟩ := this; cases h1
  · obtain ⟨es', h1, _⟩ := this; cases h1
  · cases this
  · obtain ⟨cs, e, fz, h1, _⟩ := this; cases h1
theorem Mks.keep {B : Nat} {w1 w2 : World} {ms : List Nat} (h : Mks B w1 ms) {E1 E2 : Env} {H1 H2 : Hp} (hr : HRel E1 H1 w1) (g : Gd E1 E2 H1 H2 w1 w2) : Mks B w2 ms := ⟨h.nd, fun D hD => by
  obtain ⟨h1, h2⟩ := h.at_ D hD
  refine ⟨h1, ?_⟩
  rw [g.frame D (Array.getElem?_eq_some_iff.1 h2).1 fun b x hb _ => hr.notD h2 hb]
  exact h2⟩
/-- what a piece of code comes to; there may be marks more. -/
def PostM (ds : List Deferred) (e : Ex) (A' : AA) (H' : Hp) (E : Env) (H : Hp) (w : World) : Exit → Act → World → Prop := fun x a' w' => x = e.out ∧ ∃ (E' : Env) (ms : List Nat), Gd E E' H H' w w' ∧ AR (ms.map markD ++ ds) E' H'.next A' a' ∧ HRel E' H' w' ∧ Mks w.heap.size w' ms
theorem Post.m {e : Ex} {A' : AA} {H' : Hp} {E : Env} {H : Hp} {w : World} {x : Exit} {a' : Act} {w' : World} (h : Post ds e A' H' E H w x a' w') : PostM ds e A' H' E H w x a' w' := by
  obtain ⟨h1, E', g, ha, hr⟩ := h
  exact ⟨h1, E', [], g, ha, hr, .nil⟩
theorem PostM.comp {e : Ex} {A' : AA} {E E1 : Env} {H H1 H' : Hp} {w w1 : World} {ms1 : List Nat} (g : Gd E E1 H H1 w w1) (hr1 : HRel E1 H1 w1) (hm : Mks w.heap.size w1 ms1) {x : Exit} {a' : Act} {w' : World} (h : PostM (ms1.map markD ++ ds) e A' H' E1 H1 w1 x a' w') : PostM ds e A' H' E H w x a' w' := by
  obtain ⟨h1, E', ms, g2, ha, hr, hm2⟩ := h
  refine ⟨h1, E', ms ++ ms1, g.trans g2, by rw [List.map_append, List.append_assoc]; exact ha, hr, ⟨?_, fun D hD => ?_⟩⟩
  · refine List.nodup_append.2 ⟨hm2.nd, hm.nd, fun D h3 D' h4 e => ?_⟩
    subst e
    have h5 := (hm2.at_ D h3).1
    have h6 := (Array.getElem?_eq_some_iff.1 (hm.at_ D h4).2).1
    omega
  · rcases List.mem_append.1 hD with h3 | h3
    · exact ⟨Nat.le_trans g.size (hm2.at_ D h3).1, (hm2.at_ D h3).2⟩
    · exact (hm.keep hr1 g2).at_ D h3
theorem postM_stays {e : Ex} {A' : AA} {H' : Hp} {E : Env} {H : Hp} {w : World} : ¬ LetsOut (PostM ds e A' H' E H w) := fun ⟨a, w', h⟩ => by
  have h1 := h.1
  cases e <;> cases h1
/-- a function leaves: its marks are taken. -/
theorem leave_ms {P : Program} {n : Nat} {fn : Func} {tmps : Array Value} {R : Ending → World → Prop} {E E1 : Env} {H H1 : Hp} {w : World} (hend : ∀ w2, HRel E1 H1 w2 → Gd E E1 H H1 w w2 → ∃ v, (results fn tmps).run P w2 = .ok v w2 ∧ R (.returned v) w2) :
    ∀ (ms : List Nat) (w1 : World), Mks w.heap.size w1 ms → HRel E1 H1 w1 → Gd E E1 H H1 w w1 → LeavesInM (FF none) n P fn tmps R (ms.map markD) .returning w1
  | [], w1, _, hr, g => hend w1 hr g
  | D :: ms, w1, hm, hr, g => by
    obtain ⟨h1, h2⟩ := hm.at_ D (List.mem_cons_self ..)
    have hheap : ∀ i, i ≠ D → (w1.putObj D (.deferred none)).heap[i]? = w1.heap[i]? := fun i hi => World.putObj_heap_other hi
    refine ⟨fun h => (by cases h), .inl ⟨D, w1.putObj D (.deferred none), rfl, run_takeDeferred h2, leave_ms hend ms _ ⟨(List.nodup_cons.1 hm.nd).2, fun D' hD' => ?_⟩ ⟨hr.lt, fun b x hb => ?_, hr.inj⟩ ⟨g.le, g.ag, g.dom, g.os, g.tape, g.output, ?_, fun i hi hf => ?_⟩⟩⟩
    · have hne : D' ≠ D := fun e => (List.nodup_cons.1 hm.nd).1 (e ▸ hD')
      obtain ⟨k1, k2⟩ := hm.at_ D' (List.mem_cons_of_mem _ hD')
      exact ⟨k1, by rw [hheap D' hne]; exact k2⟩
    · rw [hheap _ (hr.notD h2 hb)]; exact hr.rel b x hb
    · have : (w1.putObj D (.deferred none)).heap.size = w1.heap.size := by simp [World.putObj]
      rw [this]; exact g.size
    · rw [hheap i (by omega)]; exact g.frame i hi hf
end
end Go.Proofs.YtanhkchpffkloaaGreatDoor
