import Derived.Test.YtclilpabdcdeoaaDoorRv
import Derived.Test.YtclilpabdcdeoaaDoorSm
import Derived.Maps.AppendAt
import Derived.Laws.OwnMore
import Derived.Deep.AppendLies
import Derived.OwnWalk
import Derived.Handy
namespace Go.Proofs.YtclilpabdcdeoaaDoor
open Go.ChangeShapes Go.WideShapes Go.ChangeAt Go.RowKit
set_option linter.unusedVariables false
theorem info46 : (Tryd.prog.info? 46).map (fun i => (i.zero, i.size, i.bytes)) = some (some (.agg #[.int .i64 0, .int .i64 0, .string .empty, .slice none 0 0, .int .i64 0, .pointer none, .int .i64 0, .int .i64 0]), 8, 88) := by kernel_rfl
theorem bdr (w : World) : Below w.heap.size w w.drew := ⟨rfl, rfl, rfl, Nat.le_refl _, fun _ _ => rfl⟩
theorem Below.own {w w' : World} {B : Nat} {e : TypeId} {s n : Nat} {v : Value} {xs : List Value} (hb : Below w.heap.size w w') (h : w.ownsRow B e s v n xs) : w'.ownsRow B e s v n xs := by
  refine ⟨h.1, ?_⟩
  rcases h.2 with h2 | ⟨g, cap, cur, rfl, e2, e3, e4⟩
  · exact .inl h2
  · exact .inr ⟨g, cap, cur, rfl, e2, by rw [hb.block g (Array.getElem?_eq_some_iff.1 e3).1]; exact e3, e4⟩
theorem vformZ {w : World} {B : Nat} {e : TypeId} {s n : Nat} {v : Value} {xs : List Value} (h : w.ownsRow B e s v n xs) : ∃ A c, v = .slice A n c := by
  rcases h.2 with ⟨rfl, rfl⟩ | ⟨g, cap, _, e, _⟩
  · exact ⟨_, _, rfl⟩
  · exact ⟨_, _, e⟩
theorem VIn.bounds {w : World} {V : VT} {v : Value} (h : VIn w V v) : -9223372036854775808 ≤ V.n ∧ V.n ≤ 9223372036854775807 := by
  obtain ⟨_, _, _, _, h, _⟩ := h; exact h
/-- an append at a step of a region, whatever the slice that is appended: nil, empty or not. -/
theorem step_append_sl {P : Program} {ops : Array Oper} {o : Oper} {a : Act} {w : World} {K : Act → World → Prop} {Q : Exit → Act → World → Prop} {E : Prop} (hgd : o.guard = none) (s x : Operand) (t : TypeId)
    (ho : o.op = .call { callee := .builtin .append, args := #[s, x], argTypes := #[t, t] })
    (base : Nat) (e : TypeId) (i : TypeInfo) (z : Value) (size bytes : Nat) (ht : P.underlying t = some (.slice e)) (hi : P.info? e = some i) (hz : i.zero = some z)
    (hsize : i.size = size) (hby : i.bytes = bytes) (hzs : z.cells.size = size) (hsz : 0 < size)
    (v : Value) (n : Nat) (xs : List Value) (hs : a.eval s = v) (hown : w.ownsRow base e size v n xs)
    (A : Option Addr) (m c : Nat) (news : List Value) (hx : a.eval x = .slice A m c) (hl : news.length = m * size) (hnone : A = none → m = 0 ∧ c = 0) (hnews : ∀ ad, A = some ad → ∀ j u, news[j]? = some u → w.cell? (ad.add j) = some u) (h1 : ∀ u ∈ news, u.oneCell' = true)
    (h63 : n + m ≤ maxLen) (hbytes : (n + m) * bytes ≤ 140737488355328) (hbase : base ≤ w.heap.size)
    (h : ∀ v' w', w'.ownsRow base e size v' (n + m) (xs ++ news) → w.grownBy w' v.ownBlock → (v'.ownBlock = v.ownBlock ∨ v'.ownBlock = some w.heap.size) → K (a.put o.dst v') w') :
    if Region.wanted o (yielded ops a.tmps) = true then Oper.wp P o a w K Q else E := by
  have hw : Region.wanted o (yielded ops a.tmps) = true := by simp [Region.wanted, hgd]
  rw [if_pos hw]
  cases A with
  | none =>
    obtain ⟨rfl, rfl⟩ := hnone rfl
    have hn0 : news = [] := List.eq_nil_of_length_eq_zero (by omega)
    subst hn0
    have hrun := run_append_owned_none (P := P) (w := w) base t o.type e i size ht hi v n xs hown
    unfold Oper.wp
    simp [execOp, ho, resolve, invoke, builtin, hs, hx, hrun, Result.andThen]
    exact h v w (by simpa using hown) (World.grownBy.refl w _) (.inl rfl)
  | some ad =>
    obtain ⟨v', w', hr, h2, h3, h4, h5⟩ := run_append_own_at (P := P) w base t o.type e i z size bytes ht hi hz hsize hby hzs hsz v n xs hown ad m c news hl (hnews ad rfl) h1 h63 hbytes hbase
    unfold Oper.wp execOp
    simp only [ho, resolve, invoke, builtin, Sem.run_bind, Sem.run_pure, Result.andThen_ok, List.map_toArray, List.map_cons, List.map_nil, hs, hx, hr]
    exact h v' w' h2 h3 h5
theorem heap3 (w : World) (O1 O2 O3 : Obj) : (((w.alloc O1).alloc O2).alloc O3).heap[w.heap.size]? = some O1 ∧ (((w.alloc O1).alloc O2).alloc O3).heap[w.heap.size + 1]? = some O2 ∧ (((w.alloc O1).alloc O2).alloc O3).heap[w.heap.size + 2]? = some O3 := by
  have e : (((w.alloc O1).alloc O2).alloc O3).heap = ((w.heap.push O1).push O2).push O3 := rfl
  rw [e]
  refine ⟨?_, ?_, ?_⟩
  · rw [Array.getElem?_push, if_neg (by simp only [Array.size_push]; omega), Array.getElem?_push, if_neg (by simp only [Array.size_push]; omega), Array.getElem?_push, if_pos rfl]
  · rw [Array.getElem?_push, if_neg (by simp only [Array.size_push]; omega), Array.getElem?_push, if_pos (by simp only [Array.size_push])]
  · rw [Array.getElem?_push, if_pos (by simp only [Array.size_push])]
structure SK (q : Nat) (w w' : World) : Prop where
  os : w'.os = w.os
  tape : w'.tape = w.tape
  output : w'.output = w.output
  size : w.heap.size ≤ w'.heap.size
  block : ∀ b, b ≠ q → w'.heap[b]? = w.heap[b]?
theorem SK.refl (q : Nat) (w : World) : SK q w w := ⟨rfl, rfl, rfl, Nat.le_refl _, fun _ _ => rfl⟩
theorem SK.set {q : Nat} {w w' : World} (h : SK q w w') (i : Nat) (v : Value) : SK q w (w'.setCell ⟨q, i, none⟩ v) :=
  ⟨h.os, h.tape, h.output, by have := h.size; simpa [World.setCell] using this, fun b hb => (by simp [World.setCell, Array.getElem?_modify, Ne.symm hb] : (w'.setCell ⟨q, i, none⟩ v).heap[b]? = w'.heap[b]?).trans (h.block b hb)⟩
def VlPost (w : World) (V : VT) (e : Ending) (w' : World) : Prop := ∃ A c, e = .returned (.agg #[.int .i64 V.k, .int .i64 V.n, .string V.nm, .slice A V.args.length c, .int .i64 V.node, .pointer none, .int .i64 V.at_, .int .i64 0]) ∧ RRow w' (fun b => w.heap.size ≤ b) A V.args ∧ Below w.heap.size w w'
structure VlS (w : World) (V : VT) (args : List VT) (A : Option Addr) (c : Nat) (e : Value) (k : Nat) (v : Value) (xs : List Value) (wr : World) : Prop where
  bel : Below w.heap.size w wr
  s0 : w.heap.size + 3 ≤ wr.heap.size
  box : wr.heap[w.heap.size]? = some (.cells #[.int .i64 V.k, .int .i64 V.n, .string V.nm, .slice A args.length c, .int .i64 V.node, e, .int .i64 V.at_] 26 (0, 0))
  res : wr.heap[w.heap.size + 1]? = some (.cells #[.int .i64 0, .int .i64 0, .string .empty, .slice none 0 0, .int .i64 0, .pointer none, .int .i64 0, .int .i64 0] 46 (0, 0))
  st : wr.heap[w.heap.size + 2]? = some (.cells #[.int .i64 V.k, .int .i64 V.n, .string V.nm, v, .int .i64 V.node, .pointer none, .int .i64 V.at_, .int .i64 0] 46 (0, 0))
  own : wr.ownsRow (w.heap.size + 3) 46 8 v k xs
  kids : Kids wr (fun b => w.heap.size + 3 ≤ b ∧ v.ownBlock ≠ some b) (args.take k) xs
theorem VlS.step {w wr w2 w4 : World} {V : VT} {args : List VT} {A A2 : Option Addr} {c : Nat} {e : Value} {k c2 : Nat} {v v' : Value} {xs : List Value} (h : VlS w V args A c e k v xs wr) (hk : k < args.length) (hn : -9223372036854775808 ≤ args[k].n ∧ args[k].n ≤ 9223372036854775807)
    (hb2 : Below wr.heap.size wr w2) (hr2 : RRow w2 (fun b => wr.heap.size ≤ b) A2 args[k].args) (ob : Obj)
    (own4 : w4.ownsRow (w.heap.size + 3) 46 8 v' (k + 1) (xs ++ kidV args[k] A2 c2)) (gr4 : (w2.alloc ob).grownBy w4 v.ownBlock) (at4 : v'.ownBlock = v.ownBlock ∨ v'.ownBlock = some (w2.alloc ob).heap.size) :
    VlS w V args A c e (k + 1) v' (xs ++ kidV args[k] A2 c2) (w4.setCell ⟨w.heap.size + 2, 3, none⟩ v') := by
  have hs := h.s0
  have hv : ∀ b, v.ownBlock = some b → w.heap.size + 3 ≤ b ∧ b < wr.heap.size := fun b hb => h.own.lt b hb
  have h2s := hb2.size
  have h3s : (w2.alloc ob).heap.size = w2.heap.size + 1 := by show (w2.heap.push ob).size = _; simp
  have h4s := gr4.size
  have hset : (w4.setCell ⟨w.heap.size + 2, 3, none⟩ v').heap.size = w4.heap.size := by simp [World.setCell]
  -- a block that is neither v's nor the struct's
  have keep : ∀ b, b < w2.heap.size → v.ownBlock ≠ some b → b ≠ w.heap.size + 2 → (w4.setCell ⟨w.heap.size + 2, 3, none⟩ v').heap[b]? = w2.heap[b]? := by
    intro b hb hne hne2
    rw [show (w4.setCell ⟨w.heap.size + 2, 3, none⟩ v').heap[b]? = w4.heap[b]? from by simp [World.setCell, Array.getElem?_modify, Ne.symm hne2]]
    rw [gr4.block b (by omega) (fun e => hne e.symm)]
    show (w2.heap.push ob)[b]? = _
    rw [Array.getElem?_push, if_neg (by omega)]
  have keepr : ∀ b, b < wr.heap.size → v.ownBlock ≠ some b → b ≠ w.heap.size + 2 → (w4.setCell ⟨w.heap.size + 2, 3, none⟩ v').heap[b]? = wr.heap[b]? := fun b hb hne hne2 => (keep b (by omega) hne hne2).trans (hb2.block b hb)
  have low : ∀ b, b < w.heap.size + 2 → v.ownBlock ≠ some b := fun b hb e => by have := hv b e; omega
  have hv' : ∀ b, b < w2.heap.size → v.ownBlock ≠ some b → v'.ownBlock ≠ some b := fun b hb hne e => by
    rcases at4 with q | q
    · exact hne (q.symm.trans e)
    · rw [q] at e; injection e with e; omega
  refine ⟨⟨?_, ?_, ?_, by omega, fun b hb => ?_⟩, by omega, ?_, ?_, ?_, ?_, ?_⟩
  · exact gr4.os.trans (hb2.os.trans h.bel.os)
  · exact gr4.tape.trans (hb2.tape.trans h.bel.tape)
  · exact gr4.output.trans (hb2.output.trans h.bel.output)
  · exact (keepr b (by omega) (low b (by omega)) (by omega)).trans (h.bel.block b hb)
  · exact (keepr _ (by omega) (low _ (by omega)) (by omega)).trans h.box
  · exact (keepr _ (by omega) (low _ (by omega)) (by omega)).trans h.res
  · have e4 : w4.heap[w.heap.size + 2]? = wr.heap[w.heap.size + 2]? := by
      rw [gr4.block _ (by omega) (fun e => by have := hv _ e.symm; omega)]
      show (w2.heap.push ob)[w.heap.size + 2]? = _
      rw [Array.getElem?_push, if_neg (by omega)]
      exact hb2.block _ (by omega)
    rw [h.st] at e4
    simp [World.setCell, Array.getElem?_modify, e4]
  · refine ⟨own4.1, ?_⟩
    rcases own4.2 with q | ⟨g, cap, cur, q1, q2, q3, q4⟩
    · exact .inl q
    · refine .inr ⟨g, cap, cur, q1, q2, ?_, q4⟩
      simpa [World.setCell, Array.getElem?_modify, show ¬ (w.heap.size + 2 = g) by omega] using q3
  · rw [List.take_succ_eq_append_getElem hk]
    refine Kids.snoc hn ?_ ?_
    · exact hr2.move (fun b hb hp => ⟨keep b hb (fun e => by have := hv b e; omega) (by omega), by omega, hv' b hb (fun e => by have := hv b e; omega)⟩) (by omega)
    · exact h.kids.move (fun b hb hp => ⟨keepr b hb hp.2 (by omega), hp.1, hv' b (by omega) hp.2⟩) (by omega)
theorem VlS.start {w : World} {V : VT} {args : List VT} {A : Option Addr} {c : Nat} {e : Value} : VlS w V args A c e 0 (.slice none 0 0) [] (((w.alloc (.cells #[.int .i64 V.k, .int .i64 V.n, .string V.nm, .slice A args.length c, .int .i64 V.node, e, .int .i64 V.at_] 26)).alloc (.cells #[.int .i64 0, .int .i64 0, .string .empty, .slice none 0 0, .int .i64 0, .pointer none, .int .i64 0, .int .i64 0] 46)).alloc (.cells #[.int .i64 V.k, .int .i64 V.n, .string V.nm, .slice none 0 0, .int .i64 V.node, .pointer none, .int .i64 V.at_, .int .i64 0] 46)) := by
  refine ⟨?_, ?_, ?_, ?_, ?_, World.ownsRow_nil _ _ _ _, rfl⟩
  · exact (below_alloc w _).trans (((below_alloc _ _).trans ((below_alloc _ _).mono (below_alloc _ _).size)).mono (below_alloc _ _).size)
  · show _ ≤ (((w.heap.push _).push _).push _).size; simp
  · exact (heap3 w _ _ _).1
  · exact (heap3 w _ _ _).2.1
  · exact (heap3 w _ _ _).2.2
theorem VlS.fin {w wr w' : World} {V : VT} {args : List VT} {A : Option Addr} {c : Nat} {e : Value} {v : Value} {xs : List Value} (h : VlS w V args A c e args.length v xs wr) (hk : ∀ b, b < wr.heap.size → b ≠ w.heap.size + 1 → w'.heap[b]? = wr.heap[b]?) (hs : wr.heap.size ≤ w'.heap.size) (h1 : w'.os = wr.os) (h2 : w'.tape = wr.tape) (h3 : w'.output = wr.output) :
    ∃ A' c', v = .slice A' args.length c' ∧ RRow w' (fun b => w.heap.size ≤ b) A' args ∧ Below w.heap.size w w' := by
  have hs0 := h.s0
  have hkid := h.kids
  rw [List.take_length] at hkid
  have hb : Below w.heap.size w w' := ⟨h1.trans h.bel.os, h2.trans h.bel.tape, h3.trans h.bel.output, by omega, fun b hb => (hk b (by omega) (by omega)).trans (h.bel.block b hb)⟩
  rcases h.own.2 with ⟨q1, q2⟩ | ⟨g, cap, cur, q1, q2, q3, q4, q5, q6, q7⟩
  · refine ⟨none, 0, ?_, .inl q2, hb⟩
    rw [q1, q2]
  · refine ⟨_, _, q1, ?_, hb⟩
    have hg : g < wr.heap.size := (Array.getElem?_eq_some_iff.1 q3).1
    have hr : RRow wr (fun b => w.heap.size + 3 ≤ b) (some ⟨g, 0, none⟩) args := by
      refine .inr ⟨g, rfl, hg, q2, Kids.row (P := fun b => w.heap.size + 3 ≤ b) (hkid.move (fun b _ hp => ⟨rfl, hp.1⟩) (Nat.le_refl _)) (fun j hj => ?_)⟩
      rw [Nat.zero_add]
      have hown := h.own
      rw [q1] at hown
      exact (hown.cellAt j (by rw [← hown.1]; exact hj)).trans (List.getElem?_eq_getElem hj)
    exact hr.move (fun b hb hp => ⟨hk b hb (by omega), by omega⟩) hs
set_option maxRecDepth 100000 in
set_option maxHeartbeats 8000000 in
theorem vl_tree : ∀ (d : Nat) (V : VT) (v : Value) (w : World), bigD d V = false → VIn w V v → Calls Tryd.prog 18 #[v] w (VlPost w V) := by
  intro d
  induction d with
  | zero => intro V v w h; cases h
  | succ d ih =>
    intro V v w hbg ⟨A, c, e, hv, hn, hA⟩
    obtain ⟨b1, b2, b3⟩ := big_parts hbg
    obtain ⟨i0, hi0, hz0, hz1, hz2⟩ := info_parts info46
    subst hv
    have HI := Lib.hid ih
    have HA := Lib.hid hA
    have HBG := Lib.hid b3
    obtain ⟨args, ha⟩ : ∃ l, l = V.args := ⟨_, rfl⟩
    have HAR := Lib.hid ha
    rw [← ha] at HA HBG b1 ⊢
    clear ih hA hbg b2 b3 ha
    go_enter Tryd.func18, Tryd.ntmps18
    go_wp2
    go_loopw [4] (fun i wr => ∃ k v xs, k ≤ args.length ∧ i = .int .i64 (k : Nat) ∧ Hid (VlS w V args A c e k v xs wr)) (fun i _ => args.length - (intOf i).toNat)
    case atStart =>
      exact ⟨0, .slice none 0 0, [], by omega, rfl, Lib.hid VlS.start⟩
    case round =>
      obtain ⟨k, v, xs, hk, rfl, HS⟩ := hrel
      have q0 := HS.out.s0
      by_cases hlt : k < args.length
      · obtain ⟨Ar, cr, rfl⟩ := vformZ HS.out.own
        obtain ⟨b, o, rfl, hb, hr⟩ : ∃ b o, A = some ⟨b, o, none⟩ ∧ b < w.heap.size ∧ okL w args b o := by
          rcases HA.out with h1 | h1
          · omega
          · exact h1
        obtain ⟨b', o', hbo, _, hr1⟩ : ∃ b' o', some (⟨b, o, none⟩ : Addr) = some ⟨b', o', none⟩ ∧ b' < wr.heap.size ∧ okL wr args b' o' := by
          rcases (HA.out.later HS.out.bel : VRow wr (some ⟨b, o, none⟩) args) with h1 | h1
          · omega
          · exact h1
        injection hbo with hbo
        injection hbo with e1 e2
        subst e1 e2
        obtain ⟨A1, c1, e1, x0, x1, x2, x3, x4, x5, x6, hin⟩ := okV_in (okL_at hr1 k hlt)
        have HNK := Lib.hid hin.bounds
        have CALL : Hid (Calls Tryd.prog 18 #[.agg #[.int .i64 args[k].k, .int .i64 args[k].n, .string args[k].nm, .slice A1 args[k].args.length c1, .int .i64 args[k].node, e1, .int .i64 args[k].at_]] wr.drew (VlPost wr.drew args[k])) := Lib.hid (HI.out args[k] _ wr.drew (HBG.out args[k] (List.getElem_mem hlt)) (hin.later (bdr wr)))
        have z3 : wr.cell? ⟨w.heap.size, 3, none⟩ = some (.slice (some ⟨b, o, none⟩) args.length c) := by have := HS.out.box; simp [World.cell?, this]
        have fv : wr.drew.cell? ⟨w.heap.size + 2, 3, none⟩ = some (.slice Ar k cr) := by show wr.cell? _ = _; have := HS.out.st; simp [World.cell?, this]
        have d0 : wr.drew.cell? ⟨w.heap.size, 3, none⟩ = some (.slice (some ⟨b, o, none⟩) args.length c) := z3
        have d1 : wr.drew.cell? ⟨b, o + k * 7, none⟩ = some (.int .i64 args[k].k) := x0
        have d2 : wr.drew.cell? ⟨b, o + k * 7 + 1, none⟩ = some (.int .i64 args[k].n) := x1
        have d3 : wr.drew.cell? ⟨b, o + k * 7 + 2, none⟩ = some (.string args[k].nm) := x2
        have d4 : wr.drew.cell? ⟨b, o + k * 7 + 3, none⟩ = some (.slice A1 args[k].args.length c1) := x3
        have d5 : wr.drew.cell? ⟨b, o + k * 7 + 4, none⟩ = some (.int .i64 args[k].node) := x4
        have d6 : wr.drew.cell? ⟨b, o + k * 7 + 5, none⟩ = some (e1) := x5
        have d7 : wr.drew.cell? ⟨b, o + k * 7 + 6, none⟩ = some (.int .i64 args[k].at_) := x6
        clear x0 x1 x2 x3 x4 x5 x6
        clear hin hr hr1
        have hbne : ¬ (w.heap.size + 2 = b) := by omega
        have hlti : (k : Int) < (args.length : Int) := by omega
        go_wp2_with fail
        refine wp_region_held_drew (S := fun w' => w'.cell? ⟨w.heap.size, 3, none⟩ = some (.slice (some ⟨b, o, none⟩) args.length c) ∧ w'.cell? ⟨b, o + k * 7, none⟩ = some (.int .i64 args[k].k) ∧ w'.cell? ⟨b, o + k * 7 + 1, none⟩ = some (.int .i64 args[k].n) ∧ w'.cell? ⟨b, o + k * 7 + 2, none⟩ = some (.string args[k].nm) ∧ w'.cell? ⟨b, o + k * 7 + 3, none⟩ = some (.slice A1 args[k].args.length c1) ∧ w'.cell? ⟨b, o + k * 7 + 4, none⟩ = some (.int .i64 args[k].node) ∧ w'.cell? ⟨b, o + k * 7 + 5, none⟩ = some (e1) ∧ w'.cell? ⟨b, o + k * 7 + 6, none⟩ = some (.int .i64 args[k].at_)) (by kernel_rfl) ?_ (fun hHeld => ?_)
        · (try dsimp only); go_keep
        refine wpAnyH_take (i := 0) (oi := { dst := some 23, op := Go.Op.fieldAddr 46 (Go.Operand.tmp 3) 3, type := 0, pos := _, after := #[], guard := none }) (v := ?v0) rfl (by kernel_rfl) (by kernel_rfl) (by kernel_rfl) (fun _ _ _ h => h) (Or.inl ⟨by rfl, ?hy0⟩) (by assumption) ?_
        case hy0 => (intro wz hSw; (try dsimp only at hSw); go_simp; try with_reducible rfl)
        (try simp only [Act.put, List.setIfInBounds_toArray, List.set_cons_zero, List.set_cons_succ])
        refine wpAnyH_take (i := 2) (oi := { dst := some 25, op := Go.Op.fieldAddr 26 (Go.Operand.tmp 1) 3, type := 0, pos := _, after := #[], guard := none }) (v := ?v2) rfl (by kernel_rfl) (by kernel_rfl) (by kernel_rfl) (fun _ _ _ h => h) (Or.inl ⟨by rfl, ?hy2⟩) (by assumption) ?_
        case hy2 => (intro wz hSw; (try dsimp only at hSw); go_simp; try with_reducible rfl)
        (try simp only [Act.put, List.setIfInBounds_toArray, List.set_cons_zero, List.set_cons_succ])
        refine wpAnyH_take (i := 3) (oi := { dst := some 26, op := Go.Op.load 23 (Go.Operand.tmp 25), type := 23, pos := _, after := #[{ on := 2, ground := Go.Ground.data }], guard := none }) (v := ?v3) rfl (by kernel_rfl) (by kernel_rfl) (by kernel_rfl) (fun _ _ _ h => h) (Or.inl ⟨by rfl, ?hy3⟩) (by assumption) ?_
        case hy3 => (intro wz hSw; (try dsimp only at hSw); go_simp; try with_reducible rfl)
        (try simp only [Act.put, List.setIfInBounds_toArray, List.set_cons_zero, List.set_cons_succ])
        refine wpAnyH_take (i := 4) (oi := { dst := some 27, op := Go.Op.move (Go.Operand.tmp 4), type := 3, pos := _, after := #[], guard := none }) (v := ?v4) rfl (by kernel_rfl) (by kernel_rfl) (by kernel_rfl) (fun _ _ _ h => h) (Or.inl ⟨by rfl, ?hy4⟩) (by assumption) ?_
        case hy4 => (intro wz hSw; (try dsimp only at hSw); go_simp; try with_reducible rfl)
        (try simp only [Act.put, List.setIfInBounds_toArray, List.set_cons_zero, List.set_cons_succ])
        refine wpAnyH_take (i := 5) (oi := { dst := some 28, op := Go.Op.indexAddr 23 (Go.Operand.tmp 26) (Go.Operand.tmp 27), type := 0, pos := _, after := #[{ on := 3, ground := Go.Ground.data }, { on := 4, ground := Go.Ground.data }], guard := none }) (v := ?v5) rfl (by kernel_rfl) (by kernel_rfl) (by kernel_rfl) (fun _ _ _ h => h) (Or.inl ⟨by rfl, ?hy5⟩) (by assumption) ?_
        case hy5 => (intro wz hSw; (try dsimp only at hSw); go_simp; try with_reducible rfl)
        (try simp only [Act.put, List.setIfInBounds_toArray, List.set_cons_zero, List.set_cons_succ])
        refine wpAnyH_take (i := 6) (oi := { dst := some 29, op := Go.Op.load 26 (Go.Operand.tmp 28), type := 26, pos := _, after := #[{ on := 5, ground := Go.Ground.data }], guard := none }) (v := ?v6) rfl (by kernel_rfl) (by kernel_rfl) (by kernel_rfl) (fun _ _ _ h => h) (Or.inl ⟨by rfl, ?hy6⟩) (by assumption) ?_
        case hy6 => (intro wz hSw; (try dsimp only at hSw); go_simp; try with_reducible rfl)
        (try simp only [Act.put, List.setIfInBounds_toArray, List.set_cons_zero, List.set_cons_succ])
        refine wpAnyH_ready (rs := [1, 7]) (by kernel_rfl) (by simp) ?_
        refine AllReadyH.cons (o := { dst := some 24, op := Go.Op.load 43 (Go.Operand.tmp 23), type := 43, pos := _, after := #[{ on := 0, ground := Go.Ground.data }], guard := none }) rfl (fun K hK => ?_) (AllReadyH.cons (o := { dst := some 30, op := Go.Op.call { callee := Go.Callee.value (Go.Operand.func 18), args := #[Go.Operand.tmp 29], argTypes := #[26] }, type := 46, pos := _, after := #[{ on := 6, ground := Go.Ground.data }], guard := none }) rfl (fun K hK => ?_) AllReadyH.nil)
        · skip
          go_simp
          refine hK.out _ _ ?_ (fun hHeld => ?_)
          · (try dsimp only); go_keep
          clear hK K
          (try simp only [Act.put, List.setIfInBounds_toArray, List.set_cons_zero, List.set_cons_succ])
          refine wpAnyH_ready (rs := [7]) (by kernel_rfl) (by simp) ?_
          refine AllReadyH.cons (o := { dst := some 30, op := Go.Op.call { callee := Go.Callee.value (Go.Operand.func 18), args := #[Go.Operand.tmp 29], argTypes := #[26] }, type := 46, pos := _, after := #[{ on := 6, ground := Go.Ground.data }], guard := none }) rfl (fun K hK => ?_) AllReadyH.nil
          go_simp
          refine Calls.mono CALL.out ?_; rintro e2 w2 ⟨A2, c2, rfl, hr2, hb2⟩
          have y0 := keepC hb2 (show World.cell? _ ⟨w.heap.size, 3, none⟩ = some (.slice (some ⟨b, o, none⟩) args.length c) by assumption)
          have y1 := keepC hb2 (show World.cell? _ ⟨b, o + k * 7, none⟩ = some (.int .i64 args[k].k) by assumption)
          have y2 := keepC hb2 (show World.cell? _ ⟨b, o + k * 7 + 1, none⟩ = some (.int .i64 args[k].n) by assumption)
          have y3 := keepC hb2 (show World.cell? _ ⟨b, o + k * 7 + 2, none⟩ = some (.string args[k].nm) by assumption)
          have y4 := keepC hb2 (show World.cell? _ ⟨b, o + k * 7 + 3, none⟩ = some (.slice A1 args[k].args.length c1) by assumption)
          have y5 := keepC hb2 (show World.cell? _ ⟨b, o + k * 7 + 4, none⟩ = some (.int .i64 args[k].node) by assumption)
          have y6 := keepC hb2 (show World.cell? _ ⟨b, o + k * 7 + 5, none⟩ = some (e1) by assumption)
          have y7 := keepC hb2 (show World.cell? _ ⟨b, o + k * 7 + 6, none⟩ = some (.int .i64 args[k].at_) by assumption)
          have yv := keepC hb2 (show World.cell? _ ⟨w.heap.size + 2, 3, none⟩ = some (.slice Ar k cr) by assumption)
          have hB2 : Below wr.heap.size wr w2 := (bdr wr).trans hb2
          have own2 := Below.own hB2 HS.out.own
          go_wp2_with fail
          refine hK.out _ _ ?_ (fun hHeld => ?_)
          · (try dsimp only); go_keep
          clear hK K
          (try simp only [Act.put, List.setIfInBounds_toArray, List.set_cons_zero, List.set_cons_succ])
          refine wpAnyH_ready (rs := [8]) (by kernel_rfl) (by simp) ?_
          refine AllReadyH.cons (o := { dst := some 31, op := Go.Op.buildSlice 43 1 #[(0, Go.Operand.tmp 30)], type := 43, pos := _, after := #[{ on := 7, ground := Go.Ground.data }], guard := none }) rfl (fun K hK => ?_) AllReadyH.nil
          go_simp
          refine hK.out _ _ ?_ (fun hHeld => ?_)
          · (try dsimp only); go_keep
          clear hK K
          have yv3 : (w2.alloc (.cells #[.int .i64 args[k].k, .int .i64 args[k].n, .string args[k].nm, .slice A2 args[k].args.length c2, .int .i64 args[k].node, .pointer none, .int .i64 args[k].at_, .int .i64 0] 46)).cell? ⟨w.heap.size + 2, 3, none⟩ = some (.slice Ar k cr) := keepA _ yv
          (try simp only [Act.put, List.setIfInBounds_toArray, List.set_cons_zero, List.set_cons_succ])
          refine wpAnyH_ready (rs := [9]) (by kernel_rfl) (by simp) ?_
          refine AllReadyH.cons (o := { dst := some 32, op := Go.Op.call { callee := Go.Callee.builtin Go.Builtin.append, args := #[Go.Operand.tmp 24, Go.Operand.tmp 31], argTypes := #[43, 43] }, type := 43, pos := _, after := #[{ on := 1, ground := Go.Ground.data }, { on := 8, ground := Go.Ground.data }, { on := 7, ground := Go.Ground.chain }], guard := none }) rfl (fun K hK => ?_) AllReadyH.nil
          refine step_append_sl rfl (.tmp 24) (.tmp 31) 43 rfl (w.heap.size + 3) 46 i0 _ 8 88 Tryd.underlying43 hi0 hz0 hz1 hz2 rfl (by decide) (.slice Ar k cr) k xs rfl (own2.alloc (.cells #[.int .i64 args[k].k, .int .i64 args[k].n, .string args[k].nm, .slice A2 args[k].args.length c2, .int .i64 args[k].node, .pointer none, .int .i64 args[k].at_, .int .i64 0] 46)) (some ⟨w2.heap.size, 0, none⟩) 1 1 (kidV args[k] A2 c2) rfl rfl (fun h => by cases h) ?c1 ?c2 (by unfold maxLen; omega) (by omega) ?c3 ?_
          case c1 => (intro ad had; injection had with had; subst had; exact World.news_of_block (MapKept.heap_alloc w2 (.cells #[.int .i64 args[k].k, .int .i64 args[k].n, .string args[k].nm, .slice A2 args[k].args.length c2, .int .i64 args[k].node, .pointer none, .int .i64 args[k].at_, .int .i64 0] 46)).1)
          case c2 => (intro u hu; simp only [kidV, List.mem_cons, List.not_mem_nil, or_false] at hu; rcases hu with rfl | rfl | rfl | rfl | rfl | rfl | rfl | rfl <;> rfl)
          case c3 => (have := HS.out.s0; have := hB2.size; show _ ≤ (w2.heap.push _).size; simp; omega)
          intro v1 w4 own4 gr4 at4
          have HS2 := Lib.hid (HS.out.step (A2 := A2) (c2 := c2) hlt HNK.out hB2 hr2 (.cells #[.int .i64 args[k].k, .int .i64 args[k].n, .string args[k].nm, .slice A2 args[k].args.length c2, .int .i64 args[k].node, .pointer none, .int .i64 args[k].at_, .int .i64 0] 46) own4 gr4 at4)
          obtain ⟨Ar1, cr1, rfl⟩ := vformZ own4
          have FAR : ∀ q, q < w.heap.size + 3 → w4.heap[q]? = w2.heap[q]? := fun q hq => by
            have hB2s := hB2.size
            rw [gr4.block q (by show q < (w2.heap.push _).size; simp; omega) (fun e => by have := HS.out.own.lt q e.symm; omega)]
            show (w2.heap.push _)[q]? = _
            rw [Array.getElem?_push, if_neg (by omega)]
          have u0 : w4.cell? ⟨w.heap.size, 3, none⟩ = some (.slice (some ⟨b, o, none⟩) args.length c) := (World.cell?_of_block (FAR w.heap.size (by omega))).trans y0
          have u1 : w4.cell? ⟨b, o + k * 7, none⟩ = some (.int .i64 args[k].k) := (World.cell?_of_block (FAR b (by omega))).trans y1
          have u2 : w4.cell? ⟨b, o + k * 7 + 1, none⟩ = some (.int .i64 args[k].n) := (World.cell?_of_block (FAR b (by omega))).trans y2
          have u3 : w4.cell? ⟨b, o + k * 7 + 2, none⟩ = some (.string args[k].nm) := (World.cell?_of_block (FAR b (by omega))).trans y3
          have u4 : w4.cell? ⟨b, o + k * 7 + 3, none⟩ = some (.slice A1 args[k].args.length c1) := (World.cell?_of_block (FAR b (by omega))).trans y4
          have u5 : w4.cell? ⟨b, o + k * 7 + 4, none⟩ = some (.int .i64 args[k].node) := (World.cell?_of_block (FAR b (by omega))).trans y5
          have u6 : w4.cell? ⟨b, o + k * 7 + 5, none⟩ = some (e1) := (World.cell?_of_block (FAR b (by omega))).trans y6
          have u7 : w4.cell? ⟨b, o + k * 7 + 6, none⟩ = some (.int .i64 args[k].at_) := (World.cell?_of_block (FAR b (by omega))).trans y7
          have uv : w4.cell? ⟨w.heap.size + 2, 3, none⟩ = some (.slice Ar k cr) := (World.cell?_of_block (FAR _ (by show w.heap.size + 2 < _; omega))).trans yv
          have FST : w4.heap[w.heap.size + 2]? = some (.cells #[.int .i64 V.k, .int .i64 V.n, .string V.nm, .slice Ar k cr, .int .i64 V.node, .pointer none, .int .i64 V.at_, .int .i64 0] 46 (0, 0)) := (FAR _ (by omega)).trans ((hB2.block _ (by omega)).trans HS.out.st)
          have uf : w4.frozen? ⟨w.heap.size + 2, 3, none⟩ = false := by simp [World.frozen?, FST]
          clear gr4 at4 own4
          refine hK.out _ _ ?_ (fun hHeld => ?_)
          · (try dsimp only); go_keep
          clear hK K
          (try simp only [Act.put, List.setIfInBounds_toArray, List.set_cons_zero, List.set_cons_succ])
          refine wpAnyH_take (i := 10) (oi := { dst := some 33, op := Go.Op.fieldAddr 46 (Go.Operand.tmp 3) 3, type := 0, pos := _, after := #[{ on := 0, ground := Go.Ground.phase }, { on := 1, ground := Go.Ground.phase }, { on := 2, ground := Go.Ground.phase }, { on := 3, ground := Go.Ground.phase }, { on := 4, ground := Go.Ground.phase }, { on := 5, ground := Go.Ground.phase }, { on := 6, ground := Go.Ground.phase }, { on := 7, ground := Go.Ground.phase }, { on := 8, ground := Go.Ground.phase }, { on := 9, ground := Go.Ground.phase }], guard := none }) (v := ?vz610) rfl (by kernel_rfl) (by kernel_rfl) (by kernel_rfl) (fun _ _ _ h => h) (Or.inl ⟨by rfl, ?hyz610⟩) (by assumption) ?_
          case hyz610 => (intro wz hSw; (try dsimp only at hSw); go_simp; try with_reducible rfl)
          (try simp only [Act.put, List.setIfInBounds_toArray, List.set_cons_zero, List.set_cons_succ])
          refine wpAnyH_ready (rs := [11]) (by kernel_rfl) (by simp) ?_
          refine AllReadyH.cons (o := { dst := none, op := Go.Op.store 43 (Go.Operand.tmp 33) (Go.Operand.tmp 32), type := 0, pos := _, after := #[{ on := 10, ground := Go.Ground.data }, { on := 9, ground := Go.Ground.data }, { on := 9, ground := Go.Ground.chain }, { on := 0, ground := Go.Ground.phase }, { on := 1, ground := Go.Ground.phase }, { on := 2, ground := Go.Ground.phase }, { on := 3, ground := Go.Ground.phase }, { on := 4, ground := Go.Ground.phase }, { on := 5, ground := Go.Ground.phase }, { on := 6, ground := Go.Ground.phase }, { on := 7, ground := Go.Ground.phase }, { on := 8, ground := Go.Ground.phase }, { on := 9, ground := Go.Ground.phase }], guard := none }) rfl (fun K hK => ?_) AllReadyH.nil
          go_simp
          refine hK.out _ _ ?_ (fun hHeld => ?_)
          · exact ⟨(World.cell?_setCell_far _ _ _ _ (by show ¬ (w.heap.size + 1 + 1 = w.heap.size); omega)).trans u0, (World.cell?_setCell_far _ _ _ _ (by show ¬ (w.heap.size + 1 + 1 = b); omega)).trans u1, (World.cell?_setCell_far _ _ _ _ (by show ¬ (w.heap.size + 1 + 1 = b); omega)).trans u2, (World.cell?_setCell_far _ _ _ _ (by show ¬ (w.heap.size + 1 + 1 = b); omega)).trans u3, (World.cell?_setCell_far _ _ _ _ (by show ¬ (w.heap.size + 1 + 1 = b); omega)).trans u4, (World.cell?_setCell_far _ _ _ _ (by show ¬ (w.heap.size + 1 + 1 = b); omega)).trans u5, (World.cell?_setCell_far _ _ _ _ (by show ¬ (w.heap.size + 1 + 1 = b); omega)).trans u6, (World.cell?_setCell_far _ _ _ _ (by show ¬ (w.heap.size + 1 + 1 = b); omega)).trans u7⟩
          clear hK K
          (try simp only [Act.put, List.setIfInBounds_toArray, List.set_cons_zero, List.set_cons_succ])
          refine wpAnyH_done (by kernel_rfl) ?_ _
          go_wp2
          go_round
          case rel => exact ⟨k + 1, _, _, by omega, by go_num, HS2⟩
          case measure => simp [intOf]; omega
        · skip
          go_simp
          refine Calls.mono CALL.out ?_; rintro e2 w2 ⟨A2, c2, rfl, hr2, hb2⟩
          have y0 := keepC hb2 (show World.cell? _ ⟨w.heap.size, 3, none⟩ = some (.slice (some ⟨b, o, none⟩) args.length c) by assumption)
          have y1 := keepC hb2 (show World.cell? _ ⟨b, o + k * 7, none⟩ = some (.int .i64 args[k].k) by assumption)
          have y2 := keepC hb2 (show World.cell? _ ⟨b, o + k * 7 + 1, none⟩ = some (.int .i64 args[k].n) by assumption)
          have y3 := keepC hb2 (show World.cell? _ ⟨b, o + k * 7 + 2, none⟩ = some (.string args[k].nm) by assumption)
          have y4 := keepC hb2 (show World.cell? _ ⟨b, o + k * 7 + 3, none⟩ = some (.slice A1 args[k].args.length c1) by assumption)
          have y5 := keepC hb2 (show World.cell? _ ⟨b, o + k * 7 + 4, none⟩ = some (.int .i64 args[k].node) by assumption)
          have y6 := keepC hb2 (show World.cell? _ ⟨b, o + k * 7 + 5, none⟩ = some (e1) by assumption)
          have y7 := keepC hb2 (show World.cell? _ ⟨b, o + k * 7 + 6, none⟩ = some (.int .i64 args[k].at_) by assumption)
          have yv := keepC hb2 (show World.cell? _ ⟨w.heap.size + 2, 3, none⟩ = some (.slice Ar k cr) by assumption)
          have hB2 : Below wr.heap.size wr w2 := (bdr wr).trans hb2
          have own2 := Below.own hB2 HS.out.own
          go_wp2_with fail
          refine hK.out _ _ ?_ (fun hHeld => ?_)
          · (try dsimp only); go_keep
          clear hK K
          (try simp only [Act.put, List.setIfInBounds_toArray, List.set_cons_zero, List.set_cons_succ])
          refine wpAnyH_ready (rs := [1, 8]) (by kernel_rfl) (by simp) ?_
          refine AllReadyH.cons (o := { dst := some 24, op := Go.Op.load 43 (Go.Operand.tmp 23), type := 43, pos := _, after := #[{ on := 0, ground := Go.Ground.data }], guard := none }) rfl (fun K hK => ?_) (AllReadyH.cons (o := { dst := some 31, op := Go.Op.buildSlice 43 1 #[(0, Go.Operand.tmp 30)], type := 43, pos := _, after := #[{ on := 7, ground := Go.Ground.data }], guard := none }) rfl (fun K hK => ?_) AllReadyH.nil)
          · skip
            go_simp
            refine hK.out _ _ ?_ (fun hHeld => ?_)
            · (try dsimp only); go_keep
            clear hK K
            (try simp only [Act.put, List.setIfInBounds_toArray, List.set_cons_zero, List.set_cons_succ])
            refine wpAnyH_ready (rs := [8]) (by kernel_rfl) (by simp) ?_
            refine AllReadyH.cons (o := { dst := some 31, op := Go.Op.buildSlice 43 1 #[(0, Go.Operand.tmp 30)], type := 43, pos := _, after := #[{ on := 7, ground := Go.Ground.data }], guard := none }) rfl (fun K hK => ?_) AllReadyH.nil
            go_simp
            refine hK.out _ _ ?_ (fun hHeld => ?_)
            · (try dsimp only); go_keep
            clear hK K
            have yv3 : (w2.alloc (.cells #[.int .i64 args[k].k, .int .i64 args[k].n, .string args[k].nm, .slice A2 args[k].args.length c2, .int .i64 args[k].node, .pointer none, .int .i64 args[k].at_, .int .i64 0] 46)).cell? ⟨w.heap.size + 2, 3, none⟩ = some (.slice Ar k cr) := keepA _ yv
            (try simp only [Act.put, List.setIfInBounds_toArray, List.set_cons_zero, List.set_cons_succ])
            refine wpAnyH_ready (rs := [9]) (by kernel_rfl) (by simp) ?_
            refine AllReadyH.cons (o := { dst := some 32, op := Go.Op.call { callee := Go.Callee.builtin Go.Builtin.append, args := #[Go.Operand.tmp 24, Go.Operand.tmp 31], argTypes := #[43, 43] }, type := 43, pos := _, after := #[{ on := 1, ground := Go.Ground.data }, { on := 8, ground := Go.Ground.data }, { on := 7, ground := Go.Ground.chain }], guard := none }) rfl (fun K hK => ?_) AllReadyH.nil
            refine step_append_sl rfl (.tmp 24) (.tmp 31) 43 rfl (w.heap.size + 3) 46 i0 _ 8 88 Tryd.underlying43 hi0 hz0 hz1 hz2 rfl (by decide) (.slice Ar k cr) k xs rfl (own2.alloc (.cells #[.int .i64 args[k].k, .int .i64 args[k].n, .string args[k].nm, .slice A2 args[k].args.length c2, .int .i64 args[k].node, .pointer none, .int .i64 args[k].at_, .int .i64 0] 46)) (some ⟨w2.heap.size, 0, none⟩) 1 1 (kidV args[k] A2 c2) rfl rfl (fun h => by cases h) ?c1 ?c2 (by unfold maxLen; omega) (by omega) ?c3 ?_
            case c1 => (intro ad had; injection had with had; subst had; exact World.news_of_block (MapKept.heap_alloc w2 (.cells #[.int .i64 args[k].k, .int .i64 args[k].n, .string args[k].nm, .slice A2 args[k].args.length c2, .int .i64 args[k].node, .pointer none, .int .i64 args[k].at_, .int .i64 0] 46)).1)
            case c2 => (intro u hu; simp only [kidV, List.mem_cons, List.not_mem_nil, or_false] at hu; rcases hu with rfl | rfl | rfl | rfl | rfl | rfl | rfl | rfl <;> rfl)
            case c3 => (have := HS.out.s0; have := hB2.size; show _ ≤ (w2.heap.push _).size; simp; omega)
            intro v1 w4 own4 gr4 at4
            have HS2 := Lib.hid (HS.out.step (A2 := A2) (c2 := c2) hlt HNK.out hB2 hr2 (.cells #[.int .i64 args[k].k, .int .i64 args[k].n, .string args[k].nm, .slice A2 args[k].args.length c2, .int .i64 args[k].node, .pointer none, .int .i64 args[k].at_, .int .i64 0] 46) own4 gr4 at4)
            obtain ⟨Ar1, cr1, rfl⟩ := vformZ own4
            have FAR : ∀ q, q < w.heap.size + 3 → w4.heap[q]? = w2.heap[q]? := fun q hq => by
              have hB2s := hB2.size
              rw [gr4.block q (by show q < (w2.heap.push _).size; simp; omega) (fun e => by have := HS.out.own.lt q e.symm; omega)]
              show (w2.heap.push _)[q]? = _
              rw [Array.getElem?_push, if_neg (by omega)]
            have u0 : w4.cell? ⟨w.heap.size, 3, none⟩ = some (.slice (some ⟨b, o, none⟩) args.length c) := (World.cell?_of_block (FAR w.heap.size (by omega))).trans y0
            have u1 : w4.cell? ⟨b, o + k * 7, none⟩ = some (.int .i64 args[k].k) := (World.cell?_of_block (FAR b (by omega))).trans y1
            have u2 : w4.cell? ⟨b, o + k * 7 + 1, none⟩ = some (.int .i64 args[k].n) := (World.cell?_of_block (FAR b (by omega))).trans y2
            have u3 : w4.cell? ⟨b, o + k * 7 + 2, none⟩ = some (.string args[k].nm) := (World.cell?_of_block (FAR b (by omega))).trans y3
            have u4 : w4.cell? ⟨b, o + k * 7 + 3, none⟩ = some (.slice A1 args[k].args.length c1) := (World.cell?_of_block (FAR b (by omega))).trans y4
            have u5 : w4.cell? ⟨b, o + k * 7 + 4, none⟩ = some (.int .i64 args[k].node) := (World.cell?_of_block (FAR b (by omega))).trans y5
            have u6 : w4.cell? ⟨b, o + k * 7 + 5, none⟩ = some (e1) := (World.cell?_of_block (FAR b (by omega))).trans y6
            have u7 : w4.cell? ⟨b, o + k * 7 + 6, none⟩ = some (.int .i64 args[k].at_) := (World.cell?_of_block (FAR b (by omega))).trans y7
            have uv : w4.cell? ⟨w.heap.size + 2, 3, none⟩ = some (.slice Ar k cr) := (World.cell?_of_block (FAR _ (by show w.heap.size + 2 < _; omega))).trans yv
            have FST : w4.heap[w.heap.size + 2]? = some (.cells #[.int .i64 V.k, .int .i64 V.n, .string V.nm, .slice Ar k cr, .int .i64 V.node, .pointer none, .int .i64 V.at_, .int .i64 0] 46 (0, 0)) := (FAR _ (by omega)).trans ((hB2.block _ (by omega)).trans HS.out.st)
            have uf : w4.frozen? ⟨w.heap.size + 2, 3, none⟩ = false := by simp [World.frozen?, FST]
            clear gr4 at4 own4
            refine hK.out _ _ ?_ (fun hHeld => ?_)
            · (try dsimp only); go_keep
            clear hK K
            (try simp only [Act.put, List.setIfInBounds_toArray, List.set_cons_zero, List.set_cons_succ])
            refine wpAnyH_take (i := 10) (oi := { dst := some 33, op := Go.Op.fieldAddr 46 (Go.Operand.tmp 3) 3, type := 0, pos := _, after := #[{ on := 0, ground := Go.Ground.phase }, { on := 1, ground := Go.Ground.phase }, { on := 2, ground := Go.Ground.phase }, { on := 3, ground := Go.Ground.phase }, { on := 4, ground := Go.Ground.phase }, { on := 5, ground := Go.Ground.phase }, { on := 6, ground := Go.Ground.phase }, { on := 7, ground := Go.Ground.phase }, { on := 8, ground := Go.Ground.phase }, { on := 9, ground := Go.Ground.phase }], guard := none }) (v := ?vz1210) rfl (by kernel_rfl) (by kernel_rfl) (by kernel_rfl) (fun _ _ _ h => h) (Or.inl ⟨by rfl, ?hyz1210⟩) (by assumption) ?_
            case hyz1210 => (intro wz hSw; (try dsimp only at hSw); go_simp; try with_reducible rfl)
            (try simp only [Act.put, List.setIfInBounds_toArray, List.set_cons_zero, List.set_cons_succ])
            refine wpAnyH_ready (rs := [11]) (by kernel_rfl) (by simp) ?_
            refine AllReadyH.cons (o := { dst := none, op := Go.Op.store 43 (Go.Operand.tmp 33) (Go.Operand.tmp 32), type := 0, pos := _, after := #[{ on := 10, ground := Go.Ground.data }, { on := 9, ground := Go.Ground.data }, { on := 9, ground := Go.Ground.chain }, { on := 0, ground := Go.Ground.phase }, { on := 1, ground := Go.Ground.phase }, { on := 2, ground := Go.Ground.phase }, { on := 3, ground := Go.Ground.phase }, { on := 4, ground := Go.Ground.phase }, { on := 5, ground := Go.Ground.phase }, { on := 6, ground := Go.Ground.phase }, { on := 7, ground := Go.Ground.phase }, { on := 8, ground := Go.Ground.phase }, { on := 9, ground := Go.Ground.phase }], guard := none }) rfl (fun K hK => ?_) AllReadyH.nil
            go_simp
            refine hK.out _ _ ?_ (fun hHeld => ?_)
            · exact ⟨(World.cell?_setCell_far _ _ _ _ (by show ¬ (w.heap.size + 1 + 1 = w.heap.size); omega)).trans u0, (World.cell?_setCell_far _ _ _ _ (by show ¬ (w.heap.size + 1 + 1 = b); omega)).trans u1, (World.cell?_setCell_far _ _ _ _ (by show ¬ (w.heap.size + 1 + 1 = b); omega)).trans u2, (World.cell?_setCell_far _ _ _ _ (by show ¬ (w.heap.size + 1 + 1 = b); omega)).trans u3, (World.cell?_setCell_far _ _ _ _ (by show ¬ (w.heap.size + 1 + 1 = b); omega)).trans u4, (World.cell?_setCell_far _ _ _ _ (by show ¬ (w.heap.size + 1 + 1 = b); omega)).trans u5, (World.cell?_setCell_far _ _ _ _ (by show ¬ (w.heap.size + 1 + 1 = b); omega)).trans u6, (World.cell?_setCell_far _ _ _ _ (by show ¬ (w.heap.size + 1 + 1 = b); omega)).trans u7⟩
            clear hK K
            (try simp only [Act.put, List.setIfInBounds_toArray, List.set_cons_zero, List.set_cons_succ])
            refine wpAnyH_done (by kernel_rfl) ?_ _
            go_wp2
            go_round
            case rel => exact ⟨k + 1, _, _, by omega, by go_num, HS2⟩
            case measure => simp [intOf]; omega
          · skip
            go_simp
            refine hK.out _ _ ?_ (fun hHeld => ?_)
            · (try dsimp only); go_keep
            clear hK K
            have yv3 : (w2.alloc (.cells #[.int .i64 args[k].k, .int .i64 args[k].n, .string args[k].nm, .slice A2 args[k].args.length c2, .int .i64 args[k].node, .pointer none, .int .i64 args[k].at_, .int .i64 0] 46)).cell? ⟨w.heap.size + 2, 3, none⟩ = some (.slice Ar k cr) := keepA _ yv
            (try simp only [Act.put, List.setIfInBounds_toArray, List.set_cons_zero, List.set_cons_succ])
            refine wpAnyH_ready (rs := [1]) (by kernel_rfl) (by simp) ?_
            refine AllReadyH.cons (o := { dst := some 24, op := Go.Op.load 43 (Go.Operand.tmp 23), type := 43, pos := _, after := #[{ on := 0, ground := Go.Ground.data }], guard := none }) rfl (fun K hK => ?_) AllReadyH.nil
            go_simp
            refine hK.out _ _ ?_ (fun hHeld => ?_)
            · (try dsimp only); go_keep
            clear hK K
            (try simp only [Act.put, List.setIfInBounds_toArray, List.set_cons_zero, List.set_cons_succ])
            refine wpAnyH_ready (rs := [9]) (by kernel_rfl) (by simp) ?_
            refine AllReadyH.cons (o := { dst := some 32, op := Go.Op.call { callee := Go.Callee.builtin Go.Builtin.append, args := #[Go.Operand.tmp 24, Go.Operand.tmp 31], argTypes := #[43, 43] }, type := 43, pos := _, after := #[{ on := 1, ground := Go.Ground.data }, { on := 8, ground := Go.Ground.data }, { on := 7, ground := Go.Ground.chain }], guard := none }) rfl (fun K hK => ?_) AllReadyH.nil
            refine step_append_sl rfl (.tmp 24) (.tmp 31) 43 rfl (w.heap.size + 3) 46 i0 _ 8 88 Tryd.underlying43 hi0 hz0 hz1 hz2 rfl (by decide) (.slice Ar k cr) k xs rfl (own2.alloc (.cells #[.int .i64 args[k].k, .int .i64 args[k].n, .string args[k].nm, .slice A2 args[k].args.length c2, .int .i64 args[k].node, .pointer none, .int .i64 args[k].at_, .int .i64 0] 46)) (some ⟨w2.heap.size, 0, none⟩) 1 1 (kidV args[k] A2 c2) rfl rfl (fun h => by cases h) ?c1 ?c2 (by unfold maxLen; omega) (by omega) ?c3 ?_
            case c1 => (intro ad had; injection had with had; subst had; exact World.news_of_block (MapKept.heap_alloc w2 (.cells #[.int .i64 args[k].k, .int .i64 args[k].n, .string args[k].nm, .slice A2 args[k].args.length c2, .int .i64 args[k].node, .pointer none, .int .i64 args[k].at_, .int .i64 0] 46)).1)
            case c2 => (intro u hu; simp only [kidV, List.mem_cons, List.not_mem_nil, or_false] at hu; rcases hu with rfl | rfl | rfl | rfl | rfl | rfl | rfl | rfl <;> rfl)
            case c3 => (have := HS.out.s0; have := hB2.size; show _ ≤ (w2.heap.push _).size; simp; omega)
            intro v1 w4 own4 gr4 at4
            have HS2 := Lib.hid (HS.out.step (A2 := A2) (c2 := c2) hlt HNK.out hB2 hr2 (.cells #[.int .i64 args[k].k, .int .i64 args[k].n, .string args[k].nm, .slice A2 args[k].args.length c2, .int .i64 args[k].node, .pointer none, .int .i64 args[k].at_, .int .i64 0] 46) own4 gr4 at4)
            obtain ⟨Ar1, cr1, rfl⟩ := vformZ own4
            have FAR : ∀ q, q < w.heap.size + 3 → w4.heap[q]? = w2.heap[q]? := fun q hq => by
              have hB2s := hB2.size
              rw [gr4.block q (by show q < (w2.heap.push _).size; simp; omega) (fun e => by have := HS.out.own.lt q e.symm; omega)]
              show (w2.heap.push _)[q]? = _
              rw [Array.getElem?_push, if_neg (by omega)]
            have u0 : w4.cell? ⟨w.heap.size, 3, none⟩ = some (.slice (some ⟨b, o, none⟩) args.length c) := (World.cell?_of_block (FAR w.heap.size (by omega))).trans y0
            have u1 : w4.cell? ⟨b, o + k * 7, none⟩ = some (.int .i64 args[k].k) := (World.cell?_of_block (FAR b (by omega))).trans y1
            have u2 : w4.cell? ⟨b, o + k * 7 + 1, none⟩ = some (.int .i64 args[k].n) := (World.cell?_of_block (FAR b (by omega))).trans y2
            have u3 : w4.cell? ⟨b, o + k * 7 + 2, none⟩ = some (.string args[k].nm) := (World.cell?_of_block (FAR b (by omega))).trans y3
            have u4 : w4.cell? ⟨b, o + k * 7 + 3, none⟩ = some (.slice A1 args[k].args.length c1) := (World.cell?_of_block (FAR b (by omega))).trans y4
            have u5 : w4.cell? ⟨b, o + k * 7 + 4, none⟩ = some (.int .i64 args[k].node) := (World.cell?_of_block (FAR b (by omega))).trans y5
            have u6 : w4.cell? ⟨b, o + k * 7 + 5, none⟩ = some (e1) := (World.cell?_of_block (FAR b (by omega))).trans y6
            have u7 : w4.cell? ⟨b, o + k * 7 + 6, none⟩ = some (.int .i64 args[k].at_) := (World.cell?_of_block (FAR b (by omega))).trans y7
            have uv : w4.cell? ⟨w.heap.size + 2, 3, none⟩ = some (.slice Ar k cr) := (World.cell?_of_block (FAR _ (by show w.heap.size + 2 < _; omega))).trans yv
            have FST : w4.heap[w.heap.size + 2]? = some (.cells #[.int .i64 V.k, .int .i64 V.n, .string V.nm, .slice Ar k cr, .int .i64 V.node, .pointer none, .int .i64 V.at_, .int .i64 0] 46 (0, 0)) := (FAR _ (by omega)).trans ((hB2.block _ (by omega)).trans HS.out.st)
            have uf : w4.frozen? ⟨w.heap.size + 2, 3, none⟩ = false := by simp [World.frozen?, FST]
            clear gr4 at4 own4
            refine hK.out _ _ ?_ (fun hHeld => ?_)
            · (try dsimp only); go_keep
            clear hK K
            (try simp only [Act.put, List.setIfInBounds_toArray, List.set_cons_zero, List.set_cons_succ])
            refine wpAnyH_take (i := 10) (oi := { dst := some 33, op := Go.Op.fieldAddr 46 (Go.Operand.tmp 3) 3, type := 0, pos := _, after := #[{ on := 0, ground := Go.Ground.phase }, { on := 1, ground := Go.Ground.phase }, { on := 2, ground := Go.Ground.phase }, { on := 3, ground := Go.Ground.phase }, { on := 4, ground := Go.Ground.phase }, { on := 5, ground := Go.Ground.phase }, { on := 6, ground := Go.Ground.phase }, { on := 7, ground := Go.Ground.phase }, { on := 8, ground := Go.Ground.phase }, { on := 9, ground := Go.Ground.phase }], guard := none }) (v := ?vz1610) rfl (by kernel_rfl) (by kernel_rfl) (by kernel_rfl) (fun _ _ _ h => h) (Or.inl ⟨by rfl, ?hyz1610⟩) (by assumption) ?_
            case hyz1610 => (intro wz hSw; (try dsimp only at hSw); go_simp; try with_reducible rfl)
            (try simp only [Act.put, List.setIfInBounds_toArray, List.set_cons_zero, List.set_cons_succ])
            refine wpAnyH_ready (rs := [11]) (by kernel_rfl) (by simp) ?_
            refine AllReadyH.cons (o := { dst := none, op := Go.Op.store 43 (Go.Operand.tmp 33) (Go.Operand.tmp 32), type := 0, pos := _, after := #[{ on := 10, ground := Go.Ground.data }, { on := 9, ground := Go.Ground.data }, { on := 9, ground := Go.Ground.chain }, { on := 0, ground := Go.Ground.phase }, { on := 1, ground := Go.Ground.phase }, { on := 2, ground := Go.Ground.phase }, { on := 3, ground := Go.Ground.phase }, { on := 4, ground := Go.Ground.phase }, { on := 5, ground := Go.Ground.phase }, { on := 6, ground := Go.Ground.phase }, { on := 7, ground := Go.Ground.phase }, { on := 8, ground := Go.Ground.phase }, { on := 9, ground := Go.Ground.phase }], guard := none }) rfl (fun K hK => ?_) AllReadyH.nil
            go_simp
            refine hK.out _ _ ?_ (fun hHeld => ?_)
            · exact ⟨(World.cell?_setCell_far _ _ _ _ (by show ¬ (w.heap.size + 1 + 1 = w.heap.size); omega)).trans u0, (World.cell?_setCell_far _ _ _ _ (by show ¬ (w.heap.size + 1 + 1 = b); omega)).trans u1, (World.cell?_setCell_far _ _ _ _ (by show ¬ (w.heap.size + 1 + 1 = b); omega)).trans u2, (World.cell?_setCell_far _ _ _ _ (by show ¬ (w.heap.size + 1 + 1 = b); omega)).trans u3, (World.cell?_setCell_far _ _ _ _ (by show ¬ (w.heap.size + 1 + 1 = b); omega)).trans u4, (World.cell?_setCell_far _ _ _ _ (by show ¬ (w.heap.size + 1 + 1 = b); omega)).trans u5, (World.cell?_setCell_far _ _ _ _ (by show ¬ (w.heap.size + 1 + 1 = b); omega)).trans u6, (World.cell?_setCell_far _ _ _ _ (by show ¬ (w.heap.size + 1 + 1 = b); omega)).trans u7⟩
            clear hK K
            (try simp only [Act.put, List.setIfInBounds_toArray, List.set_cons_zero, List.set_cons_succ])
            refine wpAnyH_done (by kernel_rfl) ?_ _
            go_wp2
            go_round
            case rel => exact ⟨k + 1, _, _, by omega, by go_num, HS2⟩
            case measure => simp [intOf]; omega
      · obtain rfl : k = args.length := by omega
        obtain ⟨Ar, cr, rfl⟩ := vformZ HS.out.own
        have z3 : wr.cell? ⟨w.heap.size, 3, none⟩ = some (.slice A args.length c) := by have := HS.out.box; simp [World.cell?, this]
        have hst := HS.out.st
        have hres := HS.out.res
        have s0 : wr.cell? ⟨w.heap.size + 1 + 1, 0, none⟩ = some (.int .i64 V.k) := by show wr.cell? ⟨w.heap.size + 2, 0, none⟩ = _; simp [World.cell?, hst]
        have r0 : wr.cell? ⟨w.heap.size + 1, 0, none⟩ = some (.int .i64 0) := by simp [World.cell?, hres]
        have f0 : wr.frozen? ⟨w.heap.size + 1, 0, none⟩ = false := by simp [World.frozen?, hres]
        have s1 : wr.cell? ⟨w.heap.size + 1 + 1, 1, none⟩ = some (.int .i64 V.n) := by show wr.cell? ⟨w.heap.size + 2, 1, none⟩ = _; simp [World.cell?, hst]
        have r1 : wr.cell? ⟨w.heap.size + 1, 1, none⟩ = some (.int .i64 0) := by simp [World.cell?, hres]
        have f1 : wr.frozen? ⟨w.heap.size + 1, 1, none⟩ = false := by simp [World.frozen?, hres]
        have s2 : wr.cell? ⟨w.heap.size + 1 + 1, 2, none⟩ = some (.string V.nm) := by show wr.cell? ⟨w.heap.size + 2, 2, none⟩ = _; simp [World.cell?, hst]
        have r2 : wr.cell? ⟨w.heap.size + 1, 2, none⟩ = some (.string .empty) := by simp [World.cell?, hres]
        have f2 : wr.frozen? ⟨w.heap.size + 1, 2, none⟩ = false := by simp [World.frozen?, hres]
        have s3 : wr.cell? ⟨w.heap.size + 1 + 1, 3, none⟩ = some (.slice Ar args.length cr) := by show wr.cell? ⟨w.heap.size + 2, 3, none⟩ = _; simp [World.cell?, hst]
        have r3 : wr.cell? ⟨w.heap.size + 1, 3, none⟩ = some (.slice none 0 0) := by simp [World.cell?, hres]
        have f3 : wr.frozen? ⟨w.heap.size + 1, 3, none⟩ = false := by simp [World.frozen?, hres]
        have s4 : wr.cell? ⟨w.heap.size + 1 + 1, 4, none⟩ = some (.int .i64 V.node) := by show wr.cell? ⟨w.heap.size + 2, 4, none⟩ = _; simp [World.cell?, hst]
        have r4 : wr.cell? ⟨w.heap.size + 1, 4, none⟩ = some (.int .i64 0) := by simp [World.cell?, hres]
        have f4 : wr.frozen? ⟨w.heap.size + 1, 4, none⟩ = false := by simp [World.frozen?, hres]
        have s5 : wr.cell? ⟨w.heap.size + 1 + 1, 5, none⟩ = some (.pointer none) := by show wr.cell? ⟨w.heap.size + 2, 5, none⟩ = _; simp [World.cell?, hst]
        have r5 : wr.cell? ⟨w.heap.size + 1, 5, none⟩ = some (.pointer none) := by simp [World.cell?, hres]
        have f5 : wr.frozen? ⟨w.heap.size + 1, 5, none⟩ = false := by simp [World.frozen?, hres]
        have s6 : wr.cell? ⟨w.heap.size + 1 + 1, 6, none⟩ = some (.int .i64 V.at_) := by show wr.cell? ⟨w.heap.size + 2, 6, none⟩ = _; simp [World.cell?, hst]
        have r6 : wr.cell? ⟨w.heap.size + 1, 6, none⟩ = some (.int .i64 0) := by simp [World.cell?, hres]
        have f6 : wr.frozen? ⟨w.heap.size + 1, 6, none⟩ = false := by simp [World.frozen?, hres]
        have s7 : wr.cell? ⟨w.heap.size + 1 + 1, 7, none⟩ = some (.int .i64 0) := by show wr.cell? ⟨w.heap.size + 2, 7, none⟩ = _; simp [World.cell?, hst]
        have r7 : wr.cell? ⟨w.heap.size + 1, 7, none⟩ = some (.int .i64 0) := by simp [World.cell?, hres]
        have f7 : wr.frozen? ⟨w.heap.size + 1, 7, none⟩ = false := by simp [World.frozen?, hres]
        have HRES := Lib.hid hres
        clear hst hres
        go_wp2
        obtain ⟨wf, hwf⟩ : ∃ wf, wf = ((((((((wr.setCell ⟨w.heap.size + 1, 0, none⟩ (.int .i64 V.k)).setCell ⟨w.heap.size + 1, 1, none⟩ (.int .i64 V.n)).setCell ⟨w.heap.size + 1, 2, none⟩ (.string V.nm)).setCell ⟨w.heap.size + 1, 3, none⟩ (.slice Ar args.length cr)).setCell ⟨w.heap.size + 1, 4, none⟩ (.int .i64 V.node)).setCell ⟨w.heap.size + 1, 5, none⟩ (.pointer none)).setCell ⟨w.heap.size + 1, 6, none⟩ (.int .i64 V.at_)).setCell ⟨w.heap.size + 1, 7, none⟩ (.int .i64 0)) := ⟨_, rfl⟩
        rw [← hwf]
        have hf : wf.heap[w.heap.size + 1]? = some (.cells #[.int .i64 V.k, .int .i64 V.n, .string V.nm, .slice Ar args.length cr, .int .i64 V.node, .pointer none, .int .i64 V.at_, .int .i64 0] 46 (0, 0)) := by rw [hwf]; simp [World.setCell, Array.getElem?_modify, HRES.out]
        have t0 : wf.cell? ⟨w.heap.size + 1, 0, none⟩ = some (.int .i64 V.k) := by simp [World.cell?, hf]
        have t1 : wf.cell? ⟨w.heap.size + 1, 1, none⟩ = some (.int .i64 V.n) := by simp [World.cell?, hf]
        have t2 : wf.cell? ⟨w.heap.size + 1, 2, none⟩ = some (.string V.nm) := by simp [World.cell?, hf]
        have t3 : wf.cell? ⟨w.heap.size + 1, 3, none⟩ = some (.slice Ar args.length cr) := by simp [World.cell?, hf]
        have t4 : wf.cell? ⟨w.heap.size + 1, 4, none⟩ = some (.int .i64 V.node) := by simp [World.cell?, hf]
        have t5 : wf.cell? ⟨w.heap.size + 1, 5, none⟩ = some (.pointer none) := by simp [World.cell?, hf]
        have t6 : wf.cell? ⟨w.heap.size + 1, 6, none⟩ = some (.int .i64 V.at_) := by simp [World.cell?, hf]
        have t7 : wf.cell? ⟨w.heap.size + 1, 7, none⟩ = some (.int .i64 0) := by simp [World.cell?, hf]
        have HWF := Lib.hid hwf
        clear hf hwf s0 r0 f0 s1 r1 f1 s2 r2 f2 s3 r3 f3 s4 r4 f4 s5 r5 f5 s6 r6 f6 s7 r7 f7
        (try simp only [Exit.inBlock, Exit.then])
        refine bodyPost_ret (by simp [results, Tryd.results18, go_sem, t0, t1, t2, t3, t4, t5, t6, t7]; try rfl) rfl ?_
        have hsk : SK (w.heap.size + 1) wr wf := by rw [HWF.out]; exact (SK.refl (w.heap.size + 1) wr) |>.set 0 (.int .i64 V.k) |>.set 1 (.int .i64 V.n) |>.set 2 (.string V.nm) |>.set 3 (.slice Ar args.length cr) |>.set 4 (.int .i64 V.node) |>.set 5 (.pointer none) |>.set 6 (.int .i64 V.at_) |>.set 7 (.int .i64 0)
        obtain ⟨A', c', q1, q2, q3⟩ := HS.out.fin (fun b _ hb => hsk.block b hb) hsk.size hsk.os hsk.tape hsk.output
        injection q1 with q1 _ q1c
        subst q1 q1c
        rw [HAR.out] at q2
        exact ⟨Ar, cr, (by rw [← HAR.out]), q2, q3⟩
end Go.Proofs.YtclilpabdcdeoaaDoor
