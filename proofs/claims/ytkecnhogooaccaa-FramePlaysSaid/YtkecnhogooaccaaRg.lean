import Derived.Test.YtkecnhogooaccaaRf
import Derived.Laws.OwnMore
import Derived.Test.YtkecnhogooaccaaDr
namespace Go.Proofs.Ytkecnhogooaccaa
open Go.ChangeShapes Go.WideShapes Go.ChangeAt Go.RowKit
set_option linter.unusedVariables false
/-- an append at a step of a region, whatever the slice that is appended: nil, empty or not. -/
theorem step_append_sl {P : Program} {ops : Array Oper} {o : Oper} {a : Act} {w : World} {K : Act → World → Prop} {Q : Exit → Act → World → Prop} {E : Prop} (hgd : o.guard = none) (s x : Operand) (t : TypeId)
    (ho : o.op = .call { callee := .builtin .append, args := #[s, x], argTypes := #[t, t] })
    (base : Nat) (e : TypeId) (i : TypeInfo) (z : Value) (size bytes : Nat) (ht : P.underlying t = some (.slice e)) (hi : P.info? e = some i) (hz : i.zero = some z)
    (hsize : i.size = size) (hby : i.bytes = bytes) (hzs : z.cells.size = size) (hsz : 0 < size)
    (v : Value) (n : Nat) (xs : List Value) (hs : a.eval s = v) (hown : w.ownsRow base e size v n xs)
    (A : Option Addr) (m c : Nat) (news : List Value) (hx : a.eval x = .slice A m c) (hl : news.length = m * size) (hnone : A = none → m = 0 ∧ c = 0) (hnews : ∀ ad, A = some ad → ∀ j u, news[j]? = some u → w.cell? (ad.add j) = some u) (h1 : ∀ u ∈ news, u.oneCell' = true)
    (h63 : n + m ≤ maxLen) (hbytes : (n + m) * bytes ≤ 140737488355328) (hbase : base ≤ w.heap.size)
    (h : ∀ v' w', w'.ownsRow base e size v' (n + m) (xs ++ news) → w.grownBy w' v.ownBlock → (v'.ownBlock = v.ownBlock ∨ v'.ownBlock = some w.heap.size) → K (a.put o.dst v') w') :
    if Region.wanted o (yielded ops a.tmps) = true then Oper.wp P o a w K Q else E := by
  have hw : Region.wanted o (yielded ops a.tmps) = true := by simp [Region.wanted, hgd]
  rw [if_pos hw]
  cases A with
  | none =>
    obtain ⟨rfl, rfl⟩ := hnone rfl
    have hn0 : news = [] := List.eq_nil_of_length_eq_zero (by omega)
    subst hn0
    have hrun := run_append_owned_none (P := P) (w := w) base t o.type e i size ht hi v n xs hown
    unfold Oper.wp
    simp [execOp, ho, resolve, invoke, builtin, hs, hx, hrun, Result.andThen]
    exact h v w (by simpa using hown) (World.grownBy.refl w _) (.inl rfl)
  | some ad =>
    obtain ⟨v', w', hr, h2, h3, h4, h5⟩ := run_append_own_at (P := P) w base t o.type e i z size bytes ht hi hz hsize hby hzs hsz v n xs hown ad m c news hl (hnews ad rfl) h1 h63 hbytes hbase
    unfold Oper.wp execOp
    simp only [ho, resolve, invoke, builtin, Sem.run_bind, Sem.run_pure, Result.andThen_ok, List.map_toArray, List.map_cons, List.map_nil, hs, hx, hr]
    exact h v' w' h2 h3 h5
theorem below_drew (w : World) : Below w.heap.size w w.drew := ⟨rfl, rfl, rfl, Nat.le_refl _, fun _ _ => rfl⟩
/-- the elements of a row, as an append reads them. -/
theorem Rw.news {w W : World} {B : Nat} {e : TypeId} {sz n c : Nat} {A : Option Addr} {vs : List Value} (h : Rw w B e sz (.slice A n c) n vs) (hW : Below w.heap.size w W) : ∀ ad, A = some ad → ∀ j u, vs[j]? = some u → W.cell? (ad.add j) = some u := by
  intro ad hA j u hu
  have hl := h.1
  have hj := (List.getElem?_eq_some_iff.1 hu).1
  by_cases hn : 0 < n
  · obtain ⟨b, e1, _, hb, hc, _⟩ := h.at hn
    rw [e1] at hA
    injection hA with hA
    subst hA
    rw [Go.WideShapes.add_plain, Nat.zero_add]
    exact (hW.cell (p := ⟨b, j, none⟩) hb).trans (hc j u hu)
  · obtain rfl : n = 0 := by omega
    omega
theorem Rw.none0 {w : World} {B : Nat} {e : TypeId} {sz n c : Nat} {A : Option Addr} {vs : List Value} (h : Rw w B e sz (.slice A n c) n vs) : A = none → n = 0 ∧ c = 0 := by
  intro hA
  obtain ⟨A', c', e1, h1, h2⟩ := h.form
  injection e1 with e1 _ e3
  subst e1 e3
  have := h2 hA
  omega
set_option maxRecDepth 100000 in
set_option maxHeartbeats 2000000 in
theorem radd_none {w : World} {B g room : Nat} {fv : Value} (x : Int) (t : RS w B g room fv []) :
    Calls Try.prog 24 #[.pointer (some ⟨g, 0, none⟩), .int .u64 x] w fun e w' => e = .returned (.int .i64 4) ∧ Below w.heap.size w w' := by
  have c1 := t.c1
  obtain ⟨A, c, rfl, _, _⟩ := t.shape
  have e0 : ([] : List RX).length = 0 := rfl
  rw [e0] at c1
  clear t
  go_enter Try.func24, Try.ntmps24
  go_wp2
  go_ret
  exact ⟨rfl, Below.refl _ _⟩
set_option maxRecDepth 100000 in
set_option maxHeartbeats 4000000 in
theorem radd_full {w : World} {B g room : Nat} {fv : Value} {a : List RX} {f : RX} (x : Int) (hr : room ≤ used ((a ++ [f]).map (·.f))) (t : RS w B g room fv (a ++ [f])) :
    Calls Try.prog 24 #[.pointer (some ⟨g, 0, none⟩), .int .u64 x] w fun e w' => e = .returned (.int .i64 9) ∧ Below w.heap.size w w' := by
  have US := Lib.hid (fun W (hW : Below w.heap.size w W) => rused_any (t.below hW))
  have c1 := t.c1
  have c0 := t.c0
  have hlen := t.len.1
  have T := Lib.hid t
  obtain ⟨A, c, rfl, _, _⟩ := t.shape
  obtain ⟨N, hN⟩ : ∃ N, N = (a ++ [f]).length := ⟨_, rfl⟩
  have hN1 : 1 ≤ N := by rw [hN]; simp
  rw [← hN] at c1 hlen
  obtain ⟨U, hU⟩ : ∃ U, U = used ((a ++ [f]).map (·.f)) := ⟨_, rfl⟩
  rw [← hU] at US hr
  have hN0 : ((N : Int) == 0) = false := beq_eq_false_iff_ne.2 (by omega)
  have hN0' : (N == 0) = false := beq_eq_false_iff_ne.2 (by omega)
  have d := decide_eq_true (show (room : Int) ≤ (U : Int) by omega)
  have d' := decide_eq_true hr
  have glt := t.glt
  clear t hU hN
  go_enter Try.func24, Try.ntmps24
  go_wp2_with fail
  refine wp_region_held_drew (S := fun w' => w'.cell? ⟨g, 0, none⟩ = some (.int .i64 room)) (by kernel_rfl) ?_ (fun hHeld => ?_)
  · (try dsimp only); go_keep
  refine wpAnyH_take (i := 0) (oi := { dst := some 13, op := Go.Op.move (Go.Operand.tmp 0), type := 44, pos := _, after := #[], guard := none }) (v := ?v0) rfl (by kernel_rfl) (by kernel_rfl) (by kernel_rfl) (fun _ _ _ h => h) (Or.inl ⟨by rfl, ?hy0⟩) (by assumption) ?_
  case hy0 => (intro wz hSw; (try dsimp only at hSw); go_simp; try with_reducible rfl)
  (try simp only [Act.put, List.setIfInBounds_toArray, List.set_cons_zero, List.set_cons_succ])
  refine wpAnyH_take (i := 2) (oi := { dst := some 15, op := Go.Op.move (Go.Operand.tmp 0), type := 44, pos := _, after := #[], guard := none }) (v := ?v2) rfl (by kernel_rfl) (by kernel_rfl) (by kernel_rfl) (fun _ _ _ h => h) (Or.inl ⟨by rfl, ?hy2⟩) (by assumption) ?_
  case hy2 => (intro wz hSw; (try dsimp only at hSw); go_simp; try with_reducible rfl)
  (try simp only [Act.put, List.setIfInBounds_toArray, List.set_cons_zero, List.set_cons_succ])
  refine wpAnyH_take (i := 3) (oi := { dst := some 16, op := Go.Op.nilCheck (Go.Operand.tmp 15), type := 0, pos := _, after := #[{ on := 2, ground := Go.Ground.data }], guard := none }) (v := ?v3) rfl (by kernel_rfl) (by kernel_rfl) (by kernel_rfl) (fun _ _ _ h => h) (Or.inl ⟨by rfl, ?hy3⟩) (by assumption) ?_
  case hy3 => (intro wz hSw; (try dsimp only at hSw); go_simp; try with_reducible rfl)
  (try simp only [Act.put, List.setIfInBounds_toArray, List.set_cons_zero, List.set_cons_succ])
  refine wpAnyH_take (i := 4) (oi := { dst := some 17, op := Go.Op.fieldAddr 47 (Go.Operand.tmp 16) 0, type := 0, pos := _, after := #[{ on := 3, ground := Go.Ground.data }], guard := none }) (v := ?v4) rfl (by kernel_rfl) (by kernel_rfl) (by kernel_rfl) (fun _ _ _ h => h) (Or.inl ⟨by rfl, ?hy4⟩) (by assumption) ?_
  case hy4 => (intro wz hSw; (try dsimp only at hSw); go_simp; try with_reducible rfl)
  (try simp only [Act.put, List.setIfInBounds_toArray, List.set_cons_zero, List.set_cons_succ])
  refine wpAnyH_take (i := 5) (oi := { dst := some 18, op := Go.Op.load 3 (Go.Operand.tmp 17), type := 3, pos := _, after := #[{ on := 4, ground := Go.Ground.data }], guard := none }) (v := ?v5) rfl (by kernel_rfl) (by kernel_rfl) (by kernel_rfl) (fun _ _ _ h => h) (Or.inl ⟨by rfl, ?hy5⟩) (by assumption) ?_
  case hy5 => (intro wz hSw; (try dsimp only at hSw); go_simp; try with_reducible rfl)
  (try simp only [Act.put, List.setIfInBounds_toArray, List.set_cons_zero, List.set_cons_succ])
  refine wpAnyH_ready (rs := [1]) (by kernel_rfl) (by simp) ?_
  refine AllReadyH.cons (o := { dst := some 14, op := Go.Op.call { callee := Go.Callee.value (Go.Operand.func 42), args := #[Go.Operand.tmp 13], argTypes := #[44] }, type := 3, pos := _, after := #[{ on := 0, ground := Go.Ground.data }], guard := none }) rfl (fun K hK => ?_) AllReadyH.nil
  go_simp
  refine (US.out _ (below_drew w)).mono ?_; rintro e w1 ⟨rfl, hb0⟩
  have hb1 := bt (below_drew w) hb0
  clear hb0
  have c0b := (hb1.cell (p := ⟨g, 0, none⟩) glt).trans c0
  go_wp2_with fail
  refine hK.out _ _ ?_ (fun hHeld => ?_)
  · (try dsimp only); go_keep
  clear hK K
  (try simp only [Act.put, List.setIfInBounds_toArray, List.set_cons_zero, List.set_cons_succ])
  refine wpAnyH_take (i := 6) (oi := { dst := some 19, op := Go.Op.binOp Go.BinOp.geq 3 (Go.Operand.tmp 14) (Go.Operand.tmp 18) 3, type := 4, pos := _, after := #[{ on := 1, ground := Go.Ground.data }, { on := 5, ground := Go.Ground.data }], guard := none }) (v := ?v6) rfl (by kernel_rfl) (by kernel_rfl) (by kernel_rfl) (fun _ _ _ h => h) (Or.inl ⟨by rfl, ?hy6⟩) (by assumption) ?_
  case hy6 => (intro wz hSw; (try dsimp only at hSw); go_simp; try with_reducible rfl)
  (try simp only [Act.put, List.setIfInBounds_toArray, List.set_cons_zero, List.set_cons_succ])
  refine wpAnyH_done (by kernel_rfl) ?_ _
  all_goals (
    go_wp2
    go_ret
    exact ⟨rfl, hb1⟩)
theorem own_lit0 {W : World} {B k : Nat} (h : W.heap[k]? = some (.cells #[] 29 (0, 0))) (hB : B ≤ k) : W.ownsRow B 29 1 (.slice (some ⟨k, 0, none⟩) 0 0) 0 [] :=
  ⟨by simp, .inr ⟨k, 0, #[], rfl, hB, h, Nat.le_refl _, by unfold maxLen; omega, rfl, by simp⟩⟩
theorem own_bl {w w' : World} {B e s n : Nat} {v : Value} {xs : List Value} (h : w.ownsRow B e s v n xs) (hb : Below w.heap.size w w') : w'.ownsRow B e s v n xs := own_frm h (Frm.of_below hb (Nat.le_refl _) (fun _ => False)) (fun _ _ h => h)
theorem radd_end {w w1 w3 : World} {B g room bf N c n M g3 cap : Nat} {a : List RX} {f : RX} {x : Int} (T : RS w B g room (.slice (some ⟨bf, 0, none⟩) N c) (a ++ [f])) (hb1 : Below w.heap.size w w1) (b3 : Below w1.heap.size w1 w3)
    (own3 : w3.ownsRow w1.heap.size 29 1 (.slice (some ⟨g3, 0, none⟩) (M + 1) cap) (M + 1) (wds f.f.added ++ [.int .u64 x])) (hM : M = f.f.added.length) (hn : n = a.length) (hr : used ((a ++ [f]).map (·.f)) < room) :
    RS (w3.setCell ⟨bf, n * 4 + 3, none⟩ (.slice (some ⟨g3, 0, none⟩) (M + 1) cap)) B g room (.slice (some ⟨bf, 0, none⟩) N c) (a ++ [⟨{ f.f with added := f.f.added ++ [x] }, f.sv, .slice (some ⟨g3, 0, none⟩) (M + 1) cap⟩]) ∧ Frm w (w3.setCell ⟨bf, n * 4 + 3, none⟩ (.slice (some ⟨g3, 0, none⟩) (M + 1) cap)) (Own g (.slice (some ⟨bf, 0, none⟩) N c) (a ++ [f])) ∧ ∀ k', Own g (.slice (some ⟨bf, 0, none⟩) N c) (a ++ [⟨{ f.f with added := f.f.added ++ [x] }, f.sv, .slice (some ⟨g3, 0, none⟩) (M + 1) cap⟩]) k' → Own g (.slice (some ⟨bf, 0, none⟩) N c) (a ++ [f]) k' ∨ w.heap.size ≤ k' := by
  have hs1 := hb1.size
  have b13 : Below w.heap.size w w3 := hb1.trans (b3.mono hs1)
  have T3 := T.below b13
  have hN : 0 < N := by
    obtain ⟨_, _, e, _⟩ := T.shape
    injection e with _ e
    rw [e]; simp
  have hg3 := (own3.lt g3 rfl).1
  have hBw : B ≤ w1.heap.size := by have := T.le; have := T.glt; omega
  have hav : Rw w3 B 29 1 (.slice (some ⟨g3, 0, none⟩) (M + 1) cap) (f.f.added ++ [x]).length (wds (f.f.added ++ [x])) := by
    rw [wds_app, List.length_append, List.length_singleton, ← hM]
    exact Rw.of_own (own_mono own3 hBw)
  have hrb : ∀ k, rb (.slice (some ⟨g3, 0, none⟩) (M + 1) cap) = some k → k = g3 := fun k hk => by
    rw [rb_pos (by omega)] at hk; injection hk with hk; exact hk.symm
  have h := RS.putAv (b := []) T3 hav (fun k hk => .inr (fun z hz e => by
    rw [hrb k hk] at e
    have := (T.row z hz g3 e).2.1
    omega)) (by
    have h2 := hr
    rw [List.map_append, List.map_cons, List.map_nil, used_snoc] at h2
    have e0 : used (([] : List RX).map (·.f)) = 0 := rfl
    rw [e0, List.length_append, List.length_singleton]; omega)
  rw [← hn] at h
  refine ⟨h.1, ?_, fun k' hk' => ?_⟩
  · exact (Frm.of_below b13 (Nat.le_refl _) _).trans (h.2.1.mono (fun q _ hq => by rw [hq]; exact .inr (.inl (rb_pos hN))))
  · rcases h.2.2 k' hk' with h | h
    · exact .inl h
    · right; rw [hrb k' h]; omega
set_option maxRecDepth 100000 in
set_option maxHeartbeats 8000000 in
theorem radd_ok {w : World} {B g room : Nat} {fv : Value} {a : List RX} {f : RX} (x : Int) (hr : used ((a ++ [f]).map (·.f)) < room) (t : RS w B g room fv (a ++ [f])) :
    Calls Try.prog 24 #[.pointer (some ⟨g, 0, none⟩), .int .u64 x] w fun e w' => ∃ av, e = .returned (.int .i64 0) ∧ Hid (RS w' B g room fv (a ++ [⟨{ f.f with added := f.f.added ++ [x] }, f.sv, av⟩])) ∧ Hid (Frm w w' (Own g fv (a ++ [f]))) ∧ Hid (∀ k', Own g fv (a ++ [⟨{ f.f with added := f.f.added ++ [x] }, f.sv, av⟩]) k' → Own g fv (a ++ [f]) k' ∨ w.heap.size ≤ k') := by
  obtain ⟨i0, hi0, hz0, hz1, hz2⟩ := info_parts info29
  have US := Lib.hid (fun W (hW : Below w.heap.size w W) => rused_any (t.below hW))
  have c0 := t.c0
  have c1 := t.c1
  have hlen := t.len.1
  have T := Lib.hid t
  obtain ⟨bf, c, rfl, hc, hcell, hfz⟩ := t.at
  obtain ⟨_, _, _, y3⟩ := hcell w (Below.refl _ _)
  have zf := hfz (a.length * 4 + 3)
  obtain ⟨_, ⟨A2, c2, e2, hc2, hA2⟩, hsm⟩ := RX.rows t
  have hrow := t.ra f (by simp)
  rw [e2] at hrow y3
  obtain ⟨n, hn⟩ : ∃ n, n = a.length := ⟨_, rfl⟩
  obtain ⟨N, hN⟩ : ∃ N, N = (a ++ [f]).length := ⟨_, rfl⟩
  have HRW := Lib.hid hrow
  rw [← hN] at c1 hlen
  rw [← hn] at y3 zf
  have hl : N = n + 1 := by rw [hN, hn]; simp
  have hN1 : (N : Int) - 1 = (n : Int) := by omega
  have hN0 : ((N : Int) == 0) = false := beq_eq_false_iff_ne.2 (by omega)
  have hN0' : (N == 0) = false := beq_eq_false_iff_ne.2 (by omega)
  have hn9 : n ≤ 4096 := by omega
  have hnN : (n : Int) < (N : Int) := by omega
  obtain ⟨M, hM⟩ : ∃ M, M = f.f.added.length := ⟨_, rfl⟩
  rw [← hM] at y3 hc2
  have hM9 : M ≤ 4096 := by omega
  obtain ⟨U, hU⟩ : ∃ U, U = used ((a ++ [f]).map (·.f)) := ⟨_, rfl⟩
  rw [← hU] at US hr
  have d := decide_eq_false (show ¬ (room : Int) ≤ (U : Int) by omega)
  have d' := decide_eq_false (show ¬ room ≤ U by omega)
  have glt := t.glt
  have hbf : bf < w.heap.size := (t.lt bf (.inr (.inl (rb_pos (by simp))))).2
  have HM := Lib.hid hM
  have HN := Lib.hid hn
  have HR := Lib.hid (hU ▸ hr)
  clear t hU hN hrow hcell hfz hl hA2 hM hn e2
  go_enter Try.func24, Try.ntmps24
  go_wp2_with fail
  refine wp_region_held_drew (S := fun w' => w'.cell? ⟨g, 0, none⟩ = some (.int .i64 room)) (by kernel_rfl) ?_ (fun hHeld => ?_)
  · (try dsimp only); go_keep
  refine wpAnyH_take (i := 0) (oi := { dst := some 13, op := Go.Op.move (Go.Operand.tmp 0), type := 44, pos := _, after := #[], guard := none }) (v := ?v0) rfl (by kernel_rfl) (by kernel_rfl) (by kernel_rfl) (fun _ _ _ h => h) (Or.inl ⟨by rfl, ?hy0⟩) (by assumption) ?_
  case hy0 => (intro wz hSw; (try dsimp only at hSw); go_simp; try with_reducible rfl)
  (try simp only [Act.put, List.setIfInBounds_toArray, List.set_cons_zero, List.set_cons_succ])
  refine wpAnyH_take (i := 2) (oi := { dst := some 15, op := Go.Op.move (Go.Operand.tmp 0), type := 44, pos := _, after := #[], guard := none }) (v := ?v2) rfl (by kernel_rfl) (by kernel_rfl) (by kernel_rfl) (fun _ _ _ h => h) (Or.inl ⟨by rfl, ?hy2⟩) (by assumption) ?_
  case hy2 => (intro wz hSw; (try dsimp only at hSw); go_simp; try with_reducible rfl)
  (try simp only [Act.put, List.setIfInBounds_toArray, List.set_cons_zero, List.set_cons_succ])
  refine wpAnyH_take (i := 3) (oi := { dst := some 16, op := Go.Op.nilCheck (Go.Operand.tmp 15), type := 0, pos := _, after := #[{ on := 2, ground := Go.Ground.data }], guard := none }) (v := ?v3) rfl (by kernel_rfl) (by kernel_rfl) (by kernel_rfl) (fun _ _ _ h => h) (Or.inl ⟨by rfl, ?hy3⟩) (by assumption) ?_
  case hy3 => (intro wz hSw; (try dsimp only at hSw); go_simp; try with_reducible rfl)
  (try simp only [Act.put, List.setIfInBounds_toArray, List.set_cons_zero, List.set_cons_succ])
  refine wpAnyH_take (i := 4) (oi := { dst := some 17, op := Go.Op.fieldAddr 47 (Go.Operand.tmp 16) 0, type := 0, pos := _, after := #[{ on := 3, ground := Go.Ground.data }], guard := none }) (v := ?v4) rfl (by kernel_rfl) (by kernel_rfl) (by kernel_rfl) (fun _ _ _ h => h) (Or.inl ⟨by rfl, ?hy4⟩) (by assumption) ?_
  case hy4 => (intro wz hSw; (try dsimp only at hSw); go_simp; try with_reducible rfl)
  (try simp only [Act.put, List.setIfInBounds_toArray, List.set_cons_zero, List.set_cons_succ])
  refine wpAnyH_take (i := 5) (oi := { dst := some 18, op := Go.Op.load 3 (Go.Operand.tmp 17), type := 3, pos := _, after := #[{ on := 4, ground := Go.Ground.data }], guard := none }) (v := ?v5) rfl (by kernel_rfl) (by kernel_rfl) (by kernel_rfl) (fun _ _ _ h => h) (Or.inl ⟨by rfl, ?hy5⟩) (by assumption) ?_
  case hy5 => (intro wz hSw; (try dsimp only at hSw); go_simp; try with_reducible rfl)
  (try simp only [Act.put, List.setIfInBounds_toArray, List.set_cons_zero, List.set_cons_succ])
  refine wpAnyH_ready (rs := [1]) (by kernel_rfl) (by simp) ?_
  refine AllReadyH.cons (o := { dst := some 14, op := Go.Op.call { callee := Go.Callee.value (Go.Operand.func 42), args := #[Go.Operand.tmp 13], argTypes := #[44] }, type := 3, pos := _, after := #[{ on := 0, ground := Go.Ground.data }], guard := none }) rfl (fun K hK => ?_) AllReadyH.nil
  go_simp
  refine (US.out _ (below_drew w)).mono ?_; rintro e w1 ⟨rfl, hb0⟩
  have hb1 := bt (below_drew w) hb0
  clear hb0
  have c0b := (hb1.cell (p := ⟨g, 0, none⟩) glt).trans c0
  go_wp2_with fail
  refine hK.out _ _ ?_ (fun hHeld => ?_)
  · (try dsimp only); go_keep
  clear hK K
  (try simp only [Act.put, List.setIfInBounds_toArray, List.set_cons_zero, List.set_cons_succ])
  refine wpAnyH_take (i := 6) (oi := { dst := some 19, op := Go.Op.binOp Go.BinOp.geq 3 (Go.Operand.tmp 14) (Go.Operand.tmp 18) 3, type := 4, pos := _, after := #[{ on := 1, ground := Go.Ground.data }, { on := 5, ground := Go.Ground.data }], guard := none }) (v := ?v6) rfl (by kernel_rfl) (by kernel_rfl) (by kernel_rfl) (fun _ _ _ h => h) (Or.inl ⟨by rfl, ?hy6⟩) (by assumption) ?_
  case hy6 => (intro wz hSw; (try dsimp only at hSw); go_simp; try with_reducible rfl)
  (try simp only [Act.put, List.setIfInBounds_toArray, List.set_cons_zero, List.set_cons_succ])
  refine wpAnyH_done (by kernel_rfl) ?_ _
  have T1 := Lib.hid (T.out.below hb1)
  have hrow1 : Hid (Rw w1 B 29 1 (.slice A2 M c2) M (wds f.f.added)) := Lib.hid (by rw [HM.out]; exact HRW.out.frm (R := fun _ => False) (Frm.of_below hb1 (Nat.le_refl _) _) (fun _ _ h => h))
  have d1 := (hb1.cell (p := ⟨g, 1, none⟩) glt).trans c1
  have d3 := (hb1.cell (p := ⟨bf, n * 4 + 3, none⟩) hbf).trans y3
  have zf1 := (hb1.frozen (p := ⟨bf, n * 4 + 3, none⟩) hbf).trans zf
  have glt1 : g < w1.heap.size := Nat.lt_of_lt_of_le glt hb1.size
  have hbf1 : bf < w1.heap.size := Nat.lt_of_lt_of_le hbf hb1.size
  have hwr : IntKind.i64.wrap (n : Int) = (n : Int) := IntWalk.i64_in _ (by omega)
  have HB1 := Lib.hid hb1
  clear c0 c1 y3 zf c0b hHeld d d'
  go_wp2_with fail
  have BD : Hid (Below w1.heap.size w1 w1.drew) := Lib.hid (below_drew w1)
  refine wp_region_D [22] (fun w' => Below w1.heap.size w1 w') (by kernel_rfl) (below_drew w1) (fun hHeld => ?_)
  obtain ⟨w_0, hw_0⟩ : ∃ z, z = w1.drew := ⟨_, rfl⟩
  rw [← hw_0] at hHeld BD ⊢
  clear hw_0
  refine WD_take (i := 0) (oi := { dst := some 20, op := Go.Op.move (Go.Operand.tmp 0), type := 44, pos := _, after := #[], guard := none }) (v := ?vb0) rfl (by kernel_rfl) (by kernel_rfl) (by kernel_rfl) (by kernel_rfl) (fun _ _ _ h => h) (Or.inl ⟨by rfl, ?hyb0⟩) hHeld ?_
  case hyb0 => (intro wz hSw; (try dsimp only at hSw); have z1 := (hSw.cell (p := ⟨g, 1, none⟩) glt1).trans d1; have z3 := (hSw.cell (p := ⟨bf, n * 4 + 3, none⟩) hbf1).trans d3; go_simp; try with_reducible rfl)
  (try simp only [Act.put, List.setIfInBounds_toArray, List.set_cons_zero, List.set_cons_succ])
  refine WD_take (i := 1) (oi := { dst := some 21, op := Go.Op.nilCheck (Go.Operand.tmp 20), type := 0, pos := _, after := #[{ on := 0, ground := Go.Ground.data }], guard := none }) (v := ?vb1) rfl (by kernel_rfl) (by kernel_rfl) (by kernel_rfl) (by kernel_rfl) (fun _ _ _ h => h) (Or.inl ⟨by rfl, ?hyb1⟩) hHeld ?_
  case hyb1 => (intro wz hSw; (try dsimp only at hSw); have z1 := (hSw.cell (p := ⟨g, 1, none⟩) glt1).trans d1; have z3 := (hSw.cell (p := ⟨bf, n * 4 + 3, none⟩) hbf1).trans d3; go_simp; try with_reducible rfl)
  (try simp only [Act.put, List.setIfInBounds_toArray, List.set_cons_zero, List.set_cons_succ])
  refine WD_take (i := 2) (oi := { dst := some 22, op := Go.Op.fieldAddr 47 (Go.Operand.tmp 21) 1, type := 0, pos := _, after := #[{ on := 1, ground := Go.Ground.data }], guard := none }) (v := ?vb2) rfl (by kernel_rfl) (by kernel_rfl) (by kernel_rfl) (by kernel_rfl) (fun _ _ _ h => h) (Or.inl ⟨by rfl, ?hyb2⟩) hHeld ?_
  case hyb2 => (intro wz hSw; (try dsimp only at hSw); have z1 := (hSw.cell (p := ⟨g, 1, none⟩) glt1).trans d1; have z3 := (hSw.cell (p := ⟨bf, n * 4 + 3, none⟩) hbf1).trans d3; go_simp; try with_reducible rfl)
  (try simp only [Act.put, List.setIfInBounds_toArray, List.set_cons_zero, List.set_cons_succ])
  refine WD_take (i := 3) (oi := { dst := some 23, op := Go.Op.load 45 (Go.Operand.tmp 22), type := 45, pos := _, after := #[{ on := 2, ground := Go.Ground.data }], guard := none }) (v := ?vb3) rfl (by kernel_rfl) (by kernel_rfl) (by kernel_rfl) (by kernel_rfl) (fun _ _ _ h => h) (Or.inl ⟨by rfl, ?hyb3⟩) hHeld ?_
  case hyb3 => (intro wz hSw; (try dsimp only at hSw); have z1 := (hSw.cell (p := ⟨g, 1, none⟩) glt1).trans d1; have z3 := (hSw.cell (p := ⟨bf, n * 4 + 3, none⟩) hbf1).trans d3; go_simp; try with_reducible rfl)
  (try simp only [Act.put, List.setIfInBounds_toArray, List.set_cons_zero, List.set_cons_succ])
  refine WD_take (i := 4) (oi := { dst := some 24, op := Go.Op.move (Go.Operand.tmp 5), type := 3, pos := _, after := #[], guard := none }) (v := ?vb4) rfl (by kernel_rfl) (by kernel_rfl) (by kernel_rfl) (by kernel_rfl) (fun _ _ _ h => h) (Or.inl ⟨by rfl, ?hyb4⟩) hHeld ?_
  case hyb4 => (intro wz hSw; (try dsimp only at hSw); have z1 := (hSw.cell (p := ⟨g, 1, none⟩) glt1).trans d1; have z3 := (hSw.cell (p := ⟨bf, n * 4 + 3, none⟩) hbf1).trans d3; go_simp; try with_reducible rfl)
  (try simp only [Act.put, List.setIfInBounds_toArray, List.set_cons_zero, List.set_cons_succ])
  refine WD_take (i := 5) (oi := { dst := some 25, op := Go.Op.binOp Go.BinOp.sub 3 (Go.Operand.tmp 24) (Go.Operand.const (Go.Value.int Go.IntKind.i64 1)) 3, type := 3, pos := _, after := #[{ on := 4, ground := Go.Ground.data }], guard := none }) (v := ?vb5) rfl (by kernel_rfl) (by kernel_rfl) (by kernel_rfl) (by kernel_rfl) (fun _ _ _ h => h) (Or.inl ⟨by rfl, ?hyb5⟩) hHeld ?_
  case hyb5 => (intro wz hSw; (try dsimp only at hSw); have z1 := (hSw.cell (p := ⟨g, 1, none⟩) glt1).trans d1; have z3 := (hSw.cell (p := ⟨bf, n * 4 + 3, none⟩) hbf1).trans d3; go_simp; try with_reducible rfl)
  (try simp only [Act.put, List.setIfInBounds_toArray, List.set_cons_zero, List.set_cons_succ])
  refine WD_take (i := 7) (oi := { dst := some 27, op := Go.Op.move (Go.Operand.tmp 0), type := 44, pos := _, after := #[], guard := none }) (v := ?vb7) rfl (by kernel_rfl) (by kernel_rfl) (by kernel_rfl) (by kernel_rfl) (fun _ _ _ h => h) (Or.inl ⟨by rfl, ?hyb7⟩) hHeld ?_
  case hyb7 => (intro wz hSw; (try dsimp only at hSw); have z1 := (hSw.cell (p := ⟨g, 1, none⟩) glt1).trans d1; have z3 := (hSw.cell (p := ⟨bf, n * 4 + 3, none⟩) hbf1).trans d3; go_simp; try with_reducible rfl)
  (try simp only [Act.put, List.setIfInBounds_toArray, List.set_cons_zero, List.set_cons_succ])
  refine WD_take (i := 8) (oi := { dst := some 28, op := Go.Op.nilCheck (Go.Operand.tmp 27), type := 0, pos := _, after := #[{ on := 7, ground := Go.Ground.data }], guard := none }) (v := ?vb8) rfl (by kernel_rfl) (by kernel_rfl) (by kernel_rfl) (by kernel_rfl) (fun _ _ _ h => h) (Or.inl ⟨by rfl, ?hyb8⟩) hHeld ?_
  case hyb8 => (intro wz hSw; (try dsimp only at hSw); have z1 := (hSw.cell (p := ⟨g, 1, none⟩) glt1).trans d1; have z3 := (hSw.cell (p := ⟨bf, n * 4 + 3, none⟩) hbf1).trans d3; go_simp; try with_reducible rfl)
  (try simp only [Act.put, List.setIfInBounds_toArray, List.set_cons_zero, List.set_cons_succ])
  refine WD_take (i := 9) (oi := { dst := some 29, op := Go.Op.fieldAddr 47 (Go.Operand.tmp 28) 1, type := 0, pos := _, after := #[{ on := 8, ground := Go.Ground.data }], guard := none }) (v := ?vb9) rfl (by kernel_rfl) (by kernel_rfl) (by kernel_rfl) (by kernel_rfl) (fun _ _ _ h => h) (Or.inl ⟨by rfl, ?hyb9⟩) hHeld ?_
  case hyb9 => (intro wz hSw; (try dsimp only at hSw); have z1 := (hSw.cell (p := ⟨g, 1, none⟩) glt1).trans d1; have z3 := (hSw.cell (p := ⟨bf, n * 4 + 3, none⟩) hbf1).trans d3; go_simp; try with_reducible rfl)
  (try simp only [Act.put, List.setIfInBounds_toArray, List.set_cons_zero, List.set_cons_succ])
  refine WD_take (i := 10) (oi := { dst := some 30, op := Go.Op.load 45 (Go.Operand.tmp 29), type := 45, pos := _, after := #[{ on := 9, ground := Go.Ground.data }], guard := none }) (v := ?vb10) rfl (by kernel_rfl) (by kernel_rfl) (by kernel_rfl) (by kernel_rfl) (fun _ _ _ h => h) (Or.inl ⟨by rfl, ?hyb10⟩) hHeld ?_
  case hyb10 => (intro wz hSw; (try dsimp only at hSw); have z1 := (hSw.cell (p := ⟨g, 1, none⟩) glt1).trans d1; have z3 := (hSw.cell (p := ⟨bf, n * 4 + 3, none⟩) hbf1).trans d3; go_simp; try with_reducible rfl)
  (try simp only [Act.put, List.setIfInBounds_toArray, List.set_cons_zero, List.set_cons_succ])
  refine WD_take (i := 11) (oi := { dst := some 31, op := Go.Op.move (Go.Operand.tmp 5), type := 3, pos := _, after := #[], guard := none }) (v := ?vb11) rfl (by kernel_rfl) (by kernel_rfl) (by kernel_rfl) (by kernel_rfl) (fun _ _ _ h => h) (Or.inl ⟨by rfl, ?hyb11⟩) hHeld ?_
  case hyb11 => (intro wz hSw; (try dsimp only at hSw); have z1 := (hSw.cell (p := ⟨g, 1, none⟩) glt1).trans d1; have z3 := (hSw.cell (p := ⟨bf, n * 4 + 3, none⟩) hbf1).trans d3; go_simp; try with_reducible rfl)
  (try simp only [Act.put, List.setIfInBounds_toArray, List.set_cons_zero, List.set_cons_succ])
  refine WD_take (i := 12) (oi := { dst := some 32, op := Go.Op.binOp Go.BinOp.sub 3 (Go.Operand.tmp 31) (Go.Operand.const (Go.Value.int Go.IntKind.i64 1)) 3, type := 3, pos := _, after := #[{ on := 11, ground := Go.Ground.data }], guard := none }) (v := ?vb12) rfl (by kernel_rfl) (by kernel_rfl) (by kernel_rfl) (by kernel_rfl) (fun _ _ _ h => h) (Or.inl ⟨by rfl, ?hyb12⟩) hHeld ?_
  case hyb12 => (intro wz hSw; (try dsimp only at hSw); have z1 := (hSw.cell (p := ⟨g, 1, none⟩) glt1).trans d1; have z3 := (hSw.cell (p := ⟨bf, n * 4 + 3, none⟩) hbf1).trans d3; go_simp; try with_reducible rfl)
  (try simp only [Act.put, List.setIfInBounds_toArray, List.set_cons_zero, List.set_cons_succ])
  refine WD_take (i := 13) (oi := { dst := some 33, op := Go.Op.indexAddr 45 (Go.Operand.tmp 30) (Go.Operand.tmp 32), type := 0, pos := _, after := #[{ on := 10, ground := Go.Ground.data }, { on := 12, ground := Go.Ground.data }], guard := none }) (v := ?vb13) rfl (by kernel_rfl) (by kernel_rfl) (by kernel_rfl) (by kernel_rfl) (fun _ _ _ h => h) (Or.inl ⟨by rfl, ?hyb13⟩) hHeld ?_
  case hyb13 => (intro wz hSw; (try dsimp only at hSw); have z1 := (hSw.cell (p := ⟨g, 1, none⟩) glt1).trans d1; have z3 := (hSw.cell (p := ⟨bf, n * 4 + 3, none⟩) hbf1).trans d3; go_simp; try with_reducible rfl)
  (try simp only [Act.put, List.setIfInBounds_toArray, List.set_cons_zero, List.set_cons_succ])
  refine WD_take (i := 14) (oi := { dst := some 34, op := Go.Op.fieldAddr 80 (Go.Operand.tmp 33) 3, type := 0, pos := _, after := #[{ on := 13, ground := Go.Ground.data }], guard := none }) (v := ?vb14) rfl (by kernel_rfl) (by kernel_rfl) (by kernel_rfl) (by kernel_rfl) (fun _ _ _ h => h) (Or.inl ⟨by rfl, ?hyb14⟩) hHeld ?_
  case hyb14 => (intro wz hSw; (try dsimp only at hSw); have z1 := (hSw.cell (p := ⟨g, 1, none⟩) glt1).trans d1; have z3 := (hSw.cell (p := ⟨bf, n * 4 + 3, none⟩) hbf1).trans d3; go_simp; try with_reducible rfl)
  (try simp only [Act.put, List.setIfInBounds_toArray, List.set_cons_zero, List.set_cons_succ])
  refine WD_take (i := 15) (oi := { dst := some 35, op := Go.Op.load 48 (Go.Operand.tmp 34), type := 48, pos := _, after := #[{ on := 14, ground := Go.Ground.data }], guard := none }) (v := ?vb15) rfl (by kernel_rfl) (by kernel_rfl) (by kernel_rfl) (by kernel_rfl) (fun _ _ _ h => h) (Or.inl ⟨by rfl, ?hyb15⟩) hHeld ?_
  case hyb15 => (intro wz hSw; (try dsimp only at hSw); have z1 := (hSw.cell (p := ⟨g, 1, none⟩) glt1).trans d1; have z3 := (hSw.cell (p := ⟨bf, n * 4 + 3, none⟩) hbf1).trans d3; go_simp; try with_reducible rfl)
  (try simp only [Act.put, List.setIfInBounds_toArray, List.set_cons_zero, List.set_cons_succ])
  refine WD_take (i := 17) (oi := { dst := some 37, op := Go.Op.move (Go.Operand.tmp 1), type := 29, pos := _, after := #[], guard := none }) (v := ?vb17) rfl (by kernel_rfl) (by kernel_rfl) (by kernel_rfl) (by kernel_rfl) (fun _ _ _ h => h) (Or.inl ⟨by rfl, ?hyb17⟩) hHeld ?_
  case hyb17 => (intro wz hSw; (try dsimp only at hSw); have z1 := (hSw.cell (p := ⟨g, 1, none⟩) glt1).trans d1; have z3 := (hSw.cell (p := ⟨bf, n * 4 + 3, none⟩) hbf1).trans d3; go_simp; try with_reducible rfl)
  (try simp only [Act.put, List.setIfInBounds_toArray, List.set_cons_zero, List.set_cons_succ])
  refine WD_ready (rs := [6, 18]) (by kernel_rfl) (by simp) ?_
  refine AllD.cons (o := { dst := some 26, op := Go.Op.buildSlice 48 0 #[], type := 48, pos := _, after := #[], guard := none }) rfl (fun K hK => ?_) (AllD.cons (o := { dst := some 38, op := Go.Op.buildSlice 48 1 #[(0, Go.Operand.tmp 37)], type := 48, pos := _, after := #[{ on := 17, ground := Go.Ground.data }], guard := none }) rfl (fun K hK => ?_) AllD.nil)
  · go_simp
    refine hK.out _ _ (bt BD.out (below_alloc w_0 _)) (fun hHeld_1 => ?_)
    clear hK K
    (try simp only [Act.put, List.setIfInBounds_toArray, List.set_cons_zero, List.set_cons_succ])
    obtain ⟨w_1, hw_1⟩ : ∃ z, z = w_0.alloc (.cells #[] 29) := ⟨_, rfl⟩
    have B_1 : Hid (Below w1.heap.size w1 w_1) := Lib.hid (by rw [hw_1]; exact hHeld_1)
    have C_1 : Hid (w_1.heap[w_0.heap.size]? = some (.cells #[] 29 (0, 0))) := Lib.hid (by rw [hw_1]; exact heap_alloc_new w_0 _)
    have L_1 : Hid (Below w_0.heap.size w_0 w_1) := Lib.hid (by rw [hw_1]; exact below_alloc w_0 _)
    have Z_1 : Hid (w1.heap.size ≤ w_0.heap.size ∧ w_0.heap.size < w_1.heap.size) := Lib.hid ⟨BD.out.size, by rw [hw_1]; show _ < (Array.push _ _).size; simp⟩
    clear hHeld_1
    try rw [← hw_1]
    clear hw_1
    refine WD_ready (rs := [16, 18]) (by kernel_rfl) (by simp) ?_
    refine AllD.cons (o := { dst := some 36, op := Go.Op.call { callee := Go.Callee.builtin Go.Builtin.append, args := #[Go.Operand.tmp 26, Go.Operand.tmp 35], argTypes := #[48, 48] }, type := 48, pos := _, after := #[{ on := 6, ground := Go.Ground.data }, { on := 15, ground := Go.Ground.data }], guard := none }) rfl (fun K hK => ?_) (AllD.cons (o := { dst := some 38, op := Go.Op.buildSlice 48 1 #[(0, Go.Operand.tmp 37)], type := 48, pos := _, after := #[{ on := 17, ground := Go.Ground.data }], guard := none }) rfl (fun K hK => ?_) AllD.nil)
    · refine step_append_sl rfl (.tmp 26) (.tmp 35) 48 rfl w1.heap.size 29 i0 (.int .u64 0) 1 8 Try.underlying48 hi0 hz0 hz1 hz2 rfl (by decide) (.slice (some ⟨w_0.heap.size, 0, none⟩) 0 0) 0 [] rfl (own_lit0 (k := w_0.heap.size) C_1.out Z_1.out.1) A2 M c2 (wds f.f.added) rfl (by rw [wds_len, Nat.mul_one, HM.out]) hrow1.out.none0 (hrow1.out.news B_1.out) (wds_one _) (by unfold maxLen; omega) (by omega) B_1.out.size ?_
      intro v_2 w_2 own_2 gr_2 at_2
      simp only [Nat.zero_add, List.nil_append] at own_2
      have B_2 : Hid (Below w1.heap.size w1 w_2) := Lib.hid (B_1.out.grown gr_2 B_1.out.size (fun q hq => by simp [Value.ownBlock] at hq; have := Z_1.out.1; omega))
      have op_2 := Lib.hid own_2
      clear own_2 gr_2 at_2
      refine hK.out _ _ B_2.out (fun _ => ?_)
      clear hK K
      (try simp only [Act.put, List.setIfInBounds_toArray, List.set_cons_zero, List.set_cons_succ])
      refine WD_ready (rs := [18]) (by kernel_rfl) (by simp) ?_
      refine AllD.cons (o := { dst := some 38, op := Go.Op.buildSlice 48 1 #[(0, Go.Operand.tmp 37)], type := 48, pos := _, after := #[{ on := 17, ground := Go.Ground.data }], guard := none }) rfl (fun K hK => ?_) AllD.nil
      go_simp
      refine hK.out _ _ (bt B_2.out (below_alloc w_2 _)) (fun hHeld_3 => ?_)
      clear hK K
      (try simp only [Act.put, List.setIfInBounds_toArray, List.set_cons_zero, List.set_cons_succ])
      obtain ⟨w_3, hw_3⟩ : ∃ z, z = w_2.alloc (.cells #[.int .u64 x] 29) := ⟨_, rfl⟩
      have B_3 : Hid (Below w1.heap.size w1 w_3) := Lib.hid (by rw [hw_3]; exact hHeld_3)
      have C_3 : Hid (w_3.heap[w_2.heap.size]? = some (.cells #[.int .u64 x] 29 (0, 0))) := Lib.hid (by rw [hw_3]; exact heap_alloc_new w_2 _)
      have L_3 : Hid (Below w_2.heap.size w_2 w_3) := Lib.hid (by rw [hw_3]; exact below_alloc w_2 _)
      have Z_3 : Hid (w1.heap.size ≤ w_2.heap.size ∧ w_2.heap.size < w_3.heap.size) := Lib.hid ⟨B_2.out.size, by rw [hw_3]; show _ < (Array.push _ _).size; simp⟩
      clear hHeld_3
      try rw [← hw_3]
      clear hw_3
      have op_3 := Lib.hid (own_bl op_2.out L_3.out)
      refine WD_ready (rs := [19]) (by kernel_rfl) (by simp) ?_
      refine AllD.cons (o := { dst := some 39, op := Go.Op.call { callee := Go.Callee.builtin Go.Builtin.append, args := #[Go.Operand.tmp 36, Go.Operand.tmp 38], argTypes := #[48, 48] }, type := 48, pos := _, after := #[{ on := 16, ground := Go.Ground.data }, { on := 18, ground := Go.Ground.data }, { on := 16, ground := Go.Ground.chain }], guard := none }) rfl (fun K hK => ?_) AllD.nil
      refine step_append_lies _ (by rfl) (.tmp 36) (.tmp 38) 48 rfl w1.heap.size 29 i0 (.int .u64 0) 1 8 Try.underlying48 hi0 hz0 hz1 hz2 rfl (by decide) v_2 M (wds f.f.added) rfl op_3.out ⟨w_2.heap.size, 0, none⟩ 1 1 [.int .u64 x] rfl rfl (World.news_of_block (cs := #[.int .u64 x]) (t := 29) (fr := (0, 0)) C_3.out) (by simp [Value.oneCell']) (by omega) (by unfold maxLen; omega) (by omega) B_3.out.size _ rfl ?_
      intro g3 cap3 w_4 own_4 gr_4 at_4 hlt_4
      have B_4 : Hid (Below w1.heap.size w1 w_4) := Lib.hid (B_3.out.grown gr_4 B_3.out.size (fun q hq => (op_3.out.lt q hq).1))
      have oq_4 := Lib.hid own_4
      clear own_4 gr_4 at_4 hlt_4
      refine hK.out _ _ B_4.out (fun _ => ?_)
      clear hK K
      (try simp only [Act.put, List.setIfInBounds_toArray, List.set_cons_zero, List.set_cons_succ])
      refine WD_take (i := 20) (oi := { dst := some 40, op := Go.Op.indexAddr 45 (Go.Operand.tmp 23) (Go.Operand.tmp 25), type := 0, pos := _, after := #[{ on := 3, ground := Go.Ground.data }, { on := 5, ground := Go.Ground.data }, { on := 0, ground := Go.Ground.phase }, { on := 1, ground := Go.Ground.phase }, { on := 2, ground := Go.Ground.phase }, { on := 3, ground := Go.Ground.phase }, { on := 4, ground := Go.Ground.phase }, { on := 5, ground := Go.Ground.phase }, { on := 6, ground := Go.Ground.phase }, { on := 7, ground := Go.Ground.phase }, { on := 8, ground := Go.Ground.phase }, { on := 9, ground := Go.Ground.phase }, { on := 10, ground := Go.Ground.phase }, { on := 11, ground := Go.Ground.phase }, { on := 12, ground := Go.Ground.phase }, { on := 13, ground := Go.Ground.phase }, { on := 14, ground := Go.Ground.phase }, { on := 15, ground := Go.Ground.phase }, { on := 16, ground := Go.Ground.phase }, { on := 17, ground := Go.Ground.phase }, { on := 18, ground := Go.Ground.phase }, { on := 19, ground := Go.Ground.phase }], guard := none }) (v := ?ve4_20) rfl (by kernel_rfl) (by kernel_rfl) (by kernel_rfl) (by kernel_rfl) (fun _ _ _ h => h) (Or.inl ⟨by rfl, ?hye4_20⟩) B_4.out ?_
      case hye4_20 => (intro wz hSw; (try dsimp only at hSw); go_simp; try with_reducible rfl)
      (try simp only [Act.put, List.setIfInBounds_toArray, List.set_cons_zero, List.set_cons_succ])
      refine WD_take (i := 21) (oi := { dst := some 41, op := Go.Op.fieldAddr 80 (Go.Operand.tmp 40) 3, type := 0, pos := _, after := #[{ on := 20, ground := Go.Ground.data }, { on := 0, ground := Go.Ground.phase }, { on := 1, ground := Go.Ground.phase }, { on := 2, ground := Go.Ground.phase }, { on := 3, ground := Go.Ground.phase }, { on := 4, ground := Go.Ground.phase }, { on := 5, ground := Go.Ground.phase }, { on := 6, ground := Go.Ground.phase }, { on := 7, ground := Go.Ground.phase }, { on := 8, ground := Go.Ground.phase }, { on := 9, ground := Go.Ground.phase }, { on := 10, ground := Go.Ground.phase }, { on := 11, ground := Go.Ground.phase }, { on := 12, ground := Go.Ground.phase }, { on := 13, ground := Go.Ground.phase }, { on := 14, ground := Go.Ground.phase }, { on := 15, ground := Go.Ground.phase }, { on := 16, ground := Go.Ground.phase }, { on := 17, ground := Go.Ground.phase }, { on := 18, ground := Go.Ground.phase }, { on := 19, ground := Go.Ground.phase }], guard := none }) (v := ?ve4_21) rfl (by kernel_rfl) (by kernel_rfl) (by kernel_rfl) (by kernel_rfl) (fun _ _ _ h => h) (Or.inl ⟨by rfl, ?hye4_21⟩) B_4.out ?_
      case hye4_21 => (intro wz hSw; (try dsimp only at hSw); go_simp; try with_reducible rfl)
      (try simp only [Act.put, List.setIfInBounds_toArray, List.set_cons_zero, List.set_cons_succ])
      refine WD_ready (rs := [22]) (by kernel_rfl) (by simp) ?_
      refine AllD.last (o := { dst := none, op := Go.Op.store 48 (Go.Operand.tmp 41) (Go.Operand.tmp 39), type := 0, pos := _, after := #[{ on := 21, ground := Go.Ground.data }, { on := 19, ground := Go.Ground.data }, { on := 19, ground := Go.Ground.chain }, { on := 0, ground := Go.Ground.phase }, { on := 1, ground := Go.Ground.phase }, { on := 2, ground := Go.Ground.phase }, { on := 3, ground := Go.Ground.phase }, { on := 4, ground := Go.Ground.phase }, { on := 5, ground := Go.Ground.phase }, { on := 6, ground := Go.Ground.phase }, { on := 7, ground := Go.Ground.phase }, { on := 8, ground := Go.Ground.phase }, { on := 9, ground := Go.Ground.phase }, { on := 10, ground := Go.Ground.phase }, { on := 11, ground := Go.Ground.phase }, { on := 12, ground := Go.Ground.phase }, { on := 13, ground := Go.Ground.phase }, { on := 14, ground := Go.Ground.phase }, { on := 15, ground := Go.Ground.phase }, { on := 16, ground := Go.Ground.phase }, { on := 17, ground := Go.Ground.phase }, { on := 18, ground := Go.Ground.phase }, { on := 19, ground := Go.Ground.phase }], guard := none }) rfl (by kernel_rfl) (fun K hK => ?_) AllD.nil
      have e33 := (B_4.out.cell (p := ⟨bf, n * 4 + 3, none⟩) hbf1).trans d3
      have z33 := (B_4.out.frozen (p := ⟨bf, n * 4 + 3, none⟩) hbf1).trans zf1
      go_simp
      refine hK.out _ _ ?_
      clear hK K
      (try simp only [Act.put, List.setIfInBounds_toArray, List.set_cons_zero, List.set_cons_succ])
      refine WD_done (by kernel_rfl) ?_ _
      go_wp2
      go_ret
      have E := radd_end T.out HB1.out B_4.out oq_4.out HM.out HN.out HR.out
      exact ⟨_, rfl, Lib.hid E.1, Lib.hid E.2.1, Lib.hid E.2.2⟩
    · go_simp
      refine hK.out _ _ (bt B_1.out (below_alloc w_1 _)) (fun hHeld_5 => ?_)
      clear hK K
      (try simp only [Act.put, List.setIfInBounds_toArray, List.set_cons_zero, List.set_cons_succ])
      obtain ⟨w_5, hw_5⟩ : ∃ z, z = w_1.alloc (.cells #[.int .u64 x] 29) := ⟨_, rfl⟩
      have B_5 : Hid (Below w1.heap.size w1 w_5) := Lib.hid (by rw [hw_5]; exact hHeld_5)
      have C_5 : Hid (w_5.heap[w_1.heap.size]? = some (.cells #[.int .u64 x] 29 (0, 0))) := Lib.hid (by rw [hw_5]; exact heap_alloc_new w_1 _)
      have L_5 : Hid (Below w_1.heap.size w_1 w_5) := Lib.hid (by rw [hw_5]; exact below_alloc w_1 _)
      have Z_5 : Hid (w1.heap.size ≤ w_1.heap.size ∧ w_1.heap.size < w_5.heap.size) := Lib.hid ⟨B_1.out.size, by rw [hw_5]; show _ < (Array.push _ _).size; simp⟩
      clear hHeld_5
      try rw [← hw_5]
      clear hw_5
      have c6_5 := Lib.hid ((L_5.out.block _ Z_1.out.2).trans C_1.out)
      have z6_5 := Lib.hid (And.intro Z_1.out.1 (Nat.lt_of_lt_of_le Z_1.out.2 L_5.out.size))
      refine WD_ready (rs := [16]) (by kernel_rfl) (by simp) ?_
      refine AllD.cons (o := { dst := some 36, op := Go.Op.call { callee := Go.Callee.builtin Go.Builtin.append, args := #[Go.Operand.tmp 26, Go.Operand.tmp 35], argTypes := #[48, 48] }, type := 48, pos := _, after := #[{ on := 6, ground := Go.Ground.data }, { on := 15, ground := Go.Ground.data }], guard := none }) rfl (fun K hK => ?_) AllD.nil
      refine step_append_sl rfl (.tmp 26) (.tmp 35) 48 rfl w1.heap.size 29 i0 (.int .u64 0) 1 8 Try.underlying48 hi0 hz0 hz1 hz2 rfl (by decide) (.slice (some ⟨w_0.heap.size, 0, none⟩) 0 0) 0 [] rfl (own_lit0 (k := w_0.heap.size) c6_5.out z6_5.out.1) A2 M c2 (wds f.f.added) rfl (by rw [wds_len, Nat.mul_one, HM.out]) hrow1.out.none0 (hrow1.out.news B_5.out) (wds_one _) (by unfold maxLen; omega) (by omega) B_5.out.size ?_
      intro v_6 w_6 own_6 gr_6 at_6
      simp only [Nat.zero_add, List.nil_append] at own_6
      have B_6 : Hid (Below w1.heap.size w1 w_6) := Lib.hid (B_5.out.grown gr_6 B_5.out.size (fun q hq => by simp [Value.ownBlock] at hq; have := z6_5.out.1; omega))
      have c18_6 : Hid (w_6.heap[w_1.heap.size]? = some (.cells #[.int .u64 x] 29 (0, 0))) := Lib.hid ((gr_6.block _ Z_5.out.2 (by simp [Value.ownBlock]; have := Z_1.out; omega)).trans C_5.out)
      have op_6 := Lib.hid own_6
      clear own_6 gr_6 at_6
      refine hK.out _ _ B_6.out (fun _ => ?_)
      clear hK K
      (try simp only [Act.put, List.setIfInBounds_toArray, List.set_cons_zero, List.set_cons_succ])
      refine WD_ready (rs := [19]) (by kernel_rfl) (by simp) ?_
      refine AllD.cons (o := { dst := some 39, op := Go.Op.call { callee := Go.Callee.builtin Go.Builtin.append, args := #[Go.Operand.tmp 36, Go.Operand.tmp 38], argTypes := #[48, 48] }, type := 48, pos := _, after := #[{ on := 16, ground := Go.Ground.data }, { on := 18, ground := Go.Ground.data }, { on := 16, ground := Go.Ground.chain }], guard := none }) rfl (fun K hK => ?_) AllD.nil
      refine step_append_lies _ (by rfl) (.tmp 36) (.tmp 38) 48 rfl w1.heap.size 29 i0 (.int .u64 0) 1 8 Try.underlying48 hi0 hz0 hz1 hz2 rfl (by decide) v_6 M (wds f.f.added) rfl op_6.out ⟨w_1.heap.size, 0, none⟩ 1 1 [.int .u64 x] rfl rfl (World.news_of_block (cs := #[.int .u64 x]) (t := 29) (fr := (0, 0)) c18_6.out) (by simp [Value.oneCell']) (by omega) (by unfold maxLen; omega) (by omega) B_6.out.size _ rfl ?_
      intro g3 cap3 w_7 own_7 gr_7 at_7 hlt_7
      have B_7 : Hid (Below w1.heap.size w1 w_7) := Lib.hid (B_6.out.grown gr_7 B_6.out.size (fun q hq => (op_6.out.lt q hq).1))
      have oq_7 := Lib.hid own_7
      clear own_7 gr_7 at_7 hlt_7
      refine hK.out _ _ B_7.out (fun _ => ?_)
      clear hK K
      (try simp only [Act.put, List.setIfInBounds_toArray, List.set_cons_zero, List.set_cons_succ])
      refine WD_take (i := 20) (oi := { dst := some 40, op := Go.Op.indexAddr 45 (Go.Operand.tmp 23) (Go.Operand.tmp 25), type := 0, pos := _, after := #[{ on := 3, ground := Go.Ground.data }, { on := 5, ground := Go.Ground.data }, { on := 0, ground := Go.Ground.phase }, { on := 1, ground := Go.Ground.phase }, { on := 2, ground := Go.Ground.phase }, { on := 3, ground := Go.Ground.phase }, { on := 4, ground := Go.Ground.phase }, { on := 5, ground := Go.Ground.phase }, { on := 6, ground := Go.Ground.phase }, { on := 7, ground := Go.Ground.phase }, { on := 8, ground := Go.Ground.phase }, { on := 9, ground := Go.Ground.phase }, { on := 10, ground := Go.Ground.phase }, { on := 11, ground := Go.Ground.phase }, { on := 12, ground := Go.Ground.phase }, { on := 13, ground := Go.Ground.phase }, { on := 14, ground := Go.Ground.phase }, { on := 15, ground := Go.Ground.phase }, { on := 16, ground := Go.Ground.phase }, { on := 17, ground := Go.Ground.phase }, { on := 18, ground := Go.Ground.phase }, { on := 19, ground := Go.Ground.phase }], guard := none }) (v := ?ve7_20) rfl (by kernel_rfl) (by kernel_rfl) (by kernel_rfl) (by kernel_rfl) (fun _ _ _ h => h) (Or.inl ⟨by rfl, ?hye7_20⟩) B_7.out ?_
      case hye7_20 => (intro wz hSw; (try dsimp only at hSw); go_simp; try with_reducible rfl)
      (try simp only [Act.put, List.setIfInBounds_toArray, List.set_cons_zero, List.set_cons_succ])
      refine WD_take (i := 21) (oi := { dst := some 41, op := Go.Op.fieldAddr 80 (Go.Operand.tmp 40) 3, type := 0, pos := _, after := #[{ on := 20, ground := Go.Ground.data }, { on := 0, ground := Go.Ground.phase }, { on := 1, ground := Go.Ground.phase }, { on := 2, ground := Go.Ground.phase }, { on := 3, ground := Go.Ground.phase }, { on := 4, ground := Go.Ground.phase }, { on := 5, ground := Go.Ground.phase }, { on := 6, ground := Go.Ground.phase }, { on := 7, ground := Go.Ground.phase }, { on := 8, ground := Go.Ground.phase }, { on := 9, ground := Go.Ground.phase }, { on := 10, ground := Go.Ground.phase }, { on := 11, ground := Go.Ground.phase }, { on := 12, ground := Go.Ground.phase }, { on := 13, ground := Go.Ground.phase }, { on := 14, ground := Go.Ground.phase }, { on := 15, ground := Go.Ground.phase }, { on := 16, ground := Go.Ground.phase }, { on := 17, ground := Go.Ground.phase }, { on := 18, ground := Go.Ground.phase }, { on := 19, ground := Go.Ground.phase }], guard := none }) (v := ?ve7_21) rfl (by kernel_rfl) (by kernel_rfl) (by kernel_rfl) (by kernel_rfl) (fun _ _ _ h => h) (Or.inl ⟨by rfl, ?hye7_21⟩) B_7.out ?_
      case hye7_21 => (intro wz hSw; (try dsimp only at hSw); go_simp; try with_reducible rfl)
      (try simp only [Act.put, List.setIfInBounds_toArray, List.set_cons_zero, List.set_cons_succ])
      refine WD_ready (rs := [22]) (by kernel_rfl) (by simp) ?_
      refine AllD.last (o := { dst := none, op := Go.Op.store 48 (Go.Operand.tmp 41) (Go.Operand.tmp 39), type := 0, pos := _, after := #[{ on := 21, ground := Go.Ground.data }, { on := 19, ground := Go.Ground.data }, { on := 19, ground := Go.Ground.chain }, { on := 0, ground := Go.Ground.phase }, { on := 1, ground := Go.Ground.phase }, { on := 2, ground := Go.Ground.phase }, { on := 3, ground := Go.Ground.phase }, { on := 4, ground := Go.Ground.phase }, { on := 5, ground := Go.Ground.phase }, { on := 6, ground := Go.Ground.phase }, { on := 7, ground := Go.Ground.phase }, { on := 8, ground := Go.Ground.phase }, { on := 9, ground := Go.Ground.phase }, { on := 10, ground := Go.Ground.phase }, { on := 11, ground := Go.Ground.phase }, { on := 12, ground := Go.Ground.phase }, { on := 13, ground := Go.Ground.phase }, { on := 14, ground := Go.Ground.phase }, { on := 15, ground := Go.Ground.phase }, { on := 16, ground := Go.Ground.phase }, { on := 17, ground := Go.Ground.phase }, { on := 18, ground := Go.Ground.phase }, { on := 19, ground := Go.Ground.phase }], guard := none }) rfl (by kernel_rfl) (fun K hK => ?_) AllD.nil
      have e33 := (B_7.out.cell (p := ⟨bf, n * 4 + 3, none⟩) hbf1).trans d3
      have z33 := (B_7.out.frozen (p := ⟨bf, n * 4 + 3, none⟩) hbf1).trans zf1
      go_simp
      refine hK.out _ _ ?_
      clear hK K
      (try simp only [Act.put, List.setIfInBounds_toArray, List.set_cons_zero, List.set_cons_succ])
      refine WD_done (by kernel_rfl) ?_ _
      go_wp2
      go_ret
      have E := radd_end T.out HB1.out B_7.out oq_7.out HM.out HN.out HR.out
      exact ⟨_, rfl, Lib.hid E.1, Lib.hid E.2.1, Lib.hid E.2.2⟩
  · go_simp
    refine hK.out _ _ (bt BD.out (below_alloc w_0 _)) (fun hHeld_8 => ?_)
    clear hK K
    (try simp only [Act.put, List.setIfInBounds_toArray, List.set_cons_zero, List.set_cons_succ])
    obtain ⟨w_8, hw_8⟩ : ∃ z, z = w_0.alloc (.cells #[.int .u64 x] 29) := ⟨_, rfl⟩
    have B_8 : Hid (Below w1.heap.size w1 w_8) := Lib.hid (by rw [hw_8]; exact hHeld_8)
    have C_8 : Hid (w_8.heap[w_0.heap.size]? = some (.cells #[.int .u64 x] 29 (0, 0))) := Lib.hid (by rw [hw_8]; exact heap_alloc_new w_0 _)
    have L_8 : Hid (Below w_0.heap.size w_0 w_8) := Lib.hid (by rw [hw_8]; exact below_alloc w_0 _)
    have Z_8 : Hid (w1.heap.size ≤ w_0.heap.size ∧ w_0.heap.size < w_8.heap.size) := Lib.hid ⟨BD.out.size, by rw [hw_8]; show _ < (Array.push _ _).size; simp⟩
    clear hHeld_8
    try rw [← hw_8]
    clear hw_8
    refine WD_ready (rs := [6]) (by kernel_rfl) (by simp) ?_
    refine AllD.cons (o := { dst := some 26, op := Go.Op.buildSlice 48 0 #[], type := 48, pos := _, after := #[], guard := none }) rfl (fun K hK => ?_) AllD.nil
    go_simp
    refine hK.out _ _ (bt B_8.out (below_alloc w_8 _)) (fun hHeld_9 => ?_)
    clear hK K
    (try simp only [Act.put, List.setIfInBounds_toArray, List.set_cons_zero, List.set_cons_succ])
    obtain ⟨w_9, hw_9⟩ : ∃ z, z = w_8.alloc (.cells #[] 29) := ⟨_, rfl⟩
    have B_9 : Hid (Below w1.heap.size w1 w_9) := Lib.hid (by rw [hw_9]; exact hHeld_9)
    have C_9 : Hid (w_9.heap[w_8.heap.size]? = some (.cells #[] 29 (0, 0))) := Lib.hid (by rw [hw_9]; exact heap_alloc_new w_8 _)
    have L_9 : Hid (Below w_8.heap.size w_8 w_9) := Lib.hid (by rw [hw_9]; exact below_alloc w_8 _)
    have Z_9 : Hid (w1.heap.size ≤ w_8.heap.size ∧ w_8.heap.size < w_9.heap.size) := Lib.hid ⟨B_8.out.size, by rw [hw_9]; show _ < (Array.push _ _).size; simp⟩
    clear hHeld_9
    try rw [← hw_9]
    clear hw_9
    have c18_9 := Lib.hid ((L_9.out.block _ Z_8.out.2).trans C_8.out)
    have z18_9 := Lib.hid (And.intro Z_8.out.1 (Nat.lt_of_lt_of_le Z_8.out.2 L_9.out.size))
    refine WD_ready (rs := [16]) (by kernel_rfl) (by simp) ?_
    refine AllD.cons (o := { dst := some 36, op := Go.Op.call { callee := Go.Callee.builtin Go.Builtin.append, args := #[Go.Operand.tmp 26, Go.Operand.tmp 35], argTypes := #[48, 48] }, type := 48, pos := _, after := #[{ on := 6, ground := Go.Ground.data }, { on := 15, ground := Go.Ground.data }], guard := none }) rfl (fun K hK => ?_) AllD.nil
    refine step_append_sl rfl (.tmp 26) (.tmp 35) 48 rfl w1.heap.size 29 i0 (.int .u64 0) 1 8 Try.underlying48 hi0 hz0 hz1 hz2 rfl (by decide) (.slice (some ⟨w_8.heap.size, 0, none⟩) 0 0) 0 [] rfl (own_lit0 (k := w_8.heap.size) C_9.out Z_9.out.1) A2 M c2 (wds f.f.added) rfl (by rw [wds_len, Nat.mul_one, HM.out]) hrow1.out.none0 (hrow1.out.news B_9.out) (wds_one _) (by unfold maxLen; omega) (by omega) B_9.out.size ?_
    intro v_10 w_10 own_10 gr_10 at_10
    simp only [Nat.zero_add, List.nil_append] at own_10
    have B_10 : Hid (Below w1.heap.size w1 w_10) := Lib.hid (B_9.out.grown gr_10 B_9.out.size (fun q hq => by simp [Value.ownBlock] at hq; have := Z_9.out.1; omega))
    have c18_10 : Hid (w_10.heap[w_0.heap.size]? = some (.cells #[.int .u64 x] 29 (0, 0))) := Lib.hid ((gr_10.block _ z18_9.out.2 (by simp [Value.ownBlock]; have := Z_8.out; omega)).trans c18_9.out)
    have op_10 := Lib.hid own_10
    clear own_10 gr_10 at_10
    refine hK.out _ _ B_10.out (fun _ => ?_)
    clear hK K
    (try simp only [Act.put, List.setIfInBounds_toArray, List.set_cons_zero, List.set_cons_succ])
    refine WD_ready (rs := [19]) (by kernel_rfl) (by simp) ?_
    refine AllD.cons (o := { dst := some 39, op := Go.Op.call { callee := Go.Callee.builtin Go.Builtin.append, args := #[Go.Operand.tmp 36, Go.Operand.tmp 38], argTypes := #[48, 48] }, type := 48, pos := _, after := #[{ on := 16, ground := Go.Ground.data }, { on := 18, ground := Go.Ground.data }, { on := 16, ground := Go.Ground.chain }], guard := none }) rfl (fun K hK => ?_) AllD.nil
    refine step_append_lies _ (by rfl) (.tmp 36) (.tmp 38) 48 rfl w1.heap.size 29 i0 (.int .u64 0) 1 8 Try.underlying48 hi0 hz0 hz1 hz2 rfl (by decide) v_10 M (wds f.f.added) rfl op_10.out ⟨w_0.heap.size, 0, none⟩ 1 1 [.int .u64 x] rfl rfl (World.news_of_block (cs := #[.int .u64 x]) (t := 29) (fr := (0, 0)) c18_10.out) (by simp [Value.oneCell']) (by omega) (by unfold maxLen; omega) (by omega) B_10.out.size _ rfl ?_
    intro g3 cap3 w_11 own_11 gr_11 at_11 hlt_11
    have B_11 : Hid (Below w1.heap.size w1 w_11) := Lib.hid (B_10.out.grown gr_11 B_10.out.size (fun q hq => (op_10.out.lt q hq).1))
    have oq_11 := Lib.hid own_11
    clear own_11 gr_11 at_11 hlt_11
    refine hK.out _ _ B_11.out (fun _ => ?_)
    clear hK K
    (try simp only [Act.put, List.setIfInBounds_toArray, List.set_cons_zero, List.set_cons_succ])
    refine WD_take (i := 20) (oi := { dst := some 40, op := Go.Op.indexAddr 45 (Go.Operand.tmp 23) (Go.Operand.tmp 25), type := 0, pos := _, after := #[{ on := 3, ground := Go.Ground.data }, { on := 5, ground := Go.Ground.data }, { on := 0, ground := Go.Ground.phase }, { on := 1, ground := Go.Ground.phase }, { on := 2, ground := Go.Ground.phase }, { on := 3, ground := Go.Ground.phase }, { on := 4, ground := Go.Ground.phase }, { on := 5, ground := Go.Ground.phase }, { on := 6, ground := Go.Ground.phase }, { on := 7, ground := Go.Ground.phase }, { on := 8, ground := Go.Ground.phase }, { on := 9, ground := Go.Ground.phase }, { on := 10, ground := Go.Ground.phase }, { on := 11, ground := Go.Ground.phase }, { on := 12, ground := Go.Ground.phase }, { on := 13, ground := Go.Ground.phase }, { on := 14, ground := Go.Ground.phase }, { on := 15, ground := Go.Ground.phase }, { on := 16, ground := Go.Ground.phase }, { on := 17, ground := Go.Ground.phase }, { on := 18, ground := Go.Ground.phase }, { on := 19, ground := Go.Ground.phase }], guard := none }) (v := ?ve11_20) rfl (by kernel_rfl) (by kernel_rfl) (by kernel_rfl) (by kernel_rfl) (fun _ _ _ h => h) (Or.inl ⟨by rfl, ?hye11_20⟩) B_11.out ?_
    case hye11_20 => (intro wz hSw; (try dsimp only at hSw); go_simp; try with_reducible rfl)
    (try simp only [Act.put, List.setIfInBounds_toArray, List.set_cons_zero, List.set_cons_succ])
    refine WD_take (i := 21) (oi := { dst := some 41, op := Go.Op.fieldAddr 80 (Go.Operand.tmp 40) 3, type := 0, pos := _, after := #[{ on := 20, ground := Go.Ground.data }, { on := 0, ground := Go.Ground.phase }, { on := 1, ground := Go.Ground.phase }, { on := 2, ground := Go.Ground.phase }, { on := 3, ground := Go.Ground.phase }, { on := 4, ground := Go.Ground.phase }, { on := 5, ground := Go.Ground.phase }, { on := 6, ground := Go.Ground.phase }, { on := 7, ground := Go.Ground.phase }, { on := 8, ground := Go.Ground.phase }, { on := 9, ground := Go.Ground.phase }, { on := 10, ground := Go.Ground.phase }, { on := 11, ground := Go.Ground.phase }, { on := 12, ground := Go.Ground.phase }, { on := 13, ground := Go.Ground.phase }, { on := 14, ground := Go.Ground.phase }, { on := 15, ground := Go.Ground.phase }, { on := 16, ground := Go.Ground.phase }, { on := 17, ground := Go.Ground.phase }, { on := 18, ground := Go.Ground.phase }, { on := 19, ground := Go.Ground.phase }], guard := none }) (v := ?ve11_21) rfl (by kernel_rfl) (by kernel_rfl) (by kernel_rfl) (by kernel_rfl) (fun _ _ _ h => h) (Or.inl ⟨by rfl, ?hye11_21⟩) B_11.out ?_
    case hye11_21 => (intro wz hSw; (try dsimp only at hSw); go_simp; try with_reducible rfl)
    (try simp only [Act.put, List.setIfInBounds_toArray, List.set_cons_zero, List.set_cons_succ])
    refine WD_ready (rs := [22]) (by kernel_rfl) (by simp) ?_
    refine AllD.last (o := { dst := none, op := Go.Op.store 48 (Go.Operand.tmp 41) (Go.Operand.tmp 39), type := 0, pos := _, after := #[{ on := 21, ground := Go.Ground.data }, { on := 19, ground := Go.Ground.data }, { on := 19, ground := Go.Ground.chain }, { on := 0, ground := Go.Ground.phase }, { on := 1, ground := Go.Ground.phase }, { on := 2, ground := Go.Ground.phase }, { on := 3, ground := Go.Ground.phase }, { on := 4, ground := Go.Ground.phase }, { on := 5, ground := Go.Ground.phase }, { on := 6, ground := Go.Ground.phase }, { on := 7, ground := Go.Ground.phase }, { on := 8, ground := Go.Ground.phase }, { on := 9, ground := Go.Ground.phase }, { on := 10, ground := Go.Ground.phase }, { on := 11, ground := Go.Ground.phase }, { on := 12, ground := Go.Ground.phase }, { on := 13, ground := Go.Ground.phase }, { on := 14, ground := Go.Ground.phase }, { on := 15, ground := Go.Ground.phase }, { on := 16, ground := Go.Ground.phase }, { on := 17, ground := Go.Ground.phase }, { on := 18, ground := Go.Ground.phase }, { on := 19, ground := Go.Ground.phase }], guard := none }) rfl (by kernel_rfl) (fun K hK => ?_) AllD.nil
    have e33 := (B_11.out.cell (p := ⟨bf, n * 4 + 3, none⟩) hbf1).trans d3
    have z33 := (B_11.out.frozen (p := ⟨bf, n * 4 + 3, none⟩) hbf1).trans zf1
    go_simp
    refine hK.out _ _ ?_
    clear hK K
    (try simp only [Act.put, List.setIfInBounds_toArray, List.set_cons_zero, List.set_cons_succ])
    refine WD_done (by kernel_rfl) ?_ _
    go_wp2
    go_ret
    have E := radd_end T.out HB1.out B_11.out oq_11.out HM.out HN.out HR.out
    exact ⟨_, rfl, Lib.hid E.1, Lib.hid E.2.1, Lib.hid E.2.2⟩
end Go.Proofs.Ytkecnhogooaccaa
