import Derived.Test.YtkecnhogooaccaaKeep
namespace Go.Proofs.Ytkecnhogooaccaa
open Go.ChangeShapes Go.WideShapes Go.ChangeAt Go.RowKit
set_option linter.unusedVariables false
/-- a call that is asked for. -/
structure ActR where
  op : Int
  a : Int
  b : Int
  n : Int
  w : Int
  l : List Int
instance : Inhabited ActR := ⟨⟨0, 0, 0, 0, 0, []⟩⟩
/-- the acts that came in. -/
def ActsIn (w : World) (A : Option Addr) (n : Nat) (acts : List ActR) : Prop :=
  acts.length = n ∧ (0 < n → ∃ b off, A = some ⟨b, off, none⟩ ∧ b < w.heap.size ∧ ∀ i, i < n →
    w.cell? ⟨b, off + i * 6, none⟩ = some (.int .i64 (acts.getD i default).op) ∧ w.cell? ⟨b, off + i * 6 + 1, none⟩ = some (.int .i64 (acts.getD i default).a) ∧ w.cell? ⟨b, off + i * 6 + 2, none⟩ = some (.int .i64 (acts.getD i default).b) ∧
    w.cell? ⟨b, off + i * 6 + 3, none⟩ = some (.int .i64 (acts.getD i default).n) ∧ w.cell? ⟨b, off + i * 6 + 4, none⟩ = some (.int .u64 (acts.getD i default).w) ∧
    ∃ A' m c, w.cell? ⟨b, off + i * 6 + 5, none⟩ = some (.slice A' m c) ∧ InL .u64 w A' m (acts.getD i default).l)
theorem ActsIn.at {w : World} {A : Option Addr} {n : Nat} {acts : List ActR} (h : ActsIn w A n acts) (hn : 0 < n) : ∃ b off, A = some ⟨b, off, none⟩ ∧ ∀ W i, Below w.heap.size w W → i < n →
    W.cell? ⟨b, off + i * 6, none⟩ = some (.int .i64 (acts.getD i default).op) ∧ W.cell? ⟨b, off + i * 6 + 1, none⟩ = some (.int .i64 (acts.getD i default).a) ∧ W.cell? ⟨b, off + i * 6 + 2, none⟩ = some (.int .i64 (acts.getD i default).b) ∧
    W.cell? ⟨b, off + i * 6 + 3, none⟩ = some (.int .i64 (acts.getD i default).n) ∧ W.cell? ⟨b, off + i * 6 + 4, none⟩ = some (.int .u64 (acts.getD i default).w) ∧
    ∃ A' m c, W.cell? ⟨b, off + i * 6 + 5, none⟩ = some (.slice A' m c) ∧ InL .u64 W A' m (acts.getD i default).l := by
  obtain ⟨b, off, e, hb, hc⟩ := h.2 hn
  refine ⟨b, off, e, fun W i hW hi => ?_⟩
  obtain ⟨h0, h1, h2, h3, h4, A', m, c, h5, h6⟩ := hc i hi
  refine ⟨(hW.cell (p := ⟨b, _, none⟩) hb).trans h0, (hW.cell (p := ⟨b, _, none⟩) hb).trans h1, (hW.cell (p := ⟨b, _, none⟩) hb).trans h2, (hW.cell (p := ⟨b, _, none⟩) hb).trans h3, (hW.cell (p := ⟨b, _, none⟩) hb).trans h4, A', m, c, (hW.cell (p := ⟨b, _, none⟩) hb).trans h5, ?_⟩
  refine ⟨h6.1, fun hm => ?_⟩
  obtain ⟨b', o', e', hb', hc'⟩ := h6.2 hm
  exact ⟨b', o', e', Nat.lt_of_lt_of_le hb' hW.size, fun j hj => (hW.cell (p := ⟨b', _, none⟩) hb').trans (hc' j hj)⟩
theorem InL.below {k : IntKind} {w W : World} {A : Option Addr} {n : Nat} {xs : List Int} (h : InL k w A n xs) (hW : Below w.heap.size w W) : InL k W A n xs :=
  ⟨h.1, fun hn => by
    obtain ⟨b, off, e, hb, hc⟩ := h.2 hn
    exact ⟨b, off, e, Nat.lt_of_lt_of_le hb hW.size, fun j hj => (hW.cell (p := ⟨b, off + j, none⟩) hb).trans (hc j hj)⟩⟩
theorem StN.drew {w0 wr : World} {g room : Nat} {l : List RF} (s : StN w0 wr g room l) : StN w0 wr.drew g room l := s.below ⟨rfl, rfl, rfl, Nat.le_refl _, fun _ _ => rfl⟩
/-- what a call makes of the frames (laws that play: three calls and Add). -/
def stepR (room : Nat) (l : List RF) (x : ActR) : List RF :=
  if x.op = 0 then (pushS room l x.a x.b x.n).2 else if x.op = 1 then l.dropLast else if x.op = 2 then (setS l x.n x.w).2 else (addS room l x.w).2
theorem setS_len (l : List RF) (i x : Int) : (setS l i x).2.length = l.length := by
  rcases last_cases l with rfl | ⟨r, f, rfl⟩
  · rfl
  · rw [setS_app]; split <;> simp
theorem addS_len (room : Nat) (l : List RF) (x : Int) : (addS room l x).2.length = l.length := by
  rcases last_cases l with rfl | ⟨r, f, rfl⟩
  · rfl
  · rw [addS_app]; split <;> simp
theorem pushS_len (room : Nat) (l : List RF) (a b n : Int) : (pushS room l a b n).2.length ≤ l.length + 1 := by
  unfold pushS; split
  · simp
  · split <;> simp
/-- the play so far: some frames, not more than calls. -/
def Some17 (w0 wr : World) (g room i : Nat) : Prop := ∃ l, StN w0 wr g room l ∧ l.length ≤ i
theorem pop_any {w0 wr : World} {g room : Nat} {l : List RF} (s : StN w0 wr g room l) :
    Calls Try.prog 21 #[.pointer (some ⟨g, 0, none⟩)] wr fun e w' => ∃ v, e = .returned v ∧ Hid (StN w0 w' g room l.dropLast) := by
  rcases last_cases l with rfl | ⟨r, f, rfl⟩
  · exact (pop_st_none s).mono fun e w' ⟨he, h⟩ => ⟨_, he, h⟩
  · rw [List.dropLast_concat]
    exact (pop_st s).mono fun e w' ⟨he, h⟩ => ⟨_, he, h⟩
theorem InL.take {k : IntKind} {w : World} {A : Option Addr} {n m : Nat} {xs : List Int} (h : InL k w A n xs) (hm : m ≤ n) : InL k w A m (xs.take m) :=
  ⟨by rw [List.length_take, h.1]; omega, fun hp => by
    obtain ⟨b, off, e, hb, hc⟩ := h.2 (by omega)
    exact ⟨b, off, e, hb, fun j hj => by rw [hc j (by omega)]; simp [List.getD, hj]⟩⟩
theorem wdOf_le {w0 wr : World} {g room : Nat} {l : List RF} (s : StN w0 wr g room l) : (wdOf l).length ≤ 4096 := by
  have h := s.fits; unfold used at h; omega
theorem own_below6 {w w' : World} {B e s n : Nat} {v : Value} {xs : List Value} (h : w.ownsRow B e s v n xs) (hb : Below w.heap.size w w') : w'.ownsRow B e s v n xs := own_frm h (Frm.of_below hb (Nat.le_refl _) (fun _ => False)) (fun _ _ h => h)
/-- the stack lies below H. -/
def StH (w0 : World) (H : Nat) (wr : World) (g room : Nat) (l : List RF) : Prop := ∃ fv wv, Sk wr w0.heap.size g room fv wv (frOf l) (wdOf l) ∧ Below w0.heap.size w0 wr ∧ g < H ∧ (∀ k, fv.ownBlock = some k → k < H) ∧ (∀ k, wv.ownBlock = some k → k < H)
theorem StN.h {w0 wr : World} {g room : Nat} {l : List RF} (s : StN w0 wr g room l) : StH w0 wr.heap.size wr g room l := by
  obtain ⟨fv, wv, t, b⟩ := s
  exact ⟨fv, wv, t, b, t.obj.lt, fun k h => (t.rf.lt _ h).2, fun k h => (t.rw_.lt _ h).2⟩
theorem StH.n {w0 wr : World} {H g room : Nat} {l : List RF} (s : StH w0 H wr g room l) : StN w0 wr g room l := by
  obtain ⟨fv, wv, t, b, _⟩ := s
  exact ⟨fv, wv, t, b⟩
theorem StH.below {w0 wr w' : World} {H g room : Nat} {l : List RF} (s : StH w0 H wr g room l) (h : Below wr.heap.size wr w') : StH w0 H w' g room l := by
  obtain ⟨fv, wv, t, b, c⟩ := s
  exact ⟨fv, wv, t.below h, b.trans (h.mono b.size), c⟩
theorem StH.step {w0 wr w' : World} {H g room : Nat} {fv wv fv' wv' : Value} {fr fr' : List Fm} {ws ws' : List Int} {R : Nat → Prop} {l : List RF} (t : Sk wr w0.heap.size g room fv wv fr ws) (b : Below w0.heap.size w0 wr) (f : Frm wr w' R) (hR : ∀ k, R k → k = g ∨ wv.ownBlock = some k)
    (hg : g < H) (hf : ∀ k, fv.ownBlock = some k → k < H) (hw : ∀ k, wv.ownBlock = some k → k < H) (e1 : fv'.ownBlock = fv.ownBlock) (e2 : wv'.ownBlock = wv.ownBlock)
    (t' : Sk w' w0.heap.size g room fv' wv' fr' ws') (h1 : fr' = frOf l) (h2 : ws' = wdOf l) : StH w0 H w' g room l ∧ Frm wr w' (· < H) := by
  subst h1; subst h2
  refine ⟨⟨fv', wv', t', b.trans (f.below ?_ b.size), hg, by rw [e1]; exact hf, by rw [e2]; exact hw⟩, f.mono ?_⟩
  · intro k hk
    rcases hR k hk with rfl | h
    · exact t.le
    · exact (t.rw_.lt _ h).1
  · intro k _ hk
    rcases hR k hk with rfl | h
    · exact hg
    · exact hw k h
theorem renew_h {w0 wr : World} {H g room n c : Nat} {l : List RF} {A : Option Addr} {ys : List Int} (s : StH w0 H wr g room l) (hy : InL .u64 wr A n ys) (hn : n = (wdOf l).length) :
    Calls Try.prog 16 #[.pointer (some ⟨g, 0, none⟩), .slice A n c] wr fun e w' => e = .returned (.int .i64 0) ∧ Hid (StH w0 H w' g room (refill l ys) ∧ Frm wr w' (· < H)) := by
  obtain ⟨fv, wv, t, b, hg, hf, hw⟩ := s
  refine (renew_ok t hn hy).mono ?_
  rintro e w' ⟨he, t', f⟩
  exact ⟨he, Lib.hid (StH.step t b f.out (fun k h => h) hg hf hw rfl rfl t'.out (refill_fr l ys 0 (hy.1.trans hn)).symm (refill_words l ys (hy.1.trans hn)).symm)⟩
theorem renew_h_bad {w0 wr : World} {H g room n c : Nat} {l : List RF} {A : Option Addr} (s : StH w0 H wr g room l) (hn : n ≠ (wdOf l).length) :
    Calls Try.prog 16 #[.pointer (some ⟨g, 0, none⟩), .slice A n c] wr fun e w' => e = .returned (.int .i64 1) ∧ Below wr.heap.size wr w' := by
  obtain ⟨fv, wv, t, b, hg, hf, hw⟩ := s
  exact renew_bad t hn
theorem pop_h {w0 wr : World} {H g room : Nat} {l : List RF} {f : RF} (s : StH w0 H wr g room (l ++ [f])) :
    Calls Try.prog 21 #[.pointer (some ⟨g, 0, none⟩)] wr fun e w' => e = .returned (.tuple #[.int .i64 f.back, .int .i64 f.call, .int .i64 0]) ∧ Hid (StH w0 H w' g room l ∧ Frm wr w' (· < H)) := by
  obtain ⟨fv, wv, t, b, hg, hf, hw⟩ := s
  rw [frOf_app] at t
  refine (pop_ok t).mono ?_
  rintro e w' ⟨fv', wv', he, t', fm, ho⟩
  refine ⟨he, Lib.hid (StH.step t b fm.out (fun k h => .inl h) hg hf hw ho.out.1 ho.out.2 t'.out rfl ?_)⟩
  rw [wdOf_app]; simp
theorem take_h {w0 wr : World} {H g room : Nat} {r : List RF} {f : RF} {a : List Int} (j : Nat) (hj : j < a.length) (s : StH w0 H wr g room (r ++ [{ f with added := a.take (j + 1) }])) :
    Calls Try.prog 25 #[.pointer (some ⟨g, 0, none⟩)] wr fun e w' => e = .returned (.tuple #[.int .u64 (a.getD j 0), .int .i64 0]) ∧ Hid (StH w0 H w' g room (r ++ [{ f with added := a.take j }]) ∧ Frm wr w' (· < H)) := by
  obtain ⟨fv, wv, t, b, hg, hf, hw⟩ := s
  have hw2 : wdOf (r ++ [{ f with added := a.take (j + 1) }]) = wdOf (r ++ [{ f with added := a.take j }]) ++ [a.getD j 0] := by
    rw [wdOf_app, wdOf_app, wdOf_one, wdOf_one, List.take_succ_eq_append_getElem hj]; simp [RF.ws, List.getD, hj]
  have hr : (wdOf r).length + f.slots.length ≤ (wdOf (r ++ [{ f with added := a.take j }])).length := by
    rw [wdOf_app, wdOf_one]; simp [RF.ws]
  rw [hw2, frOf_app] at t
  refine (take_ok _ t hr).mono ?_
  rintro e w' ⟨wv', he, t', fm, ho⟩
  exact ⟨he, Lib.hid (StH.step t b fm.out (fun k h => .inl h) hg hf hw rfl ho.out t'.out (by rw [frOf_app]) rfl)⟩
/-- a row of words above H. -/
def MI (H : Nat) (w : World) (A : Option Addr) (n : Nat) (xs : List Int) : Prop :=
  xs.length = n ∧ (0 < n → ∃ b, A = some ⟨b, 0, none⟩ ∧ H ≤ b ∧ b < w.heap.size ∧ ∀ j, j < n → w.cell? ⟨b, 0 + j, none⟩ = some (.int .u64 (xs.getD j 0)))
theorem MI.inl {H : Nat} {w : World} {A : Option Addr} {n : Nat} {xs : List Int} (h : MI H w A n xs) : InL .u64 w A n xs :=
  ⟨h.1, fun hn => by obtain ⟨b, e, _, h2, h3⟩ := h.2 hn; exact ⟨b, 0, e, h2, h3⟩⟩
theorem MI.frm {H : Nat} {w w' : World} {A : Option Addr} {n : Nat} {xs : List Int} (h : MI H w A n xs) (f : Frm w w' (· < H)) : MI H w' A n xs :=
  ⟨h.1, fun hn => by
    obtain ⟨b, e, h1, h2, h3⟩ := h.2 hn
    refine ⟨b, e, h1, Nat.lt_of_lt_of_le h2 f.size, fun j hj => ?_⟩
    rw [← h3 j hj]
    exact World.cell?_of_block (f.block b h2 (by omega))⟩
theorem MI.below {H : Nat} {w w' : World} {A : Option Addr} {n : Nat} {xs : List Int} (h : MI H w A n xs) (f : Below w.heap.size w w') : MI H w' A n xs := h.frm (Frm.of_below f (Nat.le_refl _) _)
theorem MI.take {H : Nat} {w : World} {A : Option Addr} {n m : Nat} {xs : List Int} (h : MI H w A n xs) (hm : m ≤ n) : MI H w A m (xs.take m) :=
  ⟨by rw [List.length_take, h.1]; omega, fun hp => by
    obtain ⟨b, e, h1, hb, hc⟩ := h.2 (by omega)
    exact ⟨b, e, h1, hb, fun j hj => by rw [hc j (by omega)]; simp [List.getD, hj]⟩⟩
theorem MI.of {w : World} {B e n c : Nat} {A : Option Addr} {xs : List Int} (h : w.ownsRow B e 1 (.slice A n c) n (wds xs)) : MI B w A n xs ∧ n ≤ c := by
  have hl := h.1
  rw [wds_len, Nat.mul_one] at hl
  refine ⟨⟨hl, fun hn => ?_⟩, ?_⟩
  · obtain ⟨g, cap, e1⟩ := Go.Joins.ownsRow_form h (by omega)
    injection e1 with e1 e2 e3
    subst e1
    refine ⟨g, rfl, (h.lt g rfl).1, (h.lt g rfl).2, fun j hj => ?_⟩
    have := (h.cellAt j (by omega)).trans (wds_at xs j (by omega))
    rwa [Nat.zero_add]
  · rcases h.2 with ⟨e1, h0⟩ | ⟨g, cap, cur, e1, _, _, hc, _⟩
    · omega
    · injection e1 with e1 e2 e3; omega
/-- the words, a number added to each. -/
def plus (by_ : Int) (l : List Int) : List Int := l.map fun x => IntKind.u64.wrap (x + by_)
theorem plus_len (by_ : Int) (l : List Int) : (plus by_ l).length = l.length := by simp [plus]
theorem plus_succ (by_ : Int) (l : List Int) (k : Nat) (h : k < l.length) : (plus by_ l).take (k + 1) = (plus by_ l).take k ++ [IntKind.u64.wrap (l.getD k 0 + by_)] := by
  rw [List.take_succ_eq_append_getElem (by rw [plus_len]; exact h)]
  simp [plus, List.getD, h]
theorem take_last {f : RF} {r : List RF} {a : List Int} (j : Nat) (hj : j < a.length) : takeS (r ++ [{ f with added := a.take (j + 1) }]) = ((a.getD j 0, 0), r ++ [{ f with added := a.take j }]) := by
  unfold takeS
  simp only [List.reverse_append, List.reverse_singleton, List.singleton_append]
  have e : (a.take (j + 1)).reverse = a.getD j 0 :: (a.take j).reverse := by
    rw [List.take_succ_eq_append_getElem hj]; simp [List.getD, hj]
  rw [e]
  simp
theorem StH.belowH {w0 wr w' : World} {H g room : Nat} {l : List RF} (s : StH w0 H wr g room l) (h : Below H wr w') : StH w0 H w' g room l := by
  obtain ⟨fv, wv, t, b, hg, hf, hw⟩ := s
  have f : Frm wr w' (fun k => H ≤ k) := ⟨h.os, h.tape, h.output, h.size, fun i hi hr => h.block i (by omega)⟩
  refine ⟨fv, wv, t.frm f (by omega) (fun k hk hr => by have := hf k hk; omega) (fun k hk hr => by have := hw k hk; omega), ?_, hg, hf, hw⟩
  exact b.trans ⟨h.os, h.tape, h.output, h.size, fun i hi => h.block i (by have := t.le; omega)⟩
theorem wpList_append_keep_g {w : World} {ops : Array Oper} {rest : List Oper} {o : Oper} {a : Act} {Q : Exit → Act → World → Prop} (hgd : Region.wanted o (yielded ops a.tmps) = true) (s y : Operand)
    (ho : o.op = .call { callee := .builtin .append, args := #[s, y], argTypes := #[48, 48] }) {B n c cc : Nat} {A : Option Addr} {xs : List Int} (x : Int) {ad : Addr} (hs : a.eval s = .slice A n c) (hy : a.eval y = .slice (some ad) 1 cc)
    (own : w.ownsRow B 29 1 (.slice A n c) n (wds xs)) (hB : B ≤ w.heap.size) (hn : n ≤ 1000000) (hx : w.cell? (ad.add 0) = some (.int .u64 x))
    (h : ∀ A' c' w', Hid (InL .u64 w' A' (n + 1) (xs ++ [x])) → Hid (w'.ownsRow B 29 1 (.slice A n c) n (wds xs)) → Hid (Below B w w') → wpList Try.prog ops Q rest (a.put o.dst (.slice A' (n + 1) c')) w') : wpList Try.prog ops Q (o :: rest) a w := by
  refine wpList_step fun K hK => ?_
  rw [if_pos hgd]
  obtain ⟨A', c', w', hr, h1, h2, h3⟩ := run_append_keep (ty := o.type) own hB hn hx (cc := cc)
  unfold Oper.wp execOp
  simp only [ho, resolve, invoke, builtin, Sem.run_bind, Sem.run_pure, Result.andThen_ok, List.map_toArray, List.map_cons, List.map_nil, hs, hy, hr]
  exact hK _ _ (h A' c' w' (Lib.hid h1) (Lib.hid h2) (Lib.hid h3))
theorem own_frmH {w w' : World} {H e s n : Nat} {v : Value} {xs : List Value} (h : w.ownsRow H e s v n xs) (f : Frm w w' (· < H)) : w'.ownsRow H e s v n xs :=
  own_frm h f (fun k hk hlt => by have := (h.lt k hk).1; omega)
end Go.Proofs.Ytkecnhogooaccaa
