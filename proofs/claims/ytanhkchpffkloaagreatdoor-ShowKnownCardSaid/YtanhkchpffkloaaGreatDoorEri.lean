import Derived.Test.YtanhkchpffkloaaGreatDoorErh
namespace Go.Proofs.YtanhkchpffkloaaGreatDoor
open Go Go.RowKit
set_option linter.unusedVariables false
set_option linter.unusedSimpArgs false
noncomputable section
variable {ds : List Deferred}
theorem opsIn_round {n : Nat} {P : Program} {ops : Array Oper} {Q : Exit → Act → World → Prop} {i : Nat} {rest : List Nat} {a : Act} {w : World} {o : Oper} {l f : Nat} {tmps : Array Value} {assign body : Code} (d : Option Tmp) (ho : ops[i]? = some o) (hd : o.dst = d) (hg : o.guard = none) (hnd : ∀ c, o.op ≠ .defer c)
    (hx : (execOp a.eval o).run P w = .ok (.round l f tmps assign body) w) (h : RoundIn (FF none) (n - 1) P l f tmps assign body w fun en w' => ∃ v, en = .returned v ∧ wpOpsIn (FF none) n P ops Q rest (a.put d v) w') :
    wpOpsIn (FF none) n P ops Q (i :: rest) a w := by
  unfold wpOpsIn
  subst hd
  simp only [ho]
  rw [if_pos (by unfold Region.wanted; rw [hg])]
  refine ⟨fun _ _ => trivial, ?_⟩
  rw [Oper.semAt_eq _ _ _ hnd, hx, Oper.uponIn_round]
  refine ⟨fun h => (by cases h), h.mono fun en w' hh => ?_⟩
  obtain ⟨v, rfl, h2⟩ := hh
  exact h2
theorem bwElem_ok {P : Program} {T : Cx} (hT : Fits P T) {q : TypeId × TypeId} {i : Nat} {H1 : Hp} {s : Value} {v : Value} (h : bwElem T q i H1 (some s) = some v) : ∃ pp : Addr, o_indexAddr q.1 (.tmp 13) (.tmp 14) T (bwAA i s) H1 = some (.pointer (some pp), H1) ∧ loadV T H1 q.2 pp.block pp.off = some v := by
  change (match o_indexAddr q.1 (.tmp 13) (.tmp 14) T (bwAA i s) H1 with
    | some p => (match p.1 with
      | .pointer (some p) => loadV T H1 q.2 p.block p.off
      | _ => none)
    | none => none) = some v at h
  split at h
  · rename_i p hp
    split at h
    · rename_i pp hpp
      obtain ⟨p1, p2⟩ := p
      simp only at hpp; subst hpp
      refine ⟨pp, ?_, h⟩
      have : p2 = H1 := by
        unfold o_indexAddr at hp
        split at hp
        · split at hp
          · split at hp
            · split at hp
              · obtain ⟨_, h2⟩ := ite'_some hp; cases h2; rfl
              · cases hp
            · cases hp
          · cases hp
        · split at hp
          · split at hp
            · split at hp
              · obtain ⟨_, h2⟩ := ite'_some hp; cases h2; rfl
              · cases hp
            · cases hp
          · cases hp
        · cases hp
      rw [hp, this]
    · cases h
  · cases h
section
variable {n : Nat} {P : Program} {T : Cx} {ih : Cmd → Out} {q : TypeId × TypeId} {y : TypeId} {b o p0 p1 : Nat} {assign body : Code} {A : AA} {E : Env} {H : Hp} {w : World} {a0 : Act} {fn : FuncId}
/-- one round of the closure. -/
theorem bw_round (hT : Fits P T) (hD : CodesOk P T ih) (nda : ndCode assign = true) (ndb : ndCode body = true) (nra : nrCode assign = true) (nrb : nrCode body = true) (ha0 : AR ds E H.next A a0) (hb : b < H.next)
    {i : Nat} {E1 : Env} {H1 : Hp} {W : World} {a : Act} (hrd : Rd E H w (recOf fn a0.tmps #[p0, p1] assign body w.heap.size) E1 H1 .ready none W) (hit : IT (w.heap.size + 1) (.pointer (some ⟨E.s b, o, none⟩)) a) (h3 : a.tmps[3]? = some (.int .i64 (i : Int)))
    {s v : Value} (hs : loadV T H1 q.1 b o = some s) (hv : bwElem T q i H1 (some s) = some v) {A1 A2 A3 : AA} {H3 : Hp} (h0 : A.set p0 (.int .i64 (.ofNat i)) = some A1) (h1 : A1.set p1 v = some A2)
    (hasg : ih (.code assign A2 H1) = .code .normal A3 H3) {e : Ex} {A4 : AA} {H4 : Hp} (hbody : ih (.code body A3 H3) = .code e A4 H4) {Q : Exit → Act → World → Prop}
    (hQ : ∀ a' W' E4, Rd E H w (recOf fn a0.tmps #[p0, p1] assign body w.heap.size) E4 H4 (if (jumpOf e).isNone then .ready else .done) (jumpOf e) W' → IT (w.heap.size + 1) (.pointer (some ⟨E.s b, o, none⟩)) a' → a'.tmps[3]? = some (.int .i64 (i : Int)) → Q (if (jumpOf e).isNone then .normal else .ret) a' W') :
    (Code.seq (.region 3 (bwr3 y q.1 q.2) false) (.cond (.tmp 18) .ret .skip)).wpIn (FF none) n P Q a W := by
  obtain ⟨pp, hix, hel⟩ := bwElem_ok hT hv
  have hEs : E1.s b = E.s b := (hrd.g.ag b hb).1
  obtain ⟨s', hs', hsv⟩ := loadV_ok (P := P) hT hrd.r hs
  rw [hEs] at hs'
  obtain ⟨v', hv', hvv⟩ := loadV_ok (P := P) hT hrd.r hel
  refine wpIn_seq (wpIn_region ?_)
  show wpOpsIn _ _ _ (bwr3 y q.1 q.2) _ [0, 1, 2, 3, 4, 5, 6, 7] a W
  refine opsIn_val (o := ((bwr3 y q.1 q.2)[0]'(show 0 < 8 by omega))) (some 11) rfl rfl rfl (by intro c hc; cases hc) (run_move (.inl rfl) (eval_tmp hit.y)) ?_
  have i1 := hit.put 11 (.func (.yield (w.heap.size + 1)) #[] #[]) (by omega) (by omega)
  have f11 : (a.put (some 11) (.func (.yield (w.heap.size + 1)) #[] #[])).tmps[11]? = some (.func (.yield (w.heap.size + 1)) #[] #[]) := tput_same (by rw [hit.size]; omega)
  have f3 : (a.put (some 11) (.func (.yield (w.heap.size + 1)) #[] #[])).tmps[3]? = some (.int .i64 (i : Int)) := by rw [tput_other (by omega)]; exact h3
  generalize a.put (some 11) (.func (.yield (w.heap.size + 1)) #[] #[]) = a1 at *
  clear h3 hit
  refine opsIn_val (o := ((bwr3 y q.1 q.2)[1]'(show 1 < 8 by omega))) (some 12) rfl rfl rfl (by intro c hc; cases hc) (run_move (.inl rfl) (eval_tmp f3)) ?_
  have i2 := i1.put 12 (.int .i64 (i : Int)) (by omega) (by omega)
  have g12 : (a1.put (some 12) (.int .i64 (i : Int))).tmps[12]? = some (.int .i64 (i : Int)) := tput_same (by rw [i1.size]; omega)
  have g11 : (a1.put (some 12) (.int .i64 (i : Int))).tmps[11]? = some (.func (.yield (w.heap.size + 1)) #[] #[]) := by rw [tput_other (by omega)]; exact f11
  have g3 : (a1.put (some 12) (.int .i64 (i : Int))).tmps[3]? = some (.int .i64 (i : Int)) := by rw [tput_other (by omega)]; exact f3
  generalize a1.put (some 12) (.int .i64 (i : Int)) = a2 at *
  clear f3 f11 i1
  refine opsIn_val (o := ((bwr3 y q.1 q.2)[2]'(show 2 < 8 by omega))) (some 13) rfl rfl rfl (by intro c hc; cases hc) (run_load rfl (eval_tmp i2.p) hs') ?_
  have i3 := i2.put 13 s' (by omega) (by omega)
  have f13 : (a2.put (some 13) s').tmps[13]? = some s' := tput_same (by rw [i2.size]; omega)
  have f12 : (a2.put (some 13) s').tmps[12]? = some (.int .i64 (i : Int)) := by rw [tput_other (by omega)]; exact g12
  have f11 : (a2.put (some 13) s').tmps[11]? = some (.func (.yield (w.heap.size + 1)) #[] #[]) := by rw [tput_other (by omega)]; exact g11
  have f3 : (a2.put (some 13) s').tmps[3]? = some (.int .i64 (i : Int)) := by rw [tput_other (by omega)]; exact g3
  generalize a2.put (some 13) s' = a3 at *
  clear g3 g11 g12 i2
  refine opsIn_val (o := ((bwr3 y q.1 q.2)[3]'(show 3 < 8 by omega))) (some 14) rfl rfl rfl (by intro c hc; cases hc) (run_move (.inl rfl) (eval_tmp f3)) ?_
  have i4 := i3.put 14 (.int .i64 (i : Int)) (by omega) (by omega)
  have g14 : (a3.put (some 14) (.int .i64 (i : Int))).tmps[14]? = some (.int .i64 (i : Int)) := tput_same (by rw [i3.size]; omega)
  have g13 : (a3.put (some 14) (.int .i64 (i : Int))).tmps[13]? = some s' := by rw [tput_other (by omega)]; exact f13
  have g12 : (a3.put (some 14) (.int .i64 (i : Int))).tmps[12]? = some (.int .i64 (i : Int)) := by rw [tput_other (by omega)]; exact f12
  have g11 : (a3.put (some 14) (.int .i64 (i : Int))).tmps[11]? = some (.func (.yield (w.heap.size + 1)) #[] #[]) := by rw [tput_other (by omega)]; exact f11
  have g3 : (a3.put (some 14) (.int .i64 (i : Int))).tmps[3]? = some (.int .i64 (i : Int)) := by rw [tput_other (by omega)]; exact f3
  generalize a3.put (some 14) (.int .i64 (i : Int)) = a4 at *
  clear f3 f11 f12 f13 i3
  obtain ⟨u, _, hu, hrun⟩ := indexAddr_ok (P := P) hT (o := ((bwr3 y q.1 q.2)[4]'(show 4 < 8 by omega))) rfl (bwAA i s) H1 _ _ hix E1 a4 (bwAA_ok i4.df i4.size g14 g13 hsv)
  obtain ⟨_, _, rfl⟩ := hu.pptr
  refine opsIn_val (o := ((bwr3 y q.1 q.2)[4]'(show 4 < 8 by omega))) (some 15) rfl rfl rfl (by intro c hc; cases hc) (hrun W) ?_
  clear hrun hu
  have i5 := i4.put 15 (.pointer (some ⟨E1.s pp.block, pp.off, none⟩)) (by omega) (by omega)
  have f15 : (a4.put (some 15) (.pointer (some ⟨E1.s pp.block, pp.off, none⟩))).tmps[15]? = some (.pointer (some ⟨E1.s pp.block, pp.off, none⟩)) := tput_same (by rw [i4.size]; omega)
  have f12 : (a4.put (some 15) (.pointer (some ⟨E1.s pp.block, pp.off, none⟩))).tmps[12]? = some (.int .i64 (i : Int)) := by rw [tput_other (by omega)]; exact g12
  have f11 : (a4.put (some 15) (.pointer (some ⟨E1.s pp.block, pp.off, none⟩))).tmps[11]? = some (.func (.yield (w.heap.size + 1)) #[] #[]) := by rw [tput_other (by omega)]; exact g11
  have f3 : (a4.put (some 15) (.pointer (some ⟨E1.s pp.block, pp.off, none⟩))).tmps[3]? = some (.int .i64 (i : Int)) := by rw [tput_other (by omega)]; exact g3
  generalize a4.put (some 15) (.pointer (some ⟨E1.s pp.block, pp.off, none⟩)) = a5 at *
  clear g3 g11 g12 g13 g14 i4
  refine opsIn_val (o := ((bwr3 y q.1 q.2)[5]'(show 5 < 8 by omega))) (some 16) rfl rfl rfl (by intro c hc; cases hc) (run_load rfl (eval_tmp f15) hv') ?_
  have i6 := i5.put 16 v' (by omega) (by omega)
  have g16 : (a5.put (some 16) v').tmps[16]? = some v' := tput_same (by rw [i5.size]; omega)
  have g12 : (a5.put (some 16) v').tmps[12]? = some (.int .i64 (i : Int)) := by rw [tput_other (by omega)]; exact f12
  have g11 : (a5.put (some 16) v').tmps[11]? = some (.func (.yield (w.heap.size + 1)) #[] #[]) := by rw [tput_other (by omega)]; exact f11
  have g3 : (a5.put (some 16) v').tmps[3]? = some (.int .i64 (i : Int)) := by rw [tput_other (by omega)]; exact f3
  generalize a5.put (some 16) v' = a6 at *
  clear f3 f11 f12 f15 i5
  obtain ⟨tmps, hy, hR⟩ := round_ok hD nda ndb nra nrb ha0 hrd hvv h0 h1 hasg hbody (n - 1)
  refine opsIn_round (o := ((bwr3 y q.1 q.2)[6]'(show 6 < 8 by omega))) (some 17) rfl rfl rfl (by intro c hc; cases hc) (run_yieldcall (args := #[.tmp 12, .tmp 16]) (tys := #[3, q.2]) rfl (eval_tmp g11) (nx := .round (w.heap.size + 1) fn tmps assign body) ?_) (hR.mono fun en W' hh => ?_)
  · have e1 : (#[Operand.tmp 12, Operand.tmp 16].map a6.eval) = #[.int .i64 (i : Int), v'] := by
      rw [show (#[Operand.tmp 12, Operand.tmp 16].map a6.eval) = #[a6.eval (.tmp 12), a6.eval (.tmp 16)] from by simp, eval_tmp g12, eval_tmp g16]
    rw [e1]; exact hy
  obtain ⟨rfl, E4, hrd4⟩ := hh
  refine ⟨_, rfl, ?_⟩
  have i7 := i6.put 17 (.bool (jumpOf e).isNone) (by omega) (by omega)
  have f17 : (a6.put (some 17) (.bool (jumpOf e).isNone)).tmps[17]? = some (.bool (jumpOf e).isNone) := tput_same (by rw [i6.size]; omega)
  have f3 : (a6.put (some 17) (.bool (jumpOf e).isNone)).tmps[3]? = some (.int .i64 (i : Int)) := by rw [tput_other (by omega)]; exact g3
  generalize a6.put (some 17) (.bool (jumpOf e).isNone) = a7 at *
  refine opsIn_val (o := ((bwr3 y q.1 q.2)[7]'(show 7 < 8 by omega))) (some 18) rfl rfl rfl (by intro c hc; cases hc) (run_not rfl (eval_tmp f17)) ?_
  have i8 := i7.put 18 (.bool (!(jumpOf e).isNone)) (by omega) (by omega)
  have f18 : (a7.put (some 18) (.bool (!(jumpOf e).isNone))).tmps[18]? = some (.bool (!(jumpOf e).isNone)) := tput_same (by rw [i7.size]; omega)
  have f3' : (a7.put (some 18) (.bool (!(jumpOf e).isNone))).tmps[3]? = some (.int .i64 (i : Int)) := by rw [tput_other (by omega)]; exact f3
  generalize a7.put (some 18) (.bool (!(jumpOf e).isNone)) = a8 at *
  refine opsIn_end ?_
  show (Code.cond (.tmp 18) .ret .skip).wpIn _ _ _ _ _ _
  refine wpIn_cond (t := !(jumpOf e).isNone) (eval_tmp f18) ?_
  have hfin := hQ a8 W' E4 hrd4 i8 f3'
  cases hj : (jumpOf e).isNone with
  | true =>
    rw [hj] at hfin
    exact wpIn_skip hfin
  | false =>
    rw [hj] at hfin
    exact wpIn_ret hfin
theorem rndsD_A {e : Ex} {A' : AA} {H' : Hp} : ∀ (m : Nat) {H1 : Hp}, rndsD T ih q b o p0 p1 assign body A m H1 = .code e A' H' → A' = A
  | 0, H1, h => by cases h; rfl
  | i + 1, H1, h => by
    rw [rndsD_succ] at h
    unfold rndD at h
    split at h
    · split at h
      · split at h
        · unfold rndBody at h
          split at h
          · unfold rndEnd at h
            split at h
            · exact rndsD_A i h
            · cases h; rfl
            · cases h; rfl
            · cases h
            · cases h
          · cases h
          · cases h
        · cases h
      · cases h
    · cases h
/-- the closure's loop. -/
theorem bw_loop (hT : Fits P T) (hD : CodesOk P T ih) (nda : ndCode assign = true) (ndb : ndCode body = true) (nra : nrCode assign = true) (nrb : nrCode body = true) (ha0 : AR ds E H.next A a0) (hb : b < H.next) {e : Ex} {A' : AA} {H' : Hp} :
    ∀ (m : Nat), m ≤ 4294967296 → ∀ {E1 : Env} {H1 : Hp} {W : World} {a : Act}, rndsD T ih q b o p0 p1 assign body A m H1 = .code e A' H' → Rd E H w (recOf fn a0.tmps #[p0, p1] assign body w.heap.size) E1 H1 .ready none W → IT (w.heap.size + 1) (.pointer (some ⟨E.s b, o, none⟩)) a → a.tmps[3]? = some (.int .i64 ((m : Int) - 1)) →
      A' = A ∧ Code.roundsIn (FF none) n P (bwRound y q.1 q.2) (Exit.inBlock 0 (bwQ E H w (recOf fn a0.tmps #[p0, p1] assign body w.heap.size) e H')) (m + 1) a W
  | 0, _, E1, H1, W, a, h, hrd, hit, h3 => by
    cases h
    refine ⟨rfl, ?_⟩
    rw [roundsIn_succ]
    refine bw_test hit h3 fun a' hit' h3' => ?_
    rw [if_neg (by omega)]
    exact ⟨.inl rfl, hit'.df, E1, .ready, (by intro h; cases h), hrd⟩
  | i + 1, hm, E1, H1, W, a, h, hrd, hit, h3 => by
    rw [rndsD_succ] at h
    cases hs : loadV T H1 q.1 b o with
    | none => rw [hs] at h; cases h
    | some s =>
      rw [hs] at h
      unfold rndD at h
      split at h
      · rename_i v hv
        split at h
        · rename_i A1 h0
          split at h
          · rename_i A2 h1
            unfold rndBody at h
            split at h
            · rename_i A3 H3 hasg
              have h3i : a.tmps[3]? = some (.int .i64 (i : Int)) := by rw [h3]; congr 2; omega
              have hkey : ∀ e2 A4 H4, ih (.code body A3 H3) = .code e2 A4 H4 → (A' = A ∧ ∀ (a' : Act) (W' : World) (E4 : Env), Rd E H w (recOf fn a0.tmps #[p0, p1] assign body w.heap.size) E4 H4 (if (jumpOf e2).isNone then .ready else .done) (jumpOf e2) W' → IT (w.heap.size + 1) (.pointer (some ⟨E.s b, o, none⟩)) a' → a'.tmps[3]? = some (.int .i64 (i : Int)) →
                  Exit.inBlock 1 (Exit.then ((Code.region 2 bwr2 false).wpIn (FF none) n P (Exit.then (Code.roundsIn (FF none) n P (bwRound y q.1 q.2) (Exit.inBlock 0 (bwQ E H w (recOf fn a0.tmps #[p0, p1] assign body w.heap.size) e H')) (i + 1)) (Exit.inBlock 0 (bwQ E H w (recOf fn a0.tmps #[p0, p1] assign body w.heap.size) e H')))) (Exit.then (Code.roundsIn (FF none) n P (bwRound y q.1 q.2) (Exit.inBlock 0 (bwQ E H w (recOf fn a0.tmps #[p0, p1] assign body w.heap.size) e H')) (i + 1)) (Exit.inBlock 0 (bwQ E H w (recOf fn a0.tmps #[p0, p1] assign body w.heap.size) e H')))) (if (jumpOf e2).isNone then .normal else .ret) a' W') →
                  A' = A ∧ Code.roundsIn (FF none) n P (bwRound y q.1 q.2) (Exit.inBlock 0 (bwQ E H w (recOf fn a0.tmps #[p0, p1] assign body w.heap.size) e H')) (i + 1 + 1) a W := fun e2 A4 H4 hb2 hh => by
                refine ⟨hh.1, ?_⟩
                rw [roundsIn_succ]
                refine bw_test hit h3i fun a' hit' h3' => ?_
                rw [if_pos (by omega)]
                exact wpIn_seq (wpIn_block (bw_round hT hD nda ndb nra nrb ha0 hb hrd hit' h3' hs hv h0 h1 hasg hb2 hh.2))
              unfold rndEnd at h
              split at h
              · rename_i A4 H4 hbody
                refine hkey _ _ _ hbody ⟨rndsD_A i h, fun a' W' E4 hrd4 hit4 h34 => ?_⟩
                exact bw_dec hit4 h34 (by omega) fun a'' hit'' h3'' => (bw_loop hT hD nda ndb nra nrb ha0 hb i (by omega) h hrd4 hit'' h3'').2
              · rename_i id A4 H4 hbody
                cases h
                refine hkey _ _ _ hbody ⟨rfl, fun a' W' E4 hrd4 hit4 h34 => ?_⟩
                exact ⟨.inr rfl, hit4.df, E4, .done, (by intro h; cases h), hrd4⟩
              · rename_i A4 H4 hbody
                cases h
                refine hkey _ _ _ hbody ⟨rfl, fun a' W' E4 hrd4 hit4 h34 => ?_⟩
                exact ⟨.inr rfl, hit4.df, E4, .done, (by intro h; cases h), hrd4⟩
              · cases h
              · cases h
            · cases h
            · cases h
          · cases h
        · cases h
      · cases h
end
theorem lenB_ok {P : Program} {T : Cx} (hT : Fits P T) {ts : TypeId} {H : Hp} {s : Value} {k : Nat} (h : lenB T ts H s = some k) {E : Env} {a : Act} (ha : AR [] E H.next (bwA4 s) a) (w : World) : (execOp a.eval ((bwr0 ts)[1]'(show 1 < 4 by omega))).run P w = .ok (.value (.int .i64 (k : Int))) w := by
  change (match o_len ts (.tmp 4) T (bwA4 s) H with
    | some p => (match p.1 with
      | .int .i64 (.ofNat n) => some n
      | _ => none)
    | none => none) = some k at h
  split at h
  · rename_i p hp
    split at h
    · rename_i m hm
      cases h
      obtain ⟨p1, p2⟩ := p
      simp only at hm; subst hm
      obtain ⟨v', _, hv, hrun⟩ := len_ok (P := P) hT (o := ((bwr0 ts)[1]'(show 1 < 4 by omega))) rfl _ _ _ _ hp E a ha
      have := hv.int
      subst this
      exact hrun w
    · cases h
  · cases h
theorem inBlock_eq {Q : Exit → Act → World → Prop} {a : Act} {W : World} {id : Nat} : Exit.inBlock id Q (.exit id) a W = Q .normal a W := if_pos rfl
theorem inBlock_ne {Q : Exit → Act → World → Prop} {a : Act} {W : World} {id j : Nat} (h : ¬ j = id) : Exit.inBlock id Q (.exit j) a W = Q (.exit j) a W := if_neg h
/-- a range over slices.Backward. -/
theorem rangeB_ok {P : Program} {T : Cx} (hT : Fits P T) (hB : BwOk P T) {ih : Cmd → Out} (hD : CodesOk P T ih) {g : Operand} {ps : Array Tmp} {assign body : Code} (nda : ndCode assign = true) (ndb : ndCode body = true) (nra : nrCode assign = true) (nrb : nrCode body = true)
    {A A' : AA} {H H' : Hp} {e : Ex} (h : rangeD T ih ps.toList assign body A H (ev A g) = .code e A' H') {E : Env} {a : Act} {w : World} (ha : AR ds E H.next A a) (hr : HRel E H w) : wpR none P (.rangeFunc g ps assign body) (PostM ds e A' H' E H w) a w := by
  unfold rangeD at h
  split at h
  · rename_i f x1 x2 hf
    split at h
    · rename_i hx1
      split at h
      · rename_i p hx2
        split at h
        · rename_i q hq
          obtain ⟨fnc, y, hfn, hnm, hbody, hnt, hres⟩ := hB f q hq
          unfold rngD at h
          split at h
          · rename_i s hs
            split at h
            · rename_i len hlen
              split at h
              · rename_i p0 p1 hps
                obtain ⟨hle, h⟩ : len ≤ 4294967296 ∧ rndsD T ih q p.block p.off p0 p1 assign body A.fresh len H = .code e A' H' := by
                  cases hb : Nat.ble len 4294967296 with
                  | true => rw [hb] at h; exact ⟨Nat.le_of_ble_eq_true hb, h⟩
                  | false => rw [hb] at h; cases h
                have hps2 : ps = #[p0, p1] := by
                  have : ps.toList = #[p0, p1].toList := hps
                  exact Array.toList_inj.1 this
                subst hps2
                obtain ⟨l', m', e3, r1, r2⟩ := (ev_ok ha hf).fn
                rw [hx1] at r1
                rw [hx2] at r2
                cases r1
                cases r2 with
                | cons hpv ht =>
                  cases ht
                  obtain ⟨hsp, hpb, rfl⟩ := hpv.pptr
                  intro n
                  refine wpIn_rangeFunc fun fn _ => ?_
                  have hg1 : ∀ i, i < w.heap.size → ((w.alloc (.deferred (some []))).alloc (.loop (recOf fn a.tmps #[p0, p1] assign body w.heap.size .ready none))).heap[i]? = w.heap[i]? := fun i hi => by
                    rw [Below.heap_alloc _ _ _ (by simp; omega), Below.heap_alloc _ _ _ hi]
                  have hrd : Rd E H w (recOf fn a.tmps #[p0, p1] assign body w.heap.size) E H .ready none ((w.alloc (.deferred (some []))).alloc (.loop (recOf fn a.tmps #[p0, p1] assign body w.heap.size .ready none))) := by
                    refine ⟨⟨Nat.le_refl _, Agree.refl _ _, fun b x h => .inl ⟨b, x, h, id, rfl⟩, rfl, rfl, rfl, by simp; omega, fun i hi _ => hg1 i hi⟩, hr.same fun b x hb => hg1 _ (hr.named hb), ?_, ?_⟩
                    · have := World.alloc_heap_new (w.alloc (.deferred (some []))) (.loop (recOf fn a.tmps #[p0, p1] assign body w.heap.size .ready none)); rwa [World.size_alloc] at this
                    · exact (Below.heap_alloc _ _ _ (by simp)).trans (World.alloc_heap_new w _)
                  generalize hW1 : (w.alloc (.deferred (some []))).alloc (.loop (recOf fn a.tmps #[p0, p1] assign body w.heap.size .ready none)) = W1 at *
                  have hcall : ∀ args W, (callFunc f args).run P W = .ok (.enter f args) W := fun args W => call_run hfn hnm (by rw [hbody]; rfl)
                  have hlb : ([] : List Value).toArray = #[] := rfl
                  refine ⟨w.heap.size + 1, [{ target := .collected w.heap.size, args := #[] }], W1, { target := .fn (.func f) #[.pointer (some ⟨E.s p.block, p.off, none⟩)], args := #[.func (.yield (w.heap.size + 1)) #[] #[]] }, W1, f,
                    #[.func (.yield (w.heap.size + 1)) #[] #[]] ++ #[.pointer (some ⟨E.s p.block, p.off, none⟩)], W1, ?_, ?_, fun _ _ => trivial, ?_, fun h => (by cases h), ?_⟩
                  · rw [← hW1]; exact run_enterLoop_outer _ _ _ _ _
                  · simp only [resolve, e3]
                    simp [go_sem]
                  · simp [invoke, go_sem, hcall]
                  · refine callsIn_of_wp hfn hbody trivial ?_ rfl
                    have hit : IT (w.heap.size + 1) (.pointer (some ⟨E.s p.block, p.off, none⟩)) { tmps := (#[Value.func (.yield (w.heap.size + 1)) #[] #[]] ++ #[Value.pointer (some ⟨E.s p.block, p.off, none⟩)]) ++ Array.replicate (fnc.ntmps - (#[Value.func (.yield (w.heap.size + 1)) #[] #[]] ++ #[Value.pointer (some ⟨E.s p.block, p.off, none⟩)]).size) undef, defers := [] } := by
                      rw [hnt]
                      exact ⟨rfl, by simp, by simp, by simp⟩
                    generalize ({ tmps := (#[Value.func (.yield (w.heap.size + 1)) #[] #[]] ++ #[Value.pointer (some ⟨E.s p.block, p.off, none⟩)]) ++ Array.replicate (fnc.ntmps - (#[Value.func (.yield (w.heap.size + 1)) #[] #[]] ++ #[Value.pointer (some ⟨E.s p.block, p.off, none⟩)]).size) undef, defers := [] } : Act) = a1 at *
                    obtain ⟨s', hs', hsv⟩ := loadV_ok (P := P) hT hrd.r hs
                    refine wpIn_seq (wpIn_region ?_)
                    show wpOpsIn _ _ _ (bwr0 q.1) _ [0, 1, 2, 3] a1 W1
                    refine opsIn_val (o := ((bwr0 q.1)[0]'(show 0 < 4 by omega))) (some 4) rfl rfl rfl (by intro c hc; cases hc) (run_load rfl (eval_tmp hit.p) hs') ?_
                    have i1 := hit.put 4 s' (by omega) (by omega)
                    have f4 : (a1.put (some 4) s').tmps[4]? = some s' := tput_same (by rw [hit.size]; omega)
                    generalize a1.put (some 4) s' = a2 at *
                    refine opsIn_val (o := ((bwr0 q.1)[1]'(show 1 < 4 by omega))) (some 5) rfl rfl rfl (by intro c hc; cases hc) (lenB_ok hT hlen (bwA4_ok i1.df i1.size f4 hsv) W1) ?_
                    have i2 := i1.put 5 (.int .i64 (len : Int)) (by omega) (by omega)
                    have f5 : (a2.put (some 5) (.int .i64 (len : Int))).tmps[5]? = some (.int .i64 (len : Int)) := tput_same (by rw [i1.size]; omega)
                    generalize a2.put (some 5) (.int .i64 (len : Int)) = a3 at *
                    have hw : wrapF .i64 (Int.sub len 1) = (len : Int) - 1 := by
                      rw [wrapF_eq]
                      show IntKind.i64.wrap ((len : Int) - 1) = _
                      simp [IntKind.wrap, IntKind.bits, IntKind.signed]
                      omega
                    refine opsIn_val (o := ((bwr0 q.1)[2]'(show 2 < 4 by omega))) (some 6) rfl rfl rfl (by intro c hc; cases hc) (run_int rfl (eval_tmp f5) rfl rfl) ?_
                    rw [hw]
                    have i3 := i2.put 6 (.int .i64 ((len : Int) - 1)) (by omega) (by omega)
                    have f6 : (a3.put (some 6) (.int .i64 ((len : Int) - 1))).tmps[6]? = some (.int .i64 ((len : Int) - 1)) := tput_same (by rw [i2.size]; omega)
                    generalize a3.put (some 6) (.int .i64 ((len : Int) - 1)) = a4 at *
                    refine opsIn_val (o := ((bwr0 q.1)[3]'(show 3 < 4 by omega))) (some 3) rfl rfl rfl (by intro c hc; cases hc) (run_move (.inr rfl) (eval_tmp f6)) ?_
                    have i4 := i3.put 3 (.int .i64 ((len : Int) - 1)) (by omega) (by omega)
                    have f3 : (a4.put (some 3) (.int .i64 ((len : Int) - 1))).tmps[3]? = some (.int .i64 ((len : Int) - 1)) := tput_same (by rw [i3.size]; omega)
                    generalize a4.put (some 3) (.int .i64 ((len : Int) - 1)) = a5 at *
                    refine opsIn_end ?_
                    show (Code.block 0 (.loop (bwRound y q.1 q.2))).wpIn _ _ _ _ _ _
                    have haf := ha.fresh
                    obtain ⟨hA, hloop⟩ := bw_loop (n := n - 1) (y := y) (o := p.off) hT hD nda ndb nra nrb haf hpb len hle h hrd i4 f3
                    subst hA
                    refine wpIn_block (wpIn_mono (wpIn_loop_rounds _ hloop) fun x a' W' hx => ?_)
                    have hend : ∀ x2, x2 = Exit.normal ∨ x2 = Exit.ret → bwQ E H w (recOf fn a.tmps #[p0, p1] assign body w.heap.size) e H' x2 a' W' → bodyPost P fnc (rangePost (FF none) n P (w.heap.size + 1) (PostM ds e A.fresh H' E H w) { a with defers := [{ target := .collected w.heap.size, args := #[] }] ++ a.defers }) x2 a' W' := fun x2 hx2 hq2 => by
                      obtain ⟨_, hdf, E2, st, hst, hrd2⟩ := hq2
                      have := range_end (P := P) haf hst hrd2 n (.tuple #[])
                      rcases hx2 with rfl | rfl
                      · exact ⟨hdf, _, results_none hres _ _ _, this⟩
                      · exact ⟨hdf, _, results_none hres _ _ _, this⟩
                    cases x with
                    | normal => exact hend _ (.inl rfl) hx
                    | ret => exact hend _ (.inr rfl) hx
                    | exit id =>
                      by_cases e0 : id = 0
                      · subst e0
                        rw [inBlock_eq] at hx ⊢
                        exact hend _ (.inl rfl) hx
                      · exfalso
                        rw [inBlock_ne e0] at hx
                        rcases hx.1 with h9 | h9 <;> cases h9
                    | goto l => rcases hx.1 with h9 | h9 <;> cases h9
                    | panic ch => rcases hx.1 with h9 | h9 <;> cases h9
                    | outgrown => rcases hx.1 with h9 | h9 <;> cases h9
              · cases h
            · cases h
          · cases h
        · cases h
      · cases h
    · cases h
  · cases h
end
end Go.Proofs.YtanhkchpffkloaaGreatDoor
