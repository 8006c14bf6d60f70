import Derived.Test.YtdkfimejabanlaaDoorEq7
import Derived.Below
namespace Go.Proofs.YtdkfimejabanlaaDoor
open Go Go.RowKit
set_option linter.unusedVariables false
set_option linter.unusedSimpArgs false
noncomputable section
variable {ds : List Deferred}
theorem opsIn_round {n : Nat} {P : Program} {ops : Array Oper} {Q : Exit → Act → World → Prop} {i : Nat} {rest : List Nat} {a : Act} {w : World} {o : Oper} {l f : Nat} {tmps : Array Value} {assign body : Code} (d : Option Tmp) (ho : ops[i]? = some o) (hd : o.dst = d) (hg : o.guard = none) (hnd : ∀ c, o.op ≠ .defer c)
    (hx : (execOp a.eval o).run P w = .ok (.round l f tmps assign body) w) (h : RoundIn (FF none) (n - 1) P l f tmps assign body w fun en w' => ∃ v, en = .returned v ∧ wpOpsIn (FF none) n P ops Q rest (a.put d v) w') :
    wpOpsIn (FF none) n P ops Q (i :: rest) a w := by
  unfold wpOpsIn
  subst hd
  simp only [ho]
  rw [if_pos (by unfold Region.wanted; rw [hg])]
  refine ⟨fun _ _ => trivial, ?_⟩
  rw [Oper.semAt_eq _ _ _ hnd, hx, Oper.uponIn_round]
  refine ⟨fun h => (by cases h), h.mono fun en w' hh => ?_⟩
  obtain ⟨v, rfl, h2⟩ := hh
  exact h2
theorem bwElem_ok {P : Program} {T : Cx} (hT : Fits P T) {q : TypeId × TypeId} {i : Nat} {H1 : Hp} {s : Value} {v : Value} (h : bwElem T q i H1 (some s) = some v) : ∃ pp : Addr, o_indexAddr q.1 (.tmp 13) (.tmp 14) T (bwAA i s) H1 = some (.pointer (some pp), H1) ∧ loadV T H1 q.2 pp.block pp.off = some v := by
  change (match o_indexAddr q.1 (.tmp 13) (.tmp 14) T (bwAA i s) H1 with
    | some p => (match p.1 with
      | .pointer (some p) => loadV T H1 q.2 p.block p.off
      | _ => none)
    | none => none) = some v at h
  split at h
  · rename_i p hp
    split at h
    · rename_i pp hpp
      obtain ⟨p1, p2⟩ := p
      simp only at hpp; subst hpp
      refine ⟨pp, ?_, h⟩
      have : p2 = H1 := by
        unfold o_indexAddr at hp
        split at hp
        · split at hp
          · split at hp
            · split at hp
              · obtain ⟨_, h2⟩ := ite'_some hp; cases h2; rfl
              · cases hp
            · cases hp
          · cases hp
        · split at hp
          · split at hp
            · split at hp
              · obtain ⟨_, h2⟩ := ite'_some hp; cases h2; rfl
              · cases hp
            · cases hp
          · cases hp
        · cases hp
      rw [hp, this]
    · cases h
  · cases h
section
variable {n : Nat} {P : Program} {T : Cx} {ih : Cmd → Out} {q : TypeId × TypeId} {y : TypeId} {b o p0 p1 : Nat} {assign body : Code} {A : AA} {E : Env} {H : Hp} {w : World} {a0 : Act} {fn : FuncId}
/-- one round of the closure. -/
theorem bw_round (hT : Fits P T) (hD : CodesOk P T ih) (nda : ndCode assign = true) (ndb : ndCode body = true) (nra : nrCode assign = true) (nrb : nrCode body = true) (ha0 : AR ds E H.next A a0) (hb : b < H.next)
    {i : Nat} {E1 : Env} {H1 : Hp} {W : World} {a : Act} (hrd : Rd E H w (recOf fn a0.tmps #[p0, p1] assign body w.heap.size) E1 H1 .ready none W) (hit : IT (w.heap.size + 1) (.pointer (some ⟨E.s b, o, none⟩)) a) (h3 : a.tmps[3]? = some (.int .i64 (i : Int)))
    {s v : Value} (hs : loadV T H1 q.1 b o = some s) (hv : bwElem T q i H1 (some s) = some v) {A1 A2 A3 : AA} {H3 : Hp} (h0 : A.set p0 (.int .i64 (.ofNat i)) = some A1) (h1 : A1.set p1 v = some A2)
    (hasg : ih (.code assign A2 H1) = .code .normal A3 H3) {e : Ex} {A4 : AA} {H4 : Hp} (hbody : ih (.code body A3 H3) = .code e A4 H4) {Q : Exit → Act → World → Prop}
    (hQ : ∀ a' W' E4, Rd E H w (recOf fn a0.tmps #[p0, p1] assign body w.heap.size) E4 H4 (if (jumpOf e).isNone then .ready else .done) (jumpOf e) W' → IT (w.heap.size + 1) (.pointer (some ⟨E.s b, o, none⟩)) a' → a'.tmps[3]? = some (.int .i64 (i : Int)) → Q (if (jumpOf e).isNone then .normal else .ret) a' W') :
    (Code.seq (.region 3 (bwr3 y q.1 q.2) false) (.cond (.tmp 18) .ret .skip)).wpIn (FF none) n P Q a W := by
  obtain ⟨pp, hix, hel⟩ := bwElem_ok hT hv
  have hEs : E1.s b = E.s b := (hrd.g.ag b hb).1
  obtain ⟨s', hs', hsv⟩ := loadV_ok (P := P) hT hrd.r hs
  rw [hEs] at hs'
  obtain ⟨v', hv', hvv⟩ := loadV_ok (P := P) hT hrd.r hel
  refine wpIn_seq (wpIn_region ?_)
  show wpOpsIn _ _ _ (bwr3 y q.1 q.2) _ [0, 1, 2, 3, 4, 5, 6, 7] a W
  refine opsIn_val (o := ((bwr3 y q.1 q.2)[0]'(show 0 < 8 by omega))) (some 11) rfl rfl rfl (by intro c hc; cases hc) (run_move (.inl rfl) (eval_tmp hit.y)) ?_
  have i1 := hit.put 11 (.func (.yield (w.heap.size + 1)) #[] #[]) (by omega) (by omega)
  have f11 : (a.put (some 11) (.func (.yield (w.heap.size + 1)) #[] #[])).tmps[11]? = some (.func (.yield (w.heap.size + 1)) #[] #[]) := tput_same (by rw [hit.size]; omega)
  have f3 : (a.put (some 11) (.func (.yield (w.heap.size + 1)) #[] #[])).tmps[3]? = some (.int .i64 (i : Int)) := by rw [tput_other (by omega)]; exact h3
  generalize a.put (some 11) (.func (.yield (w.heap.size + 1)) #[] #[]) = a1 at *
  clear h3 hit
  refine opsIn_val (o := ((bwr3 y q.1 q.2)[1]'(show 1 < 8 by omega))) (some 12) rfl rfl rfl (by intro c hc; cases hc) (run_move (.inl rfl) (eval_tmp f3)) ?_
  have i2 := i1.put 12 (.int .i64 (i : Int)) (by omega) (by omega)
  have g12 : (a1.put (some 12) (.int .i64 (i : Int))).tmps[12]? = some (.int .i64 (i : Int)) := tput_same (by rw [i1.size]; omega)
  have g11 : (a1.put (some 12) (.int .i64 (i : Int))).tmps[11]? = some (.func (.yield (w.heap.size + 1)) #[] #[]) := by rw [tput_other (by omega)]; exact f11
  have g3 : (a1.put (some 12) (.int .i64 (i : Int))).tmps[3]? = some (.int .i64 (i : Int)) := by rw [tput_other (by omega)]; exact f3
  generalize a1.put (some 12) (.int .i64 (i : Int)) = a2 at *
  clear f3 f11 i1
  refine opsIn_val (o := ((bwr3 y q.1 q.2)[2]'(show 2 < 8 by omega))) (some 13) rfl rfl rfl (by intro c hc; cases hc) (run_load rfl (eval_tmp i2.p) hs') ?_
  have i3 := i2.put 13 s' (by omega) (by omega)
  have f13 : (a2.put (some 13) s').tmps[13]? = some s' := tput_same (by rw [i2.size]; omega)
  have f12 : (a2.put (some 13) s').tmps[12]? = some (.int .i64 (i : Int)) := by rw [tput_other (by omega)]; exact g12
  have f11 : (a2.put (some 13) s').tmps[11]? = some (.func (.yield (w.heap.size + 1)) #[] #[]) := by rw [tput_other (by omega)]; exact g11
  have f3 : (a2.put (some 13) s').tmps[3]? = some (.int .i64 (i : Int)) := by rw [tput_other (by omega)]; exact g3
  generalize a2.put (some 13) s' = a3 at *
  clear g3 g11 g12 i2
  refine opsIn_val (o := ((bwr3 y q.1 q.2)[3]'(show 3 < 8 by omega))) (some 14) rfl rfl rfl (by intro c hc; cases hc) (run_move (.inl rfl) (eval_tmp f3)) ?_
  have i4 := i3.put 14 (.int .i64 (i : Int)) (by omega) (by omega)
  have g14 : (a3.put (some 14) (.int .i64 (i : Int))).tmps[14]? = some (.int .i64 (i : Int)) := tput_same (by rw [i3.size]; omega)
  have g13 : (a3.put (some 14) (.int .i64 (i : Int))).tmps[13]? = some s' := by rw [tput_other (by omega)]; exact f13
  have g12 : (a3.put (some 14) (.int .i64 (i : Int))).tmps[12]? = some (.int .i64 (i : Int)) := by rw [tput_other (by omega)]; exact f12
  have g11 : (a3.put (some 14) (.int .i64 (i : Int))).tmps[11]? = some (.func (.yield (w.heap.size + 1)) #[] #[]) := by rw [tput_other (by omega)]; exact f11
  have g3 : (a3.put (some 14) (.int .i64 (i : Int))).tmps[3]? = some (.int .i64 (i : Int)) := by rw [tput_other (by omega)]; exact f3
  generalize a3.put (some 14) (.int .i64 (i : Int)) = a4 at *
  clear f3 f11 f12 f13 i3
  obtain ⟨u, _, hu, hrun⟩ := indexAddr_ok (P := P) hT (o := ((bwr3 y q.1 q.2)[4]'(show 4 < 8 by omega))) rfl (bwAA i s) H1 _ _ hix E1 a4 (bwAA_ok i4.df i4.size g14 g13 hsv)
  obtain ⟨_, _, rfl⟩ := hu.pptr
  refine opsIn_val (o := ((bwr3 y q.1 q.2)[4]'(show 4 < 8 by omega))) (some 15) rfl rfl rfl (by intro c hc; cases hc) (hrun W) ?_
  clear hrun hu
  have i5 := i4.put 15 (.pointer (some ⟨E1.s pp.block, pp.off, none⟩)) (by omega) (by omega)
  have f15 : (a4.put (some 15) (.pointer (some ⟨E1.s pp.block, pp.off, none⟩))).tmps[15]? = some (.pointer (some ⟨E1.s pp.block, pp.off, none⟩)) := tput_same (by rw [i4.size]; omega)
  have f12 : (a4.put (some 15) (.pointer (some ⟨E1.s pp.block, pp.off, none⟩))).tmps[12]? = some (.int .i64 (i : Int)) := by rw [tput_other (by omega)]; exact g12
  have f11 : (a4.put (some 15) (.pointer (some ⟨E1.s pp.block, pp.off, none⟩))).tmps[11]? = some (.func (.yield (w.heap.size + 1)) #[] #[]) := by rw [tput_other (by omega)]; exact g11
  have f3 : (a4.put (some 15) (.pointer (some ⟨E1.s pp.block, pp.off, none⟩))).tmps[3]? = some (.int .i64 (i : Int)) := by rw [tput_other (by omega)]; exact g3
  generalize a4.put (some 15) (.pointer (some ⟨E1.s pp.block, pp.off, none⟩)) = a5 at *
  clear g3 g11 g12 g13 g14 i4
  refine opsIn_val (o := ((bwr3 y q.1 q.2)[5]'(show 5 < 8 by omega))) (some 16) rfl rfl rfl (by intro c hc; cases hc) (run_load rfl (eval_tmp f15) hv') ?_
  have i6 := i5.put 16 v' (by omega) (by omega)
  have g16 : (a5.put (some 16) v').tmps[16]? = some v' := tput_same (by rw [i5.size]; omega)
  have g12 : (a5.put (some 16) v').tmps[12]? = some (.int .i64 (i : Int)) := by rw [tput_other (by omega)]; exact f12
  have g11 : (a5.put (some 16) v').tmps[11]? = some (.func (.yield (w.heap.size + 1)) #[] #[]) := by rw [tput_other (by omega)]; exact f11
  have g3 : (a5.put (some 16) v').tmps[3]? = some (.int .i64 (i : Int)) := by rw [tput_other (by omega)]; exact f3
  generalize a5.put (some 16) v' = a6 at *
  clear f3 f11 f12 f15 i5
  obtain ⟨tmps, hy, hR⟩ := round_ok hD nda ndb nra nrb ha0 hrd hvv h0 h1 hasg hbody (n - 1)
  refine opsIn_round (o := ((bwr3 y q.1 q.2)[6]'(show 6 < 8 by omega))) (some 17) rfl rfl rfl (by intro c hc; cases hc) (run_yieldcall (args := #[.tmp 12, .tmp 16]) (tys := #[3, q.2]) rfl (eval_tmp g11) (nx := .round (w.heap.size + 1) fn tmps assign body) ?_) (hR.mono fun en W' hh => ?_)
  · have e1 : (#[Operand.tmp 12, Operand.tmp 16].map a6.eval) = #[.int .i64 (i : Int), v'] := by
      rw [show (#[Operand.tmp 12, Operand.tmp 16].map a6.eval) = #[a6.eval (.tmp 12), a6.eval (.tmp 16)] from by simp, eval_tmp g12, eval_tmp g16]
    rw [e1]; exact hy
  obtain ⟨rfl, E4, hrd4⟩ := hh
  refine ⟨_, rfl, ?_⟩
  have i7 := i6.put 17 (.bool (jumpOf e).isNone) (by omega) (by omega)
  have f17 : (a6.put (some 17) (.bool (jumpOf e).isNone)).tmps[17]? = some (.bool (jumpOf e).isNone) := tput_same (by rw [i6.size]; omega)
  have f3 : (a6.put (some 17) (.bool (jumpOf e).isNone)).tmps[3]? = some (.int .i64 (i : Int)) := by rw [tput_other (by omega)]; exact g3
  generalize a6.put (some 17) (.bool (jumpOf e).isNone) = a7 at *
  refine opsIn_val (o := ((bwr3 y q.1 q.2)[7]'(show 7 < 8 by omega))) (some 18) rfl rfl rfl (by intro c hc; cases hc) (run_not rfl (eval_tmp f17)) ?_
  have i8 := i7.put 18 (.bool (!(jumpOf e).isNone)) (by omega) (by omega)
  have f18 : (a7.put (some 18) (.bool (!(jumpOf e).isNone))).tmps[18]? = some (.bool (!(jumpOf e).isNone)) := tput_same (by rw [i7.size]; omega)
  have f3' : (a7.put (some 18) (.bool (!(jumpOf e).isNone))).tmps[3]? = some (.int .i64 (i : Int)) := by rw [tput_other (by omega)]; exact f3
  generalize a7.put (some 18) (.bool (!(jumpOf e).isNone)) = a8 at *
  refine opsIn_end ?_
  show (Code.cond (.tmp 18) .ret .skip).wpIn _ _ _ _ _ _
  refine wpIn_cond (t := !(jumpOf e).isNone) (eval_tmp f18) ?_
  have hfin := hQ a8 W' E4 hrd4 i8 f3'
  cases hj : (jumpOf e).isNone with
  | true =>
    rw [hj] at hfin
    exact wpIn_skip hfin
  | false =>
    rw [hj] at hfin
    exact wpIn_ret hfin
theorem rndsD_A {e : Ex} {A' : AA} {H' : Hp} : ∀ (m : Nat) {H1 : Hp}, rndsD T ih q b o p0 p1 assign body A m H1 = .code e A' H' → A' = A
  | 0, H1, h => by cases h; rfl
  | i + 1, H1, h => by
    rw [rndsD_succ] at h
    unfold rndD at h
    split at h
    · split at h
      · split at h
        · unfold rndBody at h
          split at h
          · unfold rndEnd at h
            split at h
            · exact rndsD_A i h
            · cases h; rfl
            · cases h; rfl
            · cases h
            · cases h
          · cases h
          · cases h
        · cases h
      · cases h
    · cases h
/-- the closure's loop. -/
theorem bw_loop (hT : Fits P T) (hD : CodesOk P T ih) (nda : ndCode assign = true) (ndb : ndCode body = true) (nra : nrCode assign = true) (nrb : nrCode body = true) (ha0 : AR ds E H.next A a0) (hb : b < H.next) {e : Ex} {A' : AA} {H' : Hp} :
    ∀ (m : Nat), m ≤ 4294967296 → ∀ {E1 : Env} {H1 : Hp} {W : World} {a : Act}, rndsD T ih q b o p0 p1 assign body A m H1 = .code e A' H' → Rd E H w (recOf fn a0.tmps #[p0, p1] assign body w.heap.size) E1 H1 .ready none W → IT (w.heap.size + 1) (.pointer (some ⟨E.s b, o, none⟩)) a → a.tmps[3]? = some (.int .i64 ((m : Int) - 1)) →
      A' = A ∧ Code.roundsIn (FF none) n P (bwRound y q.1 q.2) (Exit.inBlock 0 (bwQ E H w (recOf fn a0.tmps #[p0, p1] assign body w.heap.size) e H')) (m + 1) a W
  | 0, _, E1, H1, W, a, h, hrd, hit, h3 => by
    cases h
    refine ⟨rfl, ?_⟩
    rw [roundsIn_succ]
    refine bw_test hit h3 fun a' hit' h3' => ?_
    rw [if_neg (by omega)]
    exact ⟨.inl rfl, hit'.df, E1, .ready, (by intro h; cases h), hrd⟩
  | i + 1, hm, E1, H1, W, a, h, hrd, hit, h3 => by
    rw [rndsD_succ] at h
    cases hs : loadV T H1 q.1 b o with
    | none => rw [hs] at h; cases h
    | some s =>
      rw [hs] at h
      unfold rndD at h
      split at h
      · rename_i v hv
        split at h
        · rename_i A1 h0
          split at h
          · rename_i A2 h1
            unfold rndBody at h
            split at h
            · rename_i A3 H3 hasg
              have h3i : a.tmps[3]? = some (.int .i64 (i : Int)) := by rw [h3]; congr 2; omega
              have hkey : ∀ e2 A4 H4, ih (.code body A3 H3) = .code e2 A4 H4 → (A' = A ∧ ∀ (a' : Act) (W' : World) (E4 : Env), Rd E H w (recOf fn a0.tmps #[p0, p1] assign body w.heap.size) E4 H4 (if (jumpOf e2).isNone then .ready else .done) (jumpOf e2) W' → IT (w.heap.size + 1) (.pointer (some ⟨E.s b, o, none⟩)) a' → a'.tmps[3]? = some (.int .i64 (i : Int)) →
                  Exit.inBlock 1 (Exit.then ((Code.region 2 bwr2 false).wpIn (FF none) n P (Exit.then (Code.roundsIn (FF none) n P (bwRound y q.1 q.2) (Exit.inBlock 0 (bwQ E H w (recOf fn a0.tmps #[p0, p1] assign body w.heap.size) e H')) (i + 1)) (Exit.inBlock 0 (bwQ E H w (recOf fn a0.tmps #[p0, p1] assign body w.heap.size) e H')))) (Exit.then (Code.roundsIn (FF none) n P (bwRound y q.1 q.2) (Exit.inBlock 0 (bwQ E H w (recOf fn a0.tmps #[p0, p1] assign body w.heap.size) e H')) (i + 1)) (Exit.inBlock 0 (bwQ E H w (recOf fn a0.tmps #[p0, p1] assign body w.heap.size) e H')))) (if (jumpOf e2).isNone then .normal else .ret) a' W') →
                  A' = A ∧ Code.roundsIn (FF none) n P (bwRound y q.1 q.2) (Exit.inBlock 0 (bwQ E H w (recOf fn a0.tmps #[p0, p1] assign body w.heap.size) e H')) (i + 1 + 1) a W := fun e2 A4 H4 hb2 hh => by
                refine ⟨hh.1, ?_⟩
                rw [roundsIn_succ]
                refine bw_test hit h3i fun a' hit' h3' => ?_
                rw [if_pos (by omega)]
                exact wpIn_seq (wpIn_block (bw_round hT hD nda ndb nra nrb ha0 hb hrd hit' h3' hs hv h0 h1 hasg hb2 hh.2))
              unfold rndEnd at h
              split at h
              · rename_i A4 H4 hbody
                refine hkey _ _ _ hbody ⟨rndsD_A i h, fun a' W' E4 hrd4 hit4 h34 => ?_⟩
                exact bw_dec hit4 h34 (by omega) fun a'' hit'' h3'' => (bw_loop hT hD nda ndb nra nrb ha0 hb i (by omega) h hrd4 hit'' h3'').2
              · rename_i id A4 H4 hbody
                cases h
                refine hkey _ _ _ hbody ⟨rfl, fun a' W' E4 hrd4 hit4 h34 => ?_⟩
                exact ⟨.inr rfl, hit4.df, E4, .done, (by intro h; cases h), hrd4⟩
              · rename_i A4 H4 hbody
                cases h
                refine hkey _ _ _ hbody ⟨rfl, fun a' W' E4 hrd4 hit4 h34 => ?_⟩
                exact ⟨.inr rfl, hit4.df, E4, .done, (by intro h; cases h), hrd4⟩
              · cases h
              · cases h
            · cases h
            · cases h
          · cases h
        · cases h
      · cases h
end
theorem lenB_ok {P : Program} {T : Cx} (hT : Fits P T) {ts : TypeId} {H : Hp} {s : Value} {k : Nat} (h : lenB T ts H s = some k) {E : Env} {a : Act} (ha : AR [] E H.next (bwA4 s) a) (w : World) : (execOp a.eval ((bwr0 ts)[1]'(show 1 < 4 by omega))).run P w = .ok (.value (.int .i64 (k : Int))) w := by
  change (match o_len ts (.tmp 4) T (bwA4 s) H with
    | some p => (match p.1 with
      | .int .i64 (.ofNat n) => some n
      | _ => none)
    | none => none) = some k at h
  split at h
  · rename_i p hp
    split at h
    · rename_i m hm
      cases h
      obtain ⟨p1, p2⟩ := p
      simp only at hm; subst hm
      obtain ⟨v', _, hv, hrun⟩ := len_ok (P := P) hT (o := ((bwr0 ts)[1]'(show 1 < 4 by omega))) rfl _ _ _ _ hp E a ha
      have := hv.int
      subst this
      exact hrun w
    · cases h
  · cases h
theorem inBlock_eq {Q : Exit → Act → World → Prop} {a : Act} {W : World} {id : Nat} : Exit.inBlock id Q (.exit id) a W = Q .normal a W := if_pos rfl
theorem inBlock_ne {Q : Exit → Act → World → Prop} {a : Act} {W : World} {id j : Nat} (h : ¬ j = id) : Exit.inBlock id Q (.exit j) a W = Q (.exit j) a W := if_neg h
/-- a range over slices.Backward. -/
theorem rangeB_ok {P : Program} {T : Cx} (hT : Fits P T) (hB : BwOk P T) {ih : Cmd → Out} (hD : CodesOk P T ih) {g : Operand} {ps : Array Tmp} {assign body : Code} (nda : ndCode assign = true) (ndb : ndCode body = true) (nra : nrCode assign = true) (nrb : nrCode body = true)
    {A A' : AA} {H H' : Hp} {e : Ex} (h : rangeD T ih ps.toList assign body A H (ev A g) = .code e A' H') {E : Env} {a : Act} {w : World} (ha : AR ds E H.next A a) (hr : HRel E H w) : wpR none P (.rangeFunc g ps assign body) (PostM ds e A' H' E H w) a w := by
  unfold rangeD at h
  split at h
  · rename_i f x1 x2 hf
    split at h
    · rename_i hx1
      split at h
      · rename_i p hx2
        split at h
        · rename_i q hq
          obtain ⟨hq0, h2⟩ : q.2 ≠ 0 ∧ rngD T ih q p.block p.off ps.toList assign body A.fresh H (loadV T H q.1 p.block p.off) = .code e A' H' := by
            cases hb : Nat.beq q.2 0 with
            | true => rw [hb] at h; cases h
            | false => rw [hb] at h; exact ⟨fun e => (by rw [e] at hb; cases hb), h⟩
          clear h
          have h := h2
          clear h2
          obtain ⟨fnc, y, hfn, hnm, hbody, hnt, hres⟩ : BwAt1 P f q := by
            rcases hB f q hq with ⟨_, h1⟩ | ⟨h1, _⟩
            · exact h1
            · exact absurd h1 hq0
          unfold rngD at h
          split at h
          · rename_i s hs
            split at h
            · rename_i len hlen
              split at h
              · rename_i p0 p1 hps
                obtain ⟨hle, h⟩ : len ≤ 4294967296 ∧ rndsD T ih q p.block p.off p0 p1 assign body A.fresh len H = .code e A' H' := by
                  cases hb : Nat.ble len 4294967296 with
                  | true => rw [hb] at h; exact ⟨Nat.le_of_ble_eq_true hb, h⟩
                  | false => rw [hb] at h; cases h
                have hps2 : ps = #[p0, p1] := by
                  have : ps.toList = #[p0, p1].toList := hps
                  exact Array.toList_inj.1 this
                subst hps2
                obtain ⟨l', m', e3, r1, r2⟩ := (ev_ok ha hf).fn
                rw [hx1] at r1
                rw [hx2] at r2
                cases r1
                cases r2 with
                | cons hpv ht =>
                  cases ht
                  obtain ⟨hsp, hpb, rfl⟩ := hpv.pptr
                  intro n
                  refine wpIn_rangeFunc fun fn _ => ?_
                  have hg1 : ∀ i, i < w.heap.size → ((w.alloc (.deferred (some []))).alloc (.loop (recOf fn a.tmps #[p0, p1] assign body w.heap.size .ready none))).heap[i]? = w.heap[i]? := fun i hi => by
                    rw [Below.heap_alloc _ _ _ (by simp; omega), Below.heap_alloc _ _ _ hi]
                  have hrd : Rd E H w (recOf fn a.tmps #[p0, p1] assign body w.heap.size) E H .ready none ((w.alloc (.deferred (some []))).alloc (.loop (recOf fn a.tmps #[p0, p1] assign body w.heap.size .ready none))) := by
                    refine ⟨⟨Nat.le_refl _, Agree.refl _ _, fun b x h => .inl ⟨b, x, h, id, rfl⟩, rfl, rfl, rfl, by simp; omega, fun i hi _ => hg1 i hi⟩, hr.same fun b x hb => hg1 _ (hr.named hb), ?_, ?_⟩
                    · have := World.alloc_heap_new (w.alloc (.deferred (some []))) (.loop (recOf fn a.tmps #[p0, p1] assign body w.heap.size .ready none)); rwa [World.size_alloc] at this
                    · exact (Below.heap_alloc _ _ _ (by simp)).trans (World.alloc_heap_new w _)
                  generalize hW1 : (w.alloc (.deferred (some []))).alloc (.loop (recOf fn a.tmps #[p0, p1] assign body w.heap.size .ready none)) = W1 at *
                  have hcall : ∀ args W, (callFunc f args).run P W = .ok (.enter f args) W := fun args W => call_run hfn hnm (by rw [hbody]; rfl)
                  have hlb : ([] : List Value).toArray = #[] := rfl
                  refine ⟨w.heap.size + 1, [{ target := .collected w.heap.size, args := #[] }], W1, { target := .fn (.func f) #[.pointer (some ⟨E.s p.block, p.off, none⟩)], args := #[.func (.yield (w.heap.size + 1)) #[] #[]] }, W1, f,
                    #[.func (.yield (w.heap.size + 1)) #[] #[]] ++ #[.pointer (some ⟨E.s p.block, p.off, none⟩)], W1, ?_, ?_, fun _ _ => trivial, ?_, fun h => (by cases h), ?_⟩
                  · rw [← hW1]; exact run_enterLoop_outer _ _ _ _ _
                  · simp only [resolve, e3]
                    simp [go_sem]
                  · simp [invoke, go_sem, hcall]
                  · refine callsIn_of_wp hfn hbody trivial ?_ rfl
                    have hit : IT (w.heap.size + 1) (.pointer (some ⟨E.s p.block, p.off, none⟩)) { tmps := (#[Value.func (.yield (w.heap.size + 1)) #[] #[]] ++ #[Value.pointer (some ⟨E.s p.block, p.off, none⟩)]) ++ Array.replicate (fnc.ntmps - (#[Value.func (.yield (w.heap.size + 1)) #[] #[]] ++ #[Value.pointer (some ⟨E.s p.block, p.off, none⟩)]).size) undef, defers := [] } := by
                      rw [hnt]
                      exact ⟨rfl, by simp, by simp, by simp⟩
                    generalize ({ tmps := (#[Value.func (.yield (w.heap.size + 1)) #[] #[]] ++ #[Value.pointer (some ⟨E.s p.block, p.off, none⟩)]) ++ Array.replicate (fnc.ntmps - (#[Value.func (.yield (w.heap.size + 1)) #[] #[]] ++ #[Value.pointer (some ⟨E.s p.block, p.off, none⟩)]).size) undef, defers := [] } : Act) = a1 at *
                    obtain ⟨s', hs', hsv⟩ := loadV_ok (P := P) hT hrd.r hs
                    refine wpIn_seq (wpIn_region ?_)
                    show wpOpsIn _ _ _ (bwr0 q.1) _ [0, 1, 2, 3] a1 W1
                    refine opsIn_val (o := ((bwr0 q.1)[0]'(show 0 < 4 by omega))) (some 4) rfl rfl rfl (by intro c hc; cases hc) (run_load rfl (eval_tmp hit.p) hs') ?_
                    have i1 := hit.put 4 s' (by omega) (by omega)
                    have f4 : (a1.put (some 4) s').tmps[4]? = some s' := tput_same (by rw [hit.size]; omega)
                    generalize a1.put (some 4) s' = a2 at *
                    refine opsIn_val (o := ((bwr0 q.1)[1]'(show 1 < 4 by omega))) (some 5) rfl rfl rfl (by intro c hc; cases hc) (lenB_ok hT hlen (bwA4_ok i1.df i1.size f4 hsv) W1) ?_
                    have i2 := i1.put 5 (.int .i64 (len : Int)) (by omega) (by omega)
                    have f5 : (a2.put (some 5) (.int .i64 (len : Int))).tmps[5]? = some (.int .i64 (len : Int)) := tput_same (by rw [i1.size]; omega)
                    generalize a2.put (some 5) (.int .i64 (len : Int)) = a3 at *
                    have hw : wrapF .i64 (Int.sub len 1) = (len : Int) - 1 := by
                      rw [wrapF_eq]
                      show IntKind.i64.wrap ((len : Int) - 1) = _
                      simp [IntKind.wrap, IntKind.bits, IntKind.signed]
                      omega
                    refine opsIn_val (o := ((bwr0 q.1)[2]'(show 2 < 4 by omega))) (some 6) rfl rfl rfl (by intro c hc; cases hc) (run_int rfl (eval_tmp f5) rfl rfl) ?_
                    rw [hw]
                    have i3 := i2.put 6 (.int .i64 ((len : Int) - 1)) (by omega) (by omega)
                    have f6 : (a3.put (some 6) (.int .i64 ((len : Int) - 1))).tmps[6]? = some (.int .i64 ((len : Int) - 1)) := tput_same (by rw [i2.size]; omega)
                    generalize a3.put (some 6) (.int .i64 ((len : Int) - 1)) = a4 at *
                    refine opsIn_val (o := ((bwr0 q.1)[3]'(show 3 < 4 by omega))) (some 3) rfl rfl rfl (by intro c hc; cases hc) (run_move (.inr rfl) (eval_tmp f6)) ?_
                    have i4 := i3.put 3 (.int .i64 ((len : Int) - 1)) (by omega) (by omega)
                    have f3 : (a4.put (some 3) (.int .i64 ((len : Int) - 1))).tmps[3]? = some (.int .i64 ((len : Int) - 1)) := tput_same (by rw [i3.size]; omega)
                    generalize a4.put (some 3) (.int .i64 ((len : Int) - 1)) = a5 at *
                    refine opsIn_end ?_
                    show (Code.block 0 (.loop (bwRound y q.1 q.2))).wpIn _ _ _ _ _ _
                    have haf := ha.fresh
                    obtain ⟨hA, hloop⟩ := bw_loop (n := n - 1) (y := y) (o := p.off) hT hD nda ndb nra nrb haf hpb len hle h hrd i4 f3
                    subst hA
                    refine wpIn_block (wpIn_mono (wpIn_loop_rounds _ hloop) fun x a' W' hx => ?_)
                    have hend : ∀ x2, x2 = Exit.normal ∨ x2 = Exit.ret → bwQ E H w (recOf fn a.tmps #[p0, p1] assign body w.heap.size) e H' x2 a' W' → bodyPost P fnc (rangePost (FF none) n P (w.heap.size + 1) (PostM ds e A.fresh H' E H w) { a with defers := [{ target := .collected w.heap.size, args := #[] }] ++ a.defers }) x2 a' W' := fun x2 hx2 hq2 => by
                      obtain ⟨_, hdf, E2, st, hst, hrd2⟩ := hq2
                      have := range_end (P := P) haf hst hrd2 n (.tuple #[])
                      rcases hx2 with rfl | rfl
                      · exact ⟨hdf, _, results_none hres _ _ _, this⟩
                      · exact ⟨hdf, _, results_none hres _ _ _, this⟩
                    cases x with
                    | normal => exact hend _ (.inl rfl) hx
                    | ret => exact hend _ (.inr rfl) hx
                    | exit id =>
                      by_cases e0 : id = 0
                      · subst e0
                        rw [inBlock_eq] at hx ⊢
                        exact hend _ (.inl rfl) hx
                      · exfalso
                        rw [inBlock_ne e0] at hx
                        rcases hx.1 with h9 | h9 <;> cases h9
                    | goto l => rcases hx.1 with h9 | h9 <;> cases h9
                    | panic ch => rcases hx.1 with h9 | h9 <;> cases h9
                    | outgrown => rcases hx.1 with h9 | h9 <;> cases h9
              · cases h
            · cases h
          · cases h
        · cases h
      · cases h
    · cases h
  · cases h
end
end Go.Proofs.YtdkfimejabanlaaDoor
namespace Go.Proofs.YtdkfimejabanlaaDoor
open Go
set_option linter.unusedVariables false
set_option linter.unusedSimpArgs false
noncomputable section
variable {ds : List Deferred}
/-! ### a region of four whose second and third come in any order -/
theorem step_any {P : Program} {T : Cx} (hT : Fits P T) {ih : Cmd → Out} (hih : CallsOk P T ih) {ops : Array Oper} {id i : Nat} {o : Oper} (hoi : ops[i]? = some o) {rest : Rest} {A A' : AA} {H H' : Hp} {e : Ex} (h : stepOp T ih id o rest A H (wantedA ops.toList A o) = .code e A' H') {E : Env} {a : Act} {w : World} (ha : AR ds E H.next A a) (hr : HRel E H w)
    {Q : Exit → Act → World → Prop} {K : Act → World → Prop} (hK : Cont ds E H w rest e A' H' K) : wpOp P ops Q i K a w := by
  rw [stepOp_def] at h
  split at h
  · rename_i hw
    have hwant := wantedA_ok ha hw
    unfold wpOp
    simp only [hoi, hwant, if_true]
    exact .inl (doOp_ok hT hih h ha hr hK)
  · rename_i hw
    have hwant := wantedA_ok ha hw
    obtain ⟨A1, hput, hrest⟩ := put1_ok h
    unfold wpOp
    simp only [hoi, hwant]
    exact hK E A1 H _ w hrest (Gd.refl _ _ _) (ha.put hput VR.undef) hr
  · cases h
def chainOk (ops : Array Oper) (l : List Nat) : Array Bool → Bool := List.rec (motive := fun _ => Array Bool → Bool) (fun L => Region.ready .any ops L == []) (fun i _ ih L => ite' (Region.ready .any ops L == [i]) (ih (L.setIfInBounds i true)) false) l
theorem chain_any {P : Program} {T : Cx} (hT : Fits P T) {ih : Cmd → Out} (hih : CallsOk P T ih) {ops : Array Oper} {id : Nat} {A2 : AA} {H2 : Hp} {e2 : Ex} {Q : Exit → Act → World → Prop} :
    ∀ (l : List (Nat × Oper)) (L : Array Bool) (A : AA) (H : Hp) (E : Env) (a : Act) (w : World), (∀ p ∈ l, ops[p.1]? = some p.2) → chainOk ops (l.map (·.1)) L = true → runOps T ih ops.toList id (l.map (·.2)) A H = .code e2 A2 H2 → AR ds E H.next A a → HRel E H w →
      (∀ E1 a1 w1, e2 = .normal → Gd E E1 H H2 w w1 → AR ds E1 H2.next A2 a1 → HRel E1 H2 w1 → Q .normal a1 w1) → wpAny P .any ops Q l.length L a w
  | [], L, A, H, E, a, w, hp, hc, h, ha, hr, hQ => by
    change Out.code .normal A H = .code e2 A2 H2 at h
    cases h
    exact ⟨eq_of_beq hc, hQ E a w rfl (Gd.refl _ _ _) ha hr⟩
  | (i, o) :: l, L, A, H, E, a, w, hp, hc, h, ha, hr, hQ => by
    change ite' (Region.ready .any ops L == [i]) (chainOk ops (l.map (·.1)) (L.setIfInBounds i true)) false = true at hc
    obtain ⟨h1, h2⟩ := ite'_true_eq hc
    have hrd : Region.ready .any ops L = [i] := eq_of_beq h1
    simp only [List.map_cons] at h
    rw [runOps_cons] at h
    refine ⟨fun h0 => (by rw [hrd] at h0; cases h0), fun j hj => ?_⟩
    rw [hrd, List.mem_singleton] at hj
    subst hj
    exact step_any hT hih (hp (j, o) (List.mem_cons_self ..)) h ha hr (fun E1 A1 H1 a1 w1 hrest g1 ha1 hr1 =>
      chain_any hT hih l _ A1 H1 E1 a1 w1 (fun p hq => hp p (List.mem_cons_of_mem _ hq)) h2 hrest ha1 hr1 (fun E3 a3 w3 he g3 ha3 hr3 => hQ E3 a3 w3 he (g1.trans g3) ha3 hr3))
def forkOk (ops : Array Oper) : Bool := ite' (Nat.beq ops.size 4) (ite' (Region.ready .any ops (Array.replicate ops.size false) == [0]) (ite' (Region.ready .any ops ((Array.replicate ops.size false).setIfInBounds 0 true) == [1, 2])
  (ite' (chainOk ops [2, 3] (((Array.replicate ops.size false).setIfInBounds 0 true).setIfInBounds 1 true)) (chainOk ops [1, 3] (((Array.replicate ops.size false).setIfInBounds 0 true).setIfInBounds 2 true)) false) false) false) false
def thenCode' (ih : Cmd → Out) (b : Code) (r : Out) : Out := match r with
  | .code .normal A' H' => ih (.code b A' H')
  | r => r
theorem then_ok {ih : Cmd → Out} {b : Code} {r : Out} {e : Ex} {B : AA} {G : Hp} (h : thenCode' ih b r = .code e B G) : ∃ e2 A2 H2, r = .code e2 A2 H2 ∧ (e2 = .normal → ih (.code b A2 H2) = .code e B G) := by
  unfold thenCode' at h
  split at h
  · exact ⟨_, _, _, rfl, fun _ => h⟩
  · rename_i hne
    subst h
    exact ⟨_, _, _, rfl, fun he => absurd rfl (by subst he; exact hne _ _)⟩
def forkSeq (T : Cx) (ih : Cmd → Out) (id : Nat) (ops l : List Oper) (b : Code) (A : AA) (H : Hp) : Out := match l with
  | [o0, o1, o2, o3] => stepOp T ih id o0 (fun A' H' => meetOut (thenCode' ih b (runOps T ih ops id [o1, o2, o3] A' H')) (thenCode' ih b (runOps T ih ops id [o2, o1, o3] A' H'))) A H (wantedA ops A o0)
  | _ => .bad 29
theorem fork_ok {P : Program} {T : Cx} (hT : Fits P T) (hm : P.follows .mixedOrders = true) {ih : Cmd → Out} (hih : CallsOk P T ih) {ro : Option Nat} {b : Code} (hD : ∀ A H e A' H', ih (.code b A H) = .code e A' H' → ∀ (E : Env) (a : Act) (w : World), AR ds E H.next A a → HRel E H w → wpR ro P b (PostM ds e A' H' E H w) a w)
    {ops : Array Oper} (hnd : NoDefer ops) {id : Nat} {A A' : AA} {H H' : Hp} {e : Ex} (hf : forkOk ops = true) {l : List Oper} (hl : ops.toList = l) (h : forkSeq T ih id ops.toList l b A H = .code e A' H') {E : Env} {a : Act} {w : World} (ha : AR ds E H.next A a) (hr : HRel E H w) :
    wpR ro P (.region id ops true) (fun x a1 w1 => x = .normal ∧ wpR ro P b (PostM ds e A' H' E H w) a1 w1) a w := by
  obtain ⟨f1, f2⟩ := ite'_true_eq hf
  obtain ⟨f3, f4⟩ := ite'_true_eq f2
  obtain ⟨f5, f6⟩ := ite'_true_eq f4
  obtain ⟨f7, f8⟩ := ite'_true_eq f6
  have hsz : ops.size = 4 := Nat.eq_of_beq_eq_true f1
  have r0 : Region.ready .any ops (Array.replicate ops.size false) = [0] := eq_of_beq f3
  have r1 : Region.ready .any ops ((Array.replicate ops.size false).setIfInBounds 0 true) = [1, 2] := eq_of_beq f5
  unfold forkSeq at h
  split at h
  · rename_i o0 o1 o2 o3
    have g0 : ops[0]? = some o0 := by rw [← Array.getElem?_toList, hl]; rfl
    have g1 : ops[1]? = some o1 := by rw [← Array.getElem?_toList, hl]; rfl
    have g2 : ops[2]? = some o2 := by rw [← Array.getElem?_toList, hl]; rfl
    have g3 : ops[3]? = some o3 := by rw [← Array.getElem?_toList, hl]; rfl
    have hrd : HRel E H { w with drawn := w.drawn + 1 } := hr.heap rfl
    have gd : Gd E E H H w { w with drawn := w.drawn + 1 } := ⟨Nat.le_refl _, Agree.refl _ _, fun b x hx => .inl ⟨b, x, hx, fun h => h, rfl⟩, rfl, rfl, rfl, Nat.le_refl _, fun _ _ _ => rfl⟩
    refine wpR_region_any hnd (fun ⟨a, w, h⟩ => by cases h.1) hm ?_
    have hgo : wpAny P .any ops (fun x a1 w1 => x = .normal ∧ wpR ro P b (PostM ds e A' H' E H w) a1 w1) (3 + 1) (Array.replicate ops.size false) a { w with drawn := w.drawn + 1 } := by
      refine ⟨fun h0 => (by rw [r0] at h0; cases h0), fun j hj => ?_⟩
      rw [r0, List.mem_singleton] at hj
      subst hj
      refine step_any hT hih g0 h ha hrd (fun E1 A1 H1 a1 w1 hrest k1 ha1 hr1 => ?_)
      obtain ⟨B1, G1, B2, G2, m1, m2, l1, l2, l3⟩ := meetOut_ok hrest
      refine ⟨fun h0 => (by rw [r1] at h0; cases h0), fun j hj => ?_⟩
      rw [r1] at hj
      have hj2 : j = 1 ∨ j = 2 := by simpa using hj
      rcases hj2 with rfl | rfl
      · obtain ⟨e2, A2, H2, hrun, hcont⟩ := then_ok m1
        rw [runOps_cons] at hrun
        refine step_any hT hih g1 hrun ha1 hr1 (fun E2 A3 H3 a3 w3 hrest3 k3 ha3 hr3 => ?_)
        refine chain_any hT hih [(2, o2), (3, o3)] _ A3 H3 E2 a3 w3 (fun p hp => ?_) f7 hrest3 ha3 hr3 (fun E4 a4 w4 he k4 ha4 hr4 => ⟨rfl, ?_⟩)
        · rcases List.mem_cons.1 hp with e | hp
          · subst e; exact g2
          · rw [List.mem_singleton] at hp; subst hp; exact g3
        · refine wpR_mono (hD _ _ _ _ _ (hcont he) E4 a4 w4 ha4 hr4) fun x a5 w5 hp => ?_
          obtain ⟨hx, E5, ms5, k5, ha5, hr5, hm5⟩ := hp
          have hsz5 := (gd.trans (k1.trans (k3.trans k4))).size
          refine ⟨hx, E5, ms5, l1.gd ((((gd.trans k1).trans (k3.trans k4))).trans k5), ?_, l1.rel hr5, hm5.mono hsz5⟩
          rw [l1.1]; exact l3.1 ha5
      · obtain ⟨e2, A2, H2, hrun, hcont⟩ := then_ok m2
        rw [runOps_cons] at hrun
        refine step_any hT hih g2 hrun ha1 hr1 (fun E2 A3 H3 a3 w3 hrest3 k3 ha3 hr3 => ?_)
        refine chain_any hT hih [(1, o1), (3, o3)] _ A3 H3 E2 a3 w3 (fun p hp => ?_) f8 hrest3 ha3 hr3 (fun E4 a4 w4 he k4 ha4 hr4 => ⟨rfl, ?_⟩)
        · rcases List.mem_cons.1 hp with e | hp
          · subst e; exact g1
          · rw [List.mem_singleton] at hp; subst hp; exact g3
        · refine wpR_mono (hD _ _ _ _ _ (hcont he) E4 a4 w4 ha4 hr4) fun x a5 w5 hp => ?_
          obtain ⟨hx, E5, ms5, k5, ha5, hr5, hm5⟩ := hp
          have hsz5 := (gd.trans (k1.trans (k3.trans k4))).size
          refine ⟨hx, E5, ms5, l2.gd ((((gd.trans k1).trans (k3.trans k4))).trans k5), ?_, l2.rel hr5, hm5.mono hsz5⟩
          rw [l2.1]; exact l3.2 ha5
    have : wpAny P .any ops (fun x a1 w1 => x = .normal ∧ wpR ro P b (PostM ds e A' H' E H w) a1 w1) ops.size (Array.replicate ops.size false) a { w with drawn := w.drawn + 1 } := by
      have e4 : ops.size = 3 + 1 := hsz
      generalize hL : Array.replicate ops.size false = L at hgo ⊢
      rw [e4]; exact hgo
    exact this
  · cases h
end
end Go.Proofs.YtdkfimejabanlaaDoor
namespace Go.Proofs.YtdkfimejabanlaaDoor
open Go Go.RowKit
set_option linter.unusedVariables false
set_option linter.unusedSimpArgs false
noncomputable section
variable {ds : List Deferred}
def plainSeq (ih : Cmd → Out) (a b : Code) (A : AA) (H : Hp) : Out := thenCode ih b (ih (.code a A H))
/-- two pieces of code; the first may be a region with two orders whose outcomes differ. -/
def seqCode (T : Cx) (ih : Cmd → Out) (a b : Code) (A : AA) (H : Hp) : Out := match a with
  | .region id ops d => ite' d (ite' (forkOk ops) (forkSeq T ih id ops.toList ops.toList b A.fresh H) (plainSeq ih (.region id ops d) b A H)) (plainSeq ih (.region id ops d) b A H)
  | a => plainSeq ih a b A H
theorem seqCode_ok {T : Cx} {ih : Cmd → Out} {a b : Code} {A A' : AA} {H H' : Hp} {e : Ex} (h : seqCode T ih a b A H = .code e A' H') : thenCode ih b (ih (.code a A H)) = .code e A' H' ∨ ∃ id ops, a = .region id ops true ∧ forkOk ops = true ∧ forkSeq T ih id ops.toList ops.toList b A.fresh H = .code e A' H' := by
  unfold seqCode at h
  split at h
  · rename_i id ops d
    cases d with
    | false => exact .inl h
    | true =>
      rw [ite'_true] at h
      cases hf : forkOk ops with
      | false => rw [hf, ite'_false] at h; exact .inl h
      | true => rw [hf, ite'_true] at h; exact .inr ⟨id, ops, rfl, hf, h⟩
  · exact .inl h
def codeD (c : Code) : CodeF := match c with
  | .skip => fun _ _ A H => .code .normal A H
  | .ret => fun _ _ A H => .code .ret A H
  | .exit id => fun _ _ A H => .code (.exit id) A H
  | .seq a b => fun T ih A H => seqCode T ih a b A H
  | .cond x a b => fun _ ih A H => condCode ih a b A H (ev A x)
  | .block id b => fun _ ih A H => blockCode id (ih (.code b A H))
  | .loop b => fun _ ih A H => thenCode ih (.loop b) (ih (.code b A H))
  | .region id ops d => fun T ih A H => ite' d (drawZ T ih ops id A.fresh H) (runOps T ih ops.toList id ops.toList A.fresh H)
  | .rangeFunc g ps asg bd => fun T ih A H => rangeD T ih ps.toList asg bd A H (ev A g)
  | _ => fun _ _ _ _ => .bad 4
def callStep (T : Cx) (ih : Cmd → Out) (f : FuncId) (args : List Value) (H : Hp) (fn : Option Func) : Out := match fn with
  | some fn => enterCall T ih f fn args H
  | none => .bad 8
/-! ### calls that are known -/
def valsEq (l : List Value) : List Value → Bool := List.rec (motive := fun _ => List Value → Bool) (fun m => List.rec (motive := fun _ => Bool) true (fun _ _ _ => false) m) (fun v _ ih m => List.rec (motive := fun _ => Bool) false (fun u m2 _ => ite' (valEq v u) (ih m2) false) m) l
theorem valsEq_eq : ∀ {l m : List Value}, valsEq l m = true → l = m
  | [], [], _ => rfl
  | [], _ :: _, h => by cases h
  | _ :: _, [], h => by cases h
  | v :: l, u :: m, h => by
    change ite' (valEq v u) (valsEq l m) false = true at h
    obtain ⟨h1, h2⟩ := ite'_true_eq h
    rw [valEq_eq h1, valsEq_eq h2]
def eq1 (a b : Value) : Bool := match a with
  | .agg us => (match b with
    | .agg vs => valsEq us.toList vs.toList
    | _ => false)
  | a => valEq a b
theorem eq1_eq {a b : Value} (h : eq1 a b = true) : a = b := by
  unfold eq1 at h
  split at h
  · split at h
    · rename_i us _ vs
      rw [show us = vs from Array.toList_inj.1 (valsEq_eq h)]
    · cases h
  · exact valEq_eq h
def eq1L (l : List Value) : List Value → Bool := List.rec (motive := fun _ => List Value → Bool) (fun m => List.rec (motive := fun _ => Bool) true (fun _ _ _ => false) m) (fun v _ ih m => List.rec (motive := fun _ => Bool) false (fun u m2 _ => ite' (eq1 v u) (ih m2) false) m) l
theorem eq1L_eq : ∀ {l m : List Value}, eq1L l m = true → l = m
  | [], [], _ => rfl
  | [], _ :: _, h => by cases h
  | _ :: _, [], h => by cases h
  | v :: l, u :: m, h => by
    change ite' (eq1 v u) (eq1L l m) false = true at h
    obtain ⟨h1, h2⟩ := ite'_true_eq h
    rw [eq1_eq h1, eq1L_eq h2]
/-- arguments: plain, or structs of plain parts. -/
def constL (l : List Value) : Bool := List.rec (motive := fun _ => Bool) true (fun v _ ih => ite' (constOk v) ih false) l
theorem constL_ok {E : Env} {N : Nat} : ∀ {l : List Value}, constL l = true → VL E N l l
  | [], _ => .nil
  | v :: l, h => by
    obtain ⟨h1, h2⟩ := ite'_true_eq (show ite' (constOk v) (constL l) false = true from h)
    exact .cons (constOk_ok h1) (constL_ok h2)
theorem constL_eq {E : Env} {N : Nat} : ∀ {l l' : List Value}, constL l = true → VL E N l l' → l' = l
  | [], _, _, .nil => rfl
  | v :: l, _, h, .cons (v' := v') (l' := l') hv ht => by
    obtain ⟨h1, h2⟩ := ite'_true_eq (show ite' (constOk v) (constL l) false = true from h)
    rw [agg_eq h1 hv, constL_eq h2 ht]
def orcFind (l : List (List Value × Value)) (args : List Value) : Option Value := List.rec (motive := fun _ => Option Value) none (fun p _ ih => ite' (eq1L p.1 args) (some p.2) ih) l
theorem orcFind_mem : ∀ {l : List (List Value × Value)} {args : List Value} {v : Value}, orcFind l args = some v → (args, v) ∈ l
  | [], _, _, h => by cases h
  | p :: l, args, v, h => by
    change ite' (eq1L p.1 args) (some p.2) (orcFind l args) = some v at h
    cases hb : eq1L p.1 args with
    | true =>
      rw [hb] at h; cases h
      rw [← eq1L_eq hb]; exact List.mem_cons_self ..
    | false => rw [hb] at h; exact List.mem_cons_of_mem _ (orcFind_mem h)
theorem plain_eq {E : Env} {N : Nat} {v v' : Value} (hp : plainV v = true) (h : VR E N v v') : v' = v := by
  cases h with
  | same _ => rfl
  | ptr _ => cases hp
  | slice _ _ => cases hp
  | open_ _ _ _ _ => cases hp
  | map _ => cases hp
  | agg _ => cases hp
  | tuple _ => cases hp
  | iface _ => cases hp
  | tail => cases hp
  | @clo f l l' m m' h k =>
    simp [plainV] at hp
    obtain ⟨rfl, rfl⟩ := hp
    cases h; cases k; rfl
theorem plainL_eq {E : Env} {N : Nat} : ∀ {l l' : List Value}, plainL l = true → VL E N l l' → l' = l
  | [], _, _, .nil => rfl
  | v :: l, _, h, .cons (v' := v') (l' := l') hv ht => by
    change ite' (plainV v) (plainL l) false = true at h
    obtain ⟨h1, h2⟩ := ite'_true_eq h
    rw [plain_eq h1 hv, plainL_eq h2 ht]
/-- a result: plain, or several plain ones. -/
def resOk (v : Value) : Bool := match v with
  | .tuple vs => plainL vs.toList
  | v => plainV v
theorem resOk_vr {E : Env} {N : Nat} {v : Value} (h : resOk v = true) : VR E N v v := by
  unfold resOk at h
  split at h
  · rename_i vs
    have := VR.tuple (plainL_ok (E := E) (N := N) h)
    simpa using this
  · exact .same h
theorem resOk_eq {E : Env} {N : Nat} {v v' : Value} (h : resOk v = true) (hv : VR E N v v') : v' = v := by
  unfold resOk at h
  split at h
  · rename_i vs
    obtain ⟨l', e, r⟩ := hv.tup
    rw [e, plainL_eq h r]
  · exact plain_eq h hv
/-! ### package-level tables that are only read -/
def romT (tabs : List (Nat × List Value)) : Tr Blk := List.rec (motive := fun _ => Tr Blk) .nil (fun p _ ih => ih.put p.1 (some (.rom (Tr.lay p.2 0 .nil)))) tabs
theorem romT_get : ∀ {tabs : List (Nat × List Value)} {b : Nat} {x : Blk}, (romT tabs).get b = some x → ∃ l, (b, l) ∈ tabs ∧ x = .rom (Tr.lay l 0 .nil)
  | [], b, x, h => by cases h
  | p :: tabs, b, x, h => by
    change ((romT tabs).put p.1 (some (.rom (Tr.lay p.2 0 .nil)))).get b = some x at h
    rw [Tr.get_put] at h
    split at h
    · rename_i e; subst e; cases h
      exact ⟨p.2, List.mem_cons_self .., rfl⟩
    · obtain ⟨l, h1, h2⟩ := romT_get h
      exact ⟨l, List.mem_cons_of_mem _ h1, h2⟩
/-- what is known of a call: whatever lies in memory, as long as the tables do. -/
structure OrcOk (P : Program) (g : Nat) (tabs : List (Nat × List Value)) (f : FuncId) (args : List Value) (v : Value) : Prop where
  fn : ∃ fn, P.funcs[f]? = some fn ∧ (fn.name == "runtime.NumGoroutine") = false ∧ fn.body.isNone = false
  pa : constL args = true
  pr : resOk v = true
  call : ∀ E w, HRel E ⟨romT tabs, g⟩ w → (∀ b, b < g → E.s b = b) → Calls P f args.toArray w fun e w' => e = .returned v ∧ Below w.heap.size w w'
def OrOk (P : Program) (T : Cx) : Prop := ∀ f l, T.orc.get f = some l → ∀ args v, (args, v) ∈ l → OrcOk P T.g T.tabs f args v
def romLe (c : Tr Value) (l : List Value) : Nat → Bool := List.rec (motive := fun _ => Nat → Bool) (fun _ => true) (fun v _ ih i => match c.get i with
  | some u => ite' (valEq v u) (ih (Nat.succ i)) false
  | none => false) l
def romsOk (H : Hp) (tabs : List (Nat × List Value)) : Bool := List.rec (motive := fun _ => Bool) true (fun p _ ih => match H.b.get p.1 with
  | some (.rom c) => ite' (romLe c p.2 0) ih false
  | _ => false) tabs
theorem romLe_ok {c : Tr Value} : ∀ {l : List Value} {i : Nat}, romLe c l i = true → ∀ j v, l[j]? = some v → c.get (i + j) = some v
  | [], _, _, j, v, hj => by simp at hj
  | u :: l, i, h, j, v, hj => by
    change (match c.get i with
      | some x => ite' (valEq u x) (romLe c l (i + 1)) false
      | none => false) = true at h
    split at h
    · rename_i x hx
      obtain ⟨h1, h2⟩ := ite'_true_eq h
      cases j with
      | zero => simp at hj; subst hj; rw [Nat.add_zero, hx, valEq_eq h1]
      | succ j =>
        have := romLe_ok h2 j v (by simpa using hj)
        rw [← this]; congr 1; omega
    · cases h
theorem romsOk_ok {H : Hp} : ∀ {tabs : List (Nat × List Value)}, romsOk H tabs = true → ∀ p ∈ tabs, ∃ c, H.b.get p.1 = some (.rom c) ∧ ∀ j v, p.2[j]? = some v → c.get j = some v
  | [], _, p, hp => by cases hp
  | q :: tabs, h, p, hp => by
    change (match H.b.get q.1 with
      | some (.rom c) => ite' (romLe c q.2 0) (romsOk H tabs) false
      | _ => false) = true at h
    split at h
    · rename_i c hc
      obtain ⟨h1, h2⟩ := ite'_true_eq h
      rcases List.mem_cons.1 hp with e | e
      · subst e; exact ⟨c, hc, fun j v hj => by have := romLe_ok h1 j v hj; rwa [Nat.zero_add] at this⟩
      · exact romsOk_ok h2 p e
    · cases h
theorem roms_rel {E : Env} {H : Hp} {w : World} (hr : HRel E H w) {g : Nat} {tabs : List (Nat × List Value)} (ht : ∀ p ∈ tabs, p.1 < g ∧ plainL p.2 = true) (h : romsOk H tabs = true) : HRel E ⟨romT tabs, g⟩ w := by
  refine ⟨fun b x hx => ?_, fun b x hx => ?_, fun b b' x x' h1 h2 he => ?_⟩
  · obtain ⟨l, h1, _⟩ := romT_get hx
    exact (ht _ h1).1
  · obtain ⟨l, h1, h2⟩ := romT_get hx
    subst h2
    obtain ⟨c, hc, hcv⟩ := romsOk_ok h _ h1
    obtain ⟨cs, e, fz, q1, q2⟩ := hr.rel _ _ hc
    refine ⟨cs, e, fz, q1, fun i v hv => ?_⟩
    rw [Tr.get_lay] at hv
    split at hv
    · have hv2 : l[i]? = some v := by simpa using hv
      obtain ⟨v', e1, r⟩ := q2 i v (hcv i v hv2)
      have hp : plainV v = true := by
        have hall : ∀ (l : List Value), plainL l = true → ∀ v ∈ l, plainV v = true := by
          intro l
          induction l with
          | nil => intro _ v hv; cases hv
          | cons u l ih =>
            intro h v hv
            obtain ⟨h1, h2⟩ := ite'_true_eq (show ite' (plainV u) (plainL l) false = true from h)
            rcases List.mem_cons.1 hv with e | e
            · subst e; exact h1
            · exact ih h2 v e
        exact hall l (ht _ h1).2 v (List.mem_of_getElem? hv2)
      rw [plain_eq hp r] at e1
      exact ⟨v, e1, .same hp⟩
    · cases hv
  · obtain ⟨l, q1, _⟩ := romT_get h1
    obtain ⟨l', q1', _⟩ := romT_get h2
    obtain ⟨c, hc, _⟩ := romsOk_ok h _ q1
    obtain ⟨c', hc', _⟩ := romsOk_ok h _ q1'
    exact hr.inj _ _ _ _ hc hc' he
def orcCall (T : Cx) (ih : Cmd → Out) (f : FuncId) (args : List Value) (H : Hp) (v : Option Value) : Out := Option.rec (motive := fun _ => Out) (callStep T ih f args H (T.fn.get f)) (fun v => ite' (romsOk H T.tabs) (.call v H) (.bad 40)) v
def orcStep (T : Cx) (ih : Cmd → Out) (f : FuncId) (args : List Value) (H : Hp) (l : Option (List (List Value × Value))) : Out := Option.rec (motive := fun _ => Out) (callStep T ih f args H (T.fn.get f)) (fun l => orcCall T ih f args H (orcFind l args)) l
/-! ### answers that hold memory -/
def VRow.blk (r : VRow) : Blk := .row (Tr.lay r.l 0 .nil) r.l.length r.e r.o
def refs1 (lo : Nat) (v : Value) : Bool := match v with
  | .pointer (some p) => Nat.ble lo p.block
  | .slice (some p) _ _ => Nat.ble lo p.block
  | .map (some r) => Nat.ble lo r
  | v => plainV v
def refs1L (lo : Nat) (l : List Value) : Bool := List.rec (motive := fun _ => Bool) true (fun v _ ih => ite' (refs1 lo v) ih false) l
def refs2 (lo : Nat) (v : Value) : Bool := match v with
  | .agg cs => refs1L lo cs.toList
  | v => refs1 lo v
def refs2L (lo : Nat) (l : List Value) : Bool := List.rec (motive := fun _ => Bool) true (fun v _ ih => ite' (refs2 lo v) ih false) l
def refsB (lo : Nat) (v : Value) : Bool := match v with
  | .tuple vs => refs2L lo vs.toList
  | v => refs2 lo v
section
variable {E E' : Env} {N N' lo : Nat} (hE : ∀ b, lo ≤ b → E'.s b = E.s b ∧ E'.k b = E.k b) (hN : N ≤ N')
include hE hN
theorem refs1_re {v v' : Value} (h : VR E N v v') (hr : refs1 lo v = true) : VR E' N' v v' := by
  cases h with
  | same h => exact .same h
  | ptr h => rw [← (hE _ (Nat.le_of_ble_eq_true hr)).1]; exact .ptr (Nat.lt_of_lt_of_le h hN)
  | slice h hc => rw [← (hE _ (Nat.le_of_ble_eq_true hr)).1]; exact .slice (Nat.lt_of_lt_of_le h hN) hc
  | open_ h hc hl hk => rw [← (hE _ (Nat.le_of_ble_eq_true hr)).1]; exact .open_ (Nat.lt_of_lt_of_le h hN) hc hl (hk.trans (hE _ (Nat.le_of_ble_eq_true hr)).2.symm)
  | map h => rw [← (hE _ (Nat.le_of_ble_eq_true hr)).1]; exact .map (Nat.lt_of_lt_of_le h hN)
  | agg _ => cases hr
  | tuple _ => cases hr
  | iface _ => cases hr
  | tail => cases hr
  | @clo f l l' m m' h k =>
    have hp : plainV (.func (.func f) l.toArray m.toArray) = true := hr
    have e := plain_eq (E := E) (N := N) hp (.clo h k)
    rw [e]; exact .same hp
theorem refs1L_re : ∀ {l l' : List Value}, VL E N l l' → refs1L lo l = true → VL E' N' l l'
  | _, _, .nil, _ => .nil
  | _, _, .cons (v := v) (l := l) h t, hr => by
    obtain ⟨h1, h2⟩ := ite'_true_eq (show ite' (refs1 lo v) (refs1L lo l) false = true from hr)
    exact .cons (refs1_re hE hN h h1) (refs1L_re t h2)
theorem refs2_re {v v' : Value} (h : VR E N v v') (hr : refs2 lo v = true) : VR E' N' v v' := by
  unfold refs2 at hr
  split at hr
  · rename_i cs
    obtain ⟨l', e, r⟩ := h.ag
    rw [e]
    have := VR.agg (refs1L_re hE hN r hr)
    simpa using this
  · exact refs1_re hE hN h hr
theorem refs2L_re : ∀ {l l' : List Value}, VL E N l l' → refs2L lo l = true → VL E' N' l l'
  | _, _, .nil, _ => .nil
  | _, _, .cons (v := v) (l := l) h t, hr => by
    obtain ⟨h1, h2⟩ := ite'_true_eq (show ite' (refs2 lo v) (refs2L lo l) false = true from hr)
    exact .cons (refs2_re hE hN h h1) (refs2L_re t h2)
theorem refsB_re {v v' : Value} (h : VR E N v v') (hr : refsB lo v = true) : VR E' N' v v' := by
  unfold refsB at hr
  split at hr
  · rename_i vs
    obtain ⟨l', e, r⟩ := h.tup
    rw [e]
    have := VR.tuple (refs2L_re hE hN r hr)
    simpa using this
  · exact refs2_re hE hN h hr
end
theorem refs1L_mem {lo : Nat} : ∀ {l : List Value}, refs1L lo l = true → ∀ v ∈ l, refs1 lo v = true
  | [], _, v, hv => by cases hv
  | u :: l, h, v, hv => by
    obtain ⟨h1, h2⟩ := ite'_true_eq (show ite' (refs1 lo u) (refs1L lo l) false = true from h)
    rcases List.mem_cons.1 hv with e | e
    · subst e; exact h1
    · exact refs1L_mem h2 v e
structure VOk (P : Program) (g : Nat) (tabs : List (Nat × List Value)) (f : FuncId) (q : VO) : Prop where
  fn : ∃ fn, P.funcs[f]? = some fn ∧ (fn.name == "runtime.NumGoroutine") = false ∧ fn.body.isNone = false
  pa : constL q.args = true
  le : q.lo ≤ q.hi
  rv : refsB q.lo q.v = true
  rb : ∀ r ∈ q.bs, q.lo ≤ r.b ∧ r.b < q.hi ∧ refs1L q.lo r.l = true
  call : ∀ E w, HRel E ⟨romT tabs, g⟩ w → (∀ b, b < g → E.s b = b) → Calls P f q.args.toArray w fun e w' => ∃ Ev v', e = .returned v' ∧ VR Ev q.hi q.v v' ∧ Below w.heap.size w w' ∧ (∀ r ∈ q.bs, BR Ev q.hi r.b r.blk w'.heap[Ev.s r.b]? ∧ w.heap.size ≤ Ev.s r.b) ∧ (∀ r ∈ q.bs, ∀ r' ∈ q.bs, Ev.s r.b = Ev.s r'.b → r.b = r'.b)
def OvOk (P : Program) (T : Cx) : Prop := ∀ f l, T.orv.get f = some l → ∀ q ∈ l, VOk P T.g T.tabs f q
def putRows (bs : List VRow) (t : Tr Blk) : Tr Blk := List.rec (motive := fun _ => Tr Blk) t (fun r _ ih => ih.put r.b (some r.blk)) bs
theorem putRows_get {t : Tr Blk} {b : Nat} {x : Blk} : ∀ {bs : List VRow}, (putRows bs t).get b = some x → (∃ r ∈ bs, r.b = b ∧ x = r.blk) ∨ t.get b = some x
  | [], h => .inr h
  | r :: bs, h => by
    change ((putRows bs t).put r.b (some r.blk)).get b = some x at h
    rw [Tr.get_put] at h
    split at h
    · rename_i e; cases h
      exact .inl ⟨r, List.mem_cons_self .., e.symm, rfl⟩
    · rcases putRows_get h with ⟨r', h1, h2⟩ | h1
      · exact .inl ⟨r', List.mem_cons_of_mem _ h1, h2⟩
      · exact .inr h1
def orvFind (l : List VO) (args : List Value) (n : Nat) : Option VO := List.rec (motive := fun _ => Option VO) none (fun p _ ih => ite' (ite' (eq1L p.args args) (Nat.ble n p.lo) false) (some p) ih) l
theorem orvFind_mem {n : Nat} : ∀ {l : List VO} {args : List Value} {q : VO}, orvFind l args n = some q → q ∈ l ∧ q.args = args
  | [], _, _, h => by cases h
  | p :: l, args, q, h => by
    change ite' (ite' (eq1L p.args args) (Nat.ble n p.lo) false) (some p) (orvFind l args n) = some q at h
    cases hb : ite' (eq1L p.args args) (Nat.ble n p.lo) false with
    | true =>
      rw [hb] at h; cases h
      exact ⟨List.mem_cons_self .., eq1L_eq (ite'_true_eq hb).1⟩
    | false =>
      rw [hb] at h
      obtain ⟨h1, h2⟩ := orvFind_mem h
      exact ⟨List.mem_cons_of_mem _ h1, h2⟩
def orvCall (T : Cx) (ih : Cmd → Out) (f : FuncId) (args : List Value) (H : Hp) (q : Option VO) : Out := Option.rec (motive := fun _ => Out) (orcStep T ih f args H (T.orc.get f)) (fun q => ite' (romsOk H T.tabs) (ite' (Nat.ble H.next q.lo) (.call q.v ⟨putRows q.bs H.b, q.hi⟩) (.bad 41)) (.bad 42)) q
def orvStep (T : Cx) (ih : Cmd → Out) (f : FuncId) (args : List Value) (H : Hp) (l : Option (List VO)) : Out := Option.rec (motive := fun _ => Out) (orcStep T ih f args H (T.orc.get f)) (fun l => orvCall T ih f args H (orvFind l args H.next)) l
/-- the answer is put into memory. -/
theorem VOk.use {P : Program} {g : Nat} {tabs : List (Nat × List Value)} {f : FuncId} {q : VO} (h : VOk P g tabs f q) {E : Env} {H : Hp} {w : World} (hr : HRel E H w) (ht : ∀ p ∈ tabs, p.1 < g ∧ plainL p.2 = true) (hrom : romsOk H tabs = true) (hg : ∀ b, b < g → E.s b = b) (hle : H.next ≤ q.lo) :
    Calls P f q.args.toArray w fun e w' => ∃ E' v', e = .returned v' ∧ Gd E E' H ⟨putRows q.bs H.b, q.hi⟩ w w' ∧ VR E' q.hi q.v v' ∧ HRel E' ⟨putRows q.bs H.b, q.hi⟩ w' := by
  refine (h.call E w (roms_rel hr ht hrom) hg).mono fun e w' hh => ?_
  obtain ⟨Ev, v', he, hv, hb, hrow, hinj⟩ := hh
  have hnam : ∀ b x, H.b.get b = some x → E.s b < w.heap.size := fun b x hbx => by
    have := hr.rel b x hbx
    unfold BR at this
    split at this
    · obtain ⟨cs, fz, h1, _⟩ := this; exact (Array.getElem?_eq_some_iff.1 h1).1
    · obtain ⟨es', h1, _⟩ := this; exact (Array.getElem?_eq_some_iff.1 h1).1
    · exact (Array.getElem?_eq_some_iff.1 this).1
    · obtain ⟨cs, e, fz, h1, _⟩ := this; exact (Array.getElem?_eq_some_iff.1 h1).1
  obtain ⟨E2, hE2⟩ : ∃ E2 : Env, E2 = ⟨fun b => if q.lo ≤ b then Ev.s b else E.s b, fun b => if q.lo ≤ b then Ev.k b else E.k b⟩ := ⟨_, rfl⟩
  have hhi : ∀ b, q.lo ≤ b → E2.s b = Ev.s b ∧ E2.k b = Ev.k b := fun b hb => by rw [hE2]; simp [hb]
  have hlo : ∀ b, b < q.lo → E2.s b = E.s b ∧ E2.k b = E.k b := fun b hb => by
    have : ¬ q.lo ≤ b := by omega
    rw [hE2]; simp [this]
  have hag : Agree E E2 H.next := fun b hb => hlo b (by omega)
  have hnew : ∀ r ∈ q.bs, BR E2 q.hi r.b r.blk w'.heap[E2.s r.b]? := fun r hm => by
    obtain ⟨h1, h2, h3⟩ := h.rb r hm
    rw [(hhi _ h1).1]
    obtain ⟨cs, fz, g1, g2, g3, g4, g5⟩ := (hrow r hm).1
    refine ⟨cs, fz, g1, g2, g3, by rw [(hhi _ h1).2]; exact g4, fun i v hi hv => ?_⟩
    obtain ⟨u, e1, r1⟩ := g5 i v hi hv
    refine ⟨u, e1, refs1_re hhi (Nat.le_refl _) r1 ?_⟩
    rw [Tr.get_lay] at hv
    split at hv
    · exact refs1L_mem h3 v (List.mem_of_getElem? hv)
    · cases hv
  refine ⟨E2, v', he, ⟨by show H.next ≤ q.hi; have := h.le; omega, hag, fun b x hx => ?_, hb.os, hb.tape, hb.output, hb.size, fun i hi _ => hb.block i hi⟩, refsB_re hhi (Nat.le_refl _) hv h.rv, ⟨fun b x hx => ?_, fun b x hx => ?_, fun b b' x x' h1 h2 he => ?_⟩⟩
  · rcases putRows_get hx with ⟨r, hm, e1, e2⟩ | h1
    · refine .inr ?_
      rw [← e1, (hhi _ (h.rb r hm).1).1]
      exact (hrow r hm).2
    · exact .inl ⟨b, x, h1, fun h => h, (hlo b (by have := hr.lt _ _ h1; omega)).1⟩
  · show b < q.hi
    rcases putRows_get hx with ⟨r, hm, e1, e2⟩ | h1
    · rw [← e1]; exact (h.rb r hm).2.1
    · have := hr.lt _ _ h1
      have := h.le
      omega
  · rcases putRows_get hx with ⟨r, hm, e1, e2⟩ | h1
    · subst e1 e2; exact hnew r hm
    · rw [(hag b (hr.lt _ _ h1)).1, hb.block _ (hnam b x h1)]
      exact (hr.rel _ _ h1).mono hag (by show H.next ≤ q.hi; have := h.le; omega) (hr.lt _ _ h1)
  · have hbig : ∀ r ∈ q.bs, w.heap.size ≤ E2.s r.b := fun r hm => by rw [(hhi _ (h.rb r hm).1).1]; exact (hrow r hm).2
    rcases putRows_get h1 with ⟨r, hm, e1, _⟩ | k1 <;> rcases putRows_get h2 with ⟨r', hm', e1', _⟩ | k2
    · subst e1 e1'
      rw [(hhi _ (h.rb r hm).1).1, (hhi _ (h.rb r' hm').1).1] at he
      exact hinj r hm r' hm' he
    · subst e1
      have := hbig r hm
      have h3 := hnam _ _ k2
      rw [(hag _ (hr.lt _ _ k2)).1] at he
      omega
    · subst e1'
      have := hbig r' hm'
      have h3 := hnam _ _ k1
      rw [(hag _ (hr.lt _ _ k1)).1] at he
      omega
    · rw [(hag _ (hr.lt _ _ k1)).1, (hag _ (hr.lt _ _ k2)).1] at he
      exact hr.inj _ _ _ _ k1 k2 he
/-! ### strings.Join -/
def strS (v : Value) : Option ByteArray := match v with
  | .string s => some s
  | _ => none
def strS2 (s : ByteArray) (r : Option (List ByteArray)) : Option (List ByteArray) := Option.rec (motive := fun _ => Option (List ByteArray)) none (fun r => some (s :: r)) r
def strS1 (v : Option ByteArray) (r : Option (List ByteArray)) : Option (List ByteArray) := Option.rec (motive := fun _ => Option (List ByteArray)) none (fun s => strS2 s r) v
def strsOf (l : List Value) : Option (List ByteArray) := List.rec (motive := fun _ => Option (List ByteArray)) (some []) (fun v _ ih => strS1 (strS v) ih) l
theorem strS_eq {v : Value} {s : ByteArray} (h : strS v = some s) : v = .string s := by
  unfold strS at h
  split at h <;> cases h
  rfl
theorem strsOf_eq : ∀ {l : List Value} {r : List ByteArray}, strsOf l = some r → l = r.map Value.string
  | [], r, h => by cases h; rfl
  | v :: l, r, h => by
    change strS1 (strS v) (strsOf l) = some r at h
    cases hv : strS v with
    | none => rw [hv] at h; cases h
    | some s =>
      rw [hv] at h
      change strS2 s (strsOf l) = some r at h
      cases hr : strsOf l with
      | none => rw [hr] at h; cases h
      | some r1 =>
        rw [hr] at h
        cases h
        rw [strS_eq hv, strsOf_eq hr]; rfl
def joinTB (sep : List UInt8) (l : List ByteArray) : List UInt8 := List.rec (motive := fun _ => List UInt8) [] (fun x _ ih => sep ++ x.data.toList ++ ih) l
def joinB (sep : List UInt8) (l : List ByteArray) : List UInt8 := List.rec (motive := fun _ => List UInt8) [] (fun x r _ => x.data.toList ++ joinTB sep r) l
theorem joinTB_eq (sep : List UInt8) : ∀ l : List ByteArray, joinTB sep l = Lib.joinTail sep (l.map (·.data.toList))
  | [] => rfl
  | x :: l => by
    change sep ++ x.data.toList ++ joinTB sep l = _
    rw [joinTB_eq sep l]; simp [Lib.joinTail]
theorem joinB_eq (sep : List UInt8) : ∀ l : List ByteArray, joinB sep l = Lib.join (l.map (·.data.toList)) sep
  | [] => rfl
  | x :: l => by
    change x.data.toList ++ joinTB sep l = _
    rw [joinTB_eq, List.map_cons, Lib.join_cons]
def jnV3 (sep : List UInt8) (n c : Nat) (l : Option (List ByteArray)) : Option Value := Option.rec (motive := fun _ => Option Value) none (fun l => ite' (Nat.ble 1 n) (ite' (Nat.ble n c) (ite' (Nat.ble n 140737488355328) (ite' (Nat.ble (joinB sep l).length 140737488355328) (some (.string ⟨⟨joinB sep l⟩⟩)) none) none) none) none) l
def jnV2 (sep : List UInt8) (n c : Nat) (l : Option (List Value)) : Option Value := Option.rec (motive := fun _ => Option Value) none (fun l => jnV3 sep n c (strsOf l)) l
def jnV (args : List Value) (H : Hp) : Option Value := match args with
  | [.slice (some ⟨b, o, none⟩) n c, .string sep] => jnV2 sep.data.toList n c (H.cells b o n)
  | _ => none
/-! ### a builder's copyCheck -/
def cpV3 (H : Hp) (b : Nat) (v : Option Value) : Option (Value × Hp) := match v with
  | some (.pointer none) => (match H.store b 0 (.pointer (some ⟨b, 0, none⟩)) with
    | some H1 => some (.tuple #[], H1)
    | none => none)
  | some (.pointer (some ⟨b', 0, none⟩)) => ite' (Nat.beq b' b) (some (.tuple #[], H)) none
  | _ => none
def cpV2 (T : TypeId) (H : Hp) (b : Nat) (x : Option Blk) : Option (Value × Hp) := match x with
  | some (.row c n e opn) => ite' (Nat.beq n 2) (ite' (Nat.beq e T) (ite' opn none (cpV3 H b (c.get 0))) none) none
  | _ => none
def cpV (T : TypeId) (args : List Value) (H : Hp) : Option (Value × Hp) := match args with
  | [.pointer (some ⟨b, 0, none⟩)] => cpV2 T H b (H.b.get b)
  | _ => none
def jnP (v : Option Value) (H : Hp) : Option (Value × Hp) := match v with
  | some v => some (v, H)
  | none => none
def natV (k : Nat) (args : List Value) (H : Hp) : Option (Value × Hp) := ite' (Nat.beq k 2) (jnP (jnV args H) H) (ite' (Nat.ble 3 k) (ite' (Nat.beq (Nat.mod k 2) 1) (cpV (Nat.div (Nat.sub k 3) 2) args H) none) none)
def natStep (o : Out) (r : Option (Value × Hp)) : Out := match r with
  | some (v, H1) => .call v H1
  | none => o
def jnStep (T : Cx) (ih : Cmd → Out) (f : FuncId) (args : List Value) (H : Hp) (q : Option (TypeId × TypeId)) : Out := Option.rec (motive := fun _ => Out) (orvStep T ih f args H (T.orv.get f)) (fun q => ite' (Nat.beq q.2 0) (natStep (orvStep T ih f args H (T.orv.get f)) (natV q.1 args H)) (orvStep T ih f args H (T.orv.get f))) q
theorem even_ne (n : Nat) (h : (2 * n + 4) % 2 = 1) : False := by omega
theorem cp_ok {P : Program} {f : FuncId} {T : TypeId} (hj : CopyAt P f T) {args : List Value} {v : Value} {H H1 : Hp} (h : cpV T args H = some (v, H1)) {E : Env} {args' : List Value} {w : World} (hv : VL E H.next args args') (hr : HRel E H w) :
    Calls P f args'.toArray w fun e w' => e = .returned v ∧ plainV v = false ∧ v = .tuple #[] ∧ Gd E E H H1 w w' ∧ HRel E H1 w' := by
  unfold cpV at h
  split at h
  · rename_i b
    unfold cpV2 at h
    split at h
    · rename_i c n e opn hb
      obtain ⟨k1, h1⟩ := ite'_some h
      clear h
      obtain ⟨k2, h2⟩ := ite'_some h1
      clear h1
      obtain ⟨k3, h⟩ := ite'_none h2
      clear h2
      replace k1 := Nat.eq_of_beq_eq_true k1
      replace k2 := Nat.eq_of_beq_eq_true k2
      subst k1 k2 k3
      have hargs : args' = [.pointer (some ⟨E.s b, 0, none⟩)] := by
        cases hv with
        | cons h1 h2 =>
          cases h2
          obtain ⟨_, _, e1⟩ := h1.pptr
          rw [e1]
      subst hargs
      obtain ⟨cs, fz, o1, z1, o2, o3, o4⟩ := hr.rel _ _ hb
      rw [z1.2 rfl] at o1
      have hsz : cs.size = 2 := o3
      unfold cpV3 at h
      split at h
      · rename_i hc0
        split at h
        · rename_i H2 hst
          cases h
          have hbn := hr.lt _ _ hb
          obtain ⟨v', e1, r1⟩ := o4 0 _ (by decide) hc0
          have hcell : w.cell? ⟨E.s b, 0, none⟩ = some (.pointer none) := by
            rw [← r1.pnil]; simp [World.cell?, o1, e1]
          obtain ⟨_, hfz, hr1, hg1⟩ := hr.store hst (v' := .pointer (some ⟨E.s b, 0, none⟩)) (.ptr hbn)
          refine (hj.2.1 (E.s b) w hcell (by simp [World.shape?, o1, hsz]) hfz).mono fun en w' hh => ?_
          obtain ⟨rfl, rfl⟩ := hh
          exact ⟨rfl, rfl, rfl, hg1, hr1⟩
        · cases h
      · rename_i b' hc0
        obtain ⟨k3, h3⟩ := ite'_some h
        clear h
        replace k3 := Nat.eq_of_beq_eq_true k3
        subst k3
        cases h3
        obtain ⟨v', e1, r1⟩ := o4 0 _ (by decide) hc0
        obtain ⟨_, _, e2⟩ := r1.pptr
        have hcell : w.cell? ⟨E.s b', 0, none⟩ = some (.pointer (some ⟨E.s b', 0, none⟩)) := by
          rw [e2] at e1
          simp [World.cell?, o1, e1]
        refine (hj.2.2 (E.s b') w hcell).mono fun en w' hh => ?_
        obtain ⟨rfl, rfl⟩ := hh
        exact ⟨rfl, rfl, rfl, Gd.refl _ _ _, hr⟩
      · cases h
    · cases h
  · cases h
theorem VL_str {E : Env} {N : Nat} : ∀ {xs : List ByteArray} {l' : List Value}, VL E N (xs.map Value.string) l' → l' = xs.map Value.string
  | [], l', h => by cases h; rfl
  | x :: xs, l', h => by
    cases h with
    | cons h1 h2 => rw [h1.string, VL_str h2]; rfl
theorem jn_ok {P : Program} {f : FuncId} (hj : JoinAt P f) {args : List Value} {v : Value} {H : Hp} (h : jnV args H = some v) {E : Env} {args' : List Value} {w : World} (hv : VL E H.next args args') (hr : HRel E H w) :
    (Calls P f args'.toArray w fun e w' => e = .returned v ∧ Below w.heap.size w w') ∧ plainV v = true := by
  unfold jnV at h
  split at h
  · rename_i b o n c sep
    unfold jnV2 at h
    cases hc : H.cells b o n with
    | none => rw [hc] at h; cases h
    | some l =>
      rw [hc] at h
      change jnV3 sep.data.toList n c (strsOf l) = some v at h
      unfold jnV3 at h
      cases hs : strsOf l with
      | none => rw [hs] at h; cases h
      | some xs =>
        rw [hs] at h
        obtain ⟨h0, h⟩ := ite'_some h
        obtain ⟨h1, h⟩ := ite'_some h
        obtain ⟨h2, h⟩ := ite'_some h
        obtain ⟨h3, h⟩ := ite'_some h
        cases h
        refine ⟨?_, rfl⟩
        have h0 := Nat.le_of_ble_eq_true h0
        have h1 := Nat.le_of_ble_eq_true h1
        have h2 := Nat.le_of_ble_eq_true h2
        have h3 := Nat.le_of_ble_eq_true h3
        obtain ⟨hlen, l', hvl, hcell⟩ := hr.cells hc
        have hlx := strsOf_eq hs
        have hn : xs.length = n := by rw [← hlen, hlx, List.length_map]
        subst hn
        rw [hlx] at hvl
        have hl' := VL_str hvl
        subst hl'
        have hbk : E.s b < w.heap.size := by
          have h4 := hcell 0 (by omega)
          refine Nat.lt_of_not_le fun hge => ?_
          have h5 : w.heap[E.s b]? = none := Array.getElem?_eq_none hge
          have h6 : w.cell? ⟨E.s b, o + 0, none⟩ = none := by simp [World.cell?, h5]
          rw [h6] at h4
          have h7 : (xs.map Value.string)[0]? = some ((xs.map Value.string)[0]'(by rw [List.length_map]; exact h0)) := List.getElem?_eq_getElem _
          rw [h7] at h4
          cases h4
        have key : ∀ c', xs.length ≤ c' → Calls P f #[.slice (some ⟨E.s b, o, none⟩) xs.length c', .string sep] w fun e w' => e = .returned (.string ⟨⟨joinB sep.data.toList xs⟩⟩) ∧ Below w.heap.size w w' := fun c' hc' => by
          rw [joinB_eq] at h3 ⊢
          refine hj.2 (E.s b) o c' xs sep w (fun j x hx => ?_) hbk h2 hc' h3
          have hjl : j < xs.length := (List.getElem?_eq_some_iff.1 hx).1
          rw [hcell j hjl, List.getElem?_map, hx]
          rfl
        cases hv with
        | cons hv1 hv2 =>
          cases hv2 with
          | cons hv3 hv4 =>
            cases hv4
            rw [hv3.string]
            cases hv1 with
            | same h => cases h
            | slice hb hc1 => exact key _ h1
            | open_ hb hc1 hl hk => exact key _ hl
  · cases h
def stepA (T : Cx) (ih : Cmd → Out) (c : Cmd) : Out := match c with
  | .code c A H => codeD c T ih A H
  | .call f args H => jnStep T ih f args H (T.bw.get f)
def evN (T : Cx) (n : Nat) : Cmd → Out := Nat.rec (motive := fun _ => Cmd → Out) (fun _ => .bad 9) (fun _ ih => stepA T ih) n
theorem evN_succ (T : Cx) (n : Nat) (c : Cmd) : evN T (n + 1) c = stepA T (evN T n) c := rfl
def LoopsOk (P : Program) (T : Cx) (ih : Cmd → Out) : Prop := ∀ b A H e A' H', ih (.code (.loop b) A H) = .code e A' H' → ndCode b = true → ∃ m, ∀ (ds : List Deferred) (ro : Option Nat), (ro = none ∨ nrCode b = true) → ∀ (E : Env) (a : Act) (w : World), AR ds E H.next A a → HRel E H w → roundsR ro P b (PostM ds e A' H' E H w) m a w
theorem rounds_mono {P : Program} {c : Code} {Q Q' : Exit → Act → World → Prop} (hq : ∀ e a w, Q e a w → Q' e a w) : ∀ (n : Nat) (a : Act) (w : World), Code.rounds P c Q n a w → Code.rounds P c Q' n a w
  | 0, _, _, h => h
  | n + 1, a, w, h => wp_mono h fun x a1 w1 hp => by
    cases x with
    | normal => exact rounds_mono hq n _ _ hp
    | exit id => exact hq _ _ _ hp
    | goto l => exact hq _ _ _ hp
    | ret => exact hq _ _ _ hp
    | panic ch => exact hq _ _ _ hp
    | outgrown => exact hq _ _ _ hp
def resSem (tmps : Array Value) (r : ResultVar) : Sem Value := match r with
  | .tmp t => pure (tmps.getD t undef)
  | .cell q t => do loadVar t (← asAddr (tmps.getD q undef))
theorem results_eq (fn : Func) (tmps : Array Value) : results fn tmps = (do
  let vs ← fn.results.mapM (resSem tmps)
  pure (if h : vs.size = 1 then vs[0] else .tuple vs)) := by
  unfold results
  have : (fun (x : ResultVar) => (match x with
    | .tmp t => pure (tmps.getD t undef)
    | .cell a t => do loadVar t (← asAddr (tmps.getD a undef)) : Sem Value)) = resSem tmps := by
    funext x; cases x <;> rfl
  rw [← this]
  rfl
theorem res1_ok {P : Program} {T : Cx} (hT : Fits P T) {E : Env} {A : AA} {a : Act} {H : Hp} {w : World} (ha : AR ds E H.next A a) (hr : HRel E H w) {r : ResultVar} {v : Value} (hv : res1 T A H r = some v) : ∃ v', VR E H.next v v' ∧ (resSem a.tmps r).run P w = .ok v' w := by
  cases r with
  | tmp t =>
    obtain ⟨v', e1, r⟩ := ha.tm t v hv
    refine ⟨v', r, ?_⟩
    simp [resSem, Array.getD_eq_getD_getElem?, e1]
  | cell q t =>
    change (match A.get q with
      | some (.pointer (some p)) => loadV T H t p.block p.off
      | _ => none) = some v at hv
    split at hv
    · rename_i p hp
      obtain ⟨v', e1, r⟩ := ha.tm q _ hp
      obtain ⟨_, _, e2⟩ := r.pptr
      subst e2
      obtain ⟨u, e3, r3⟩ := loadV_ok (P := P) hT hr hv
      refine ⟨u, r3, ?_⟩
      simp [resSem, Array.getD_eq_getD_getElem?, e1, asAddr, e3]
    · cases hv
theorem resL_ok {P : Program} {T : Cx} (hT : Fits P T) {E : Env} {A : AA} {a : Act} {H : Hp} {w : World} (ha : AR ds E H.next A a) (hr : HRel E H w) : ∀ {l : List ResultVar} {vs : List Value}, resL T A H l = some vs → ∃ vs', VL E H.next vs vs' ∧
    (l.mapM (resSem a.tmps)).run P w = .ok vs' w
  | [], vs, h => by cases h; exact ⟨[], .nil, by simp⟩
  | r :: l, vs, h => by
    change (match res1 T A H r with
      | some v => (match resL T A H l with
        | some l => some (v :: l)
        | none => none)
      | none => none) = some vs at h
    split at h
    · rename_i v hv
      split at h
      · rename_i l2 hl2
        cases h
        obtain ⟨vs', r1, r2⟩ := resL_ok (P := P) hT ha hr hl2
        obtain ⟨v', r3, e3⟩ := res1_ok (P := P) hT ha hr hv
        refine ⟨v' :: vs', .cons r3 r1, ?_⟩
        rw [List.mapM_cons]
        simp [e3, r2]
      · cases h
    · cases h
theorem results_ok {P : Program} {T : Cx} (hT : Fits P T) {E : Env} {A : AA} {a : Act} {H : Hp} {w : World} (ha : AR ds E H.next A a) (hr : HRel E H w) {fn : Func} {v : Value} (h : resultsA T A H fn.results.toList = some v) : ∃ v', VR E H.next v v' ∧ (results fn a.tmps).run P w = .ok v' w := by
  unfold resultsA at h
  rw [results_eq]
  split at h
  · rename_i l hl
    obtain ⟨vs', r1, r2⟩ := resL_ok (P := P) hT ha hr hl
    have hrun : (fn.results.mapM (resSem a.tmps)).run P w = .ok vs'.toArray w := by
      rw [Array.mapM_eq_mapM_toList]
      simp [r2]
    split at h
    · rename_i u
      cases h
      cases r1 with
      | @cons _ v' _ l2 hv ht =>
        cases ht
        refine ⟨v', hv, ?_⟩
        simp [hrun]
    · rename_i hne
      cases h
      refine ⟨.tuple vs'.toArray, .tuple r1, ?_⟩
      have hs : ¬ vs'.length = 1 := fun e => by
        have := r1.length
        rw [e] at this
        match l, this with
        | [x], _ => exact hne x rfl
      simp [hrun, hs]
  · cases h
theorem entry_ok {E : Env} {N : Nat} {T : Cx} {fn : Func} {c : Code} {args args' : List Value} (hv : VL E N args args') (hg : ∀ g, g < T.g → E.s g = g ∧ g < N) : AR [] E N (entryA T fn c args) { tmps := args'.toArray ++ Array.replicate (fn.ntmps - args'.toArray.size) undef, defers := [] } := by
  have hl := hv.length
  refine ⟨rfl, ?_, hg, fun t v h => ?_⟩
  · show (args'.toArray ++ Array.replicate (fn.ntmps - args'.toArray.size) undef).size = Nat.max args.length fn.ntmps
    rw [Array.size_append, Array.size_replicate, List.size_toArray, hl]
    show _ = max _ _
    omega
  · change ite' (bit (kOf fn c) t) ((Tr.lay args 0 .nil).get t) none = some v at h
    obtain ⟨_, h2⟩ := ite'_some h
    obtain ⟨v', e, r⟩ := map_rows hv t v h2
    exact ⟨v', by rw [Array.getElem?_append_left (Array.getElem?_eq_some_iff.1 e).1]; exact e, r⟩
theorem main_ok {P : Program} {T : Cx} (hT : Fits P T) (hm : P.follows .mixedOrders = true) (hTab : ∀ p ∈ T.tabs, p.1 < T.g ∧ plainL p.2 = true) (hO : OrOk P T) (hV : OvOk P T) (hB : BwOk P T) (hND : ∀ f fn c, T.fn.get f = some fn → fn.body = some c → ndCode c = true) : ∀ n, CallsOk P T (evN T n) ∧ CodesOk P T (evN T n) ∧ LoopsOk P T (evN T n)
  | 0 => ⟨fun f args H v H' h => (by cases h), fun c A H e A' H' h => (by cases h), fun b A H e A' H' h => (by cases h)⟩
  | n + 1 => by
    obtain ⟨hC, hD, hL⟩ := main_ok hT hm hTab hO hV hB hND n
    -- two pieces of code, one behind the other
    have hthen : ∀ (c1 c2 : Code) (A : AA) (H : Hp) (e : Ex) (A' : AA) (H' : Hp), thenCode (evN T n) c2 (evN T n (.code c1 A H)) = .code e A' H' → (∃ A1 H1, evN T n (.code c1 A H) = .code .normal A1 H1 ∧ evN T n (.code c2 A1 H1) = .code e A' H') ∨ (e ≠ .normal ∧ evN T n (.code c1 A H) = .code e A' H') := by
      intro c1 c2 A H e A' H' h
      rw [thenCode_def] at h
      split at h
      · exact .inl ⟨_, _, by assumption, h⟩
      · rename_i hne
        refine .inr ⟨fun he => ?_, h⟩
        subst he
        exact hne _ _ h
    have hloop : LoopsOk P T (evN T (n + 1)) := by
      intro b A H e A' H' h hnd
      rw [evN_succ] at h
      change thenCode (evN T n) (.loop b) (evN T n (.code b A H)) = .code e A' H' at h
      rcases hthen b (.loop b) A H e A' H' h with ⟨A1, H1, h1, h2⟩ | ⟨hne, h1⟩
      · obtain ⟨m, hm1⟩ := hL b A1 H1 e A' H' h2 hnd
        refine ⟨m + 1, fun ds ro hro E a w ha hr => ?_⟩
        show wpR ro P b (Exit.then (roundsR ro P b _ _) _) a w
        refine wpR_mono (hD b A H _ _ _ h1 hnd ds ro hro E a w ha hr) fun x a1 w1 hp => ?_
        obtain ⟨hx, E1, ms1, g1, ha1, hr1, hk1⟩ := hp
        subst hx
        exact roundsR_mono (fun x2 a2 w2 hp2 => PostM.comp g1 hr1 hk1 hp2) m _ _ (hm1 _ ro hro E1 a1 w1 ha1 hr1)
      · refine ⟨1, fun ds ro hro E a w ha hr => ?_⟩
        show wpR ro P b (Exit.then (roundsR ro P b _ _) _) a w
        refine wpR_mono (hD b A H _ _ _ h1 hnd ds ro hro E a w ha hr) fun x a1 w1 hp => ?_
        have hx := hp.1
        subst hx
        cases e with
        | normal => exact absurd rfl hne
        | exit id => exact hp
        | ret => exact hp
    refine ⟨fun f args H v H' h => ?_, fun c A H e A' H' h hnd ds ro hro E a w ha hr => ?_, hloop⟩
    · -- a call
      rw [evN_succ] at h
      change jnStep T (evN T n) f args H (T.bw.get f) = .call v H' at h
      have hjn : (JoinAt P f ∧ jnV args H = some v ∧ H' = H) ∨ (∃ Tb, CopyAt P f Tb ∧ cpV Tb args H = some (v, H')) ∨ orvStep T (evN T n) f args H (T.orv.get f) = .call v H' := by
        cases hq : T.bw.get f with
        | none => rw [hq] at h; exact .inr (.inr h)
        | some q =>
          rw [hq] at h
          change ite' (Nat.beq q.2 0) (natStep (orvStep T (evN T n) f args H (T.orv.get f)) (natV q.1 args H)) (orvStep T (evN T n) f args H (T.orv.get f)) = .call v H' at h
          cases h1 : Nat.beq q.2 0 with
          | false => rw [h1] at h; exact .inr (.inr h)
          | true =>
            rw [h1, ite'_true] at h
            have hext := hT.ext f q hq (Nat.eq_of_beq_eq_true h1)
            unfold natStep natV at h
            cases h2 : Nat.beq q.1 2 with
            | true =>
              rw [h2, ite'_true] at h
              cases h3 : jnV args H with
              | none => rw [h3] at h; exact .inr (.inr h)
              | some u =>
                rw [h3] at h
                cases h
                have h2 := Nat.eq_of_beq_eq_true h2
                rcases hext with ⟨h4, _⟩ | ⟨_, h4⟩ | ⟨T0, h4, _⟩ | ⟨T0, h4, _⟩
                · exact absurd h2 h4
                · exact .inl ⟨h4, rfl, rfl⟩
                · omega
                · omega
            | false =>
              rw [h2, ite'_false] at h
              cases h3 : Nat.ble 3 q.1 with
              | false => rw [h3] at h; exact .inr (.inr h)
              | true =>
                rw [h3, ite'_true] at h
                have h3 := Nat.le_of_ble_eq_true h3
                cases hodd : Nat.beq (Nat.mod q.1 2) 1 with
                | false => rw [hodd] at h; exact .inr (.inr h)
                | true =>
                rw [hodd, ite'_true] at h
                replace hodd : q.1 % 2 = 1 := Nat.eq_of_beq_eq_true hodd
                cases h5 : cpV (Nat.div (Nat.sub q.1 3) 2) args H with
                | none => rw [h5] at h; exact .inr (.inr h)
                | some r =>
                  obtain ⟨u, H2⟩ := r
                  rw [h5] at h
                  cases h
                  rcases hext with ⟨_, fn, ee, _, _, _, _, _, h4⟩ | ⟨h4, _⟩ | ⟨T0, h4, h6⟩ | ⟨T0, h4, _⟩
                  · exfalso
                    obtain ⟨k, hk⟩ : ∃ k : Nat, q.1 = k + 3 := ⟨Nat.sub q.1 3, (Nat.sub_add_cancel h3).symm⟩
                    rw [hk] at h4
                    cases h4
                  · omega
                  · have e0 : Nat.div (Nat.sub q.1 3) 2 = T0 := by
                      rw [h4]
                      show (2 * T0 + 3 - 3) / 2 = T0
                      omega
                    rw [e0] at h5
                    exact .inr (.inl ⟨T0, h6, h5⟩)
                  · rw [h4] at hodd; exact (even_ne T0 hodd).elim
      rcases hjn with ⟨hj, hjv, rfl⟩ | ⟨Tb, hcp, hcv⟩ | h
      · refine ⟨hj.1, fun E args' w hv hr hg => ?_⟩
        have hrow : ∀ b x, H'.b.get b = some x → E.s b < w.heap.size := fun b x hbx => by
          have := hr.rel b x hbx
          unfold BR at this
          split at this
          · obtain ⟨cs, fz, h1, _⟩ := this; exact (Array.getElem?_eq_some_iff.1 h1).1
          · obtain ⟨es', h1, _⟩ := this; exact (Array.getElem?_eq_some_iff.1 h1).1
          · exact (Array.getElem?_eq_some_iff.1 this).1
          · obtain ⟨cs, e, fz, h1, _⟩ := this; exact (Array.getElem?_eq_some_iff.1 h1).1
        obtain ⟨hcal, hpl⟩ := jn_ok hj hjv hv hr
        refine hcal.mono fun e w' hh => ?_
        obtain ⟨he, hb⟩ := hh
        exact ⟨E, v, he, ⟨Nat.le_refl _, Agree.refl _ _, fun b x h => .inl ⟨b, x, h, fun h => h, rfl⟩, hb.os, hb.tape, hb.output, hb.size, fun i hi _ => hb.block i hi⟩, .same hpl, ⟨hr.lt, fun b x hbx => by rw [hb.block _ (hrow b x hbx)]; exact hr.rel b x hbx, hr.inj⟩⟩
      · refine ⟨hcp.1, fun E args' w hv hr hg => ?_⟩
        refine (cp_ok hcp hcv hv hr).mono fun e w' hh => ?_
        obtain ⟨he, _, hv0, hg0, hr0⟩ := hh
        subst hv0
        exact ⟨E, _, he, hg0, .tuple (l := []) (l' := []) .nil, hr0⟩
      change orvStep T (evN T n) f args H (T.orv.get f) = .call v H' at h
      have horv : (∃ q, VOk P T.g T.tabs f q ∧ q.args = args ∧ romsOk H T.tabs = true ∧ H.next ≤ q.lo ∧ v = q.v ∧ H' = ⟨putRows q.bs H.b, q.hi⟩) ∨ orcStep T (evN T n) f args H (T.orc.get f) = .call v H' := by
        cases hl : T.orv.get f with
        | none => rw [hl] at h; exact .inr h
        | some l =>
          rw [hl] at h
          change orvCall T (evN T n) f args H (orvFind l args H.next) = .call v H' at h
          cases hv : orvFind l args H.next with
          | none => rw [hv] at h; exact .inr h
          | some q =>
            rw [hv] at h
            change ite' (romsOk H T.tabs) (ite' (Nat.ble H.next q.lo) (Out.call q.v ⟨putRows q.bs H.b, q.hi⟩) (.bad 41)) (.bad 42) = .call v H' at h
            obtain ⟨hq1, hq2⟩ := orvFind_mem hv
            cases hb : romsOk H T.tabs with
            | false => rw [hb] at h; cases h
            | true =>
              rw [hb, ite'_true] at h
              cases hb2 : Nat.ble H.next q.lo with
              | false => rw [hb2] at h; cases h
              | true =>
                rw [hb2] at h
                cases h
                exact .inl ⟨q, hV f l hl q hq1, hq2, rfl, Nat.le_of_ble_eq_true hb2, rfl, rfl⟩
      rcases horv with ⟨q, hq, hqa, hrom, hle, rfl, rfl⟩ | h
      · refine ⟨hq.fn, fun E args' w hv hr hg => ?_⟩
        subst hqa
        rw [constL_eq hq.pa hv]
        exact hq.use hr hTab hrom (fun b hb => (hg b hb).1) hle
      have horc : (OrcOk P T.g T.tabs f args v ∧ romsOk H T.tabs = true ∧ H' = H) ∨ callStep T (evN T n) f args H (T.fn.get f) = .call v H' := by
        cases hl : T.orc.get f with
        | none => rw [hl] at h; exact .inr h
        | some l =>
          rw [hl] at h
          change orcCall T (evN T n) f args H (orcFind l args) = .call v H' at h
          cases hv : orcFind l args with
          | none => rw [hv] at h; exact .inr h
          | some u =>
            rw [hv] at h
            change ite' (romsOk H T.tabs) (Out.call u H) (.bad 40) = .call v H' at h
            cases hb : romsOk H T.tabs with
            | false => rw [hb] at h; cases h
            | true =>
              rw [hb] at h
              cases h
              exact .inl ⟨hO f l hl args v (orcFind_mem hv), rfl, rfl⟩
      rcases horc with ⟨ho, hrom, rfl⟩ | h
      · refine ⟨ho.fn, fun E args' w hv hr hg => ?_⟩
        rw [constL_eq ho.pa hv]
        refine (ho.call E w (roms_rel hr hTab hrom) fun b hb => (hg b hb).1).mono fun e w' hh => ?_
        obtain ⟨he, hb⟩ := hh
        have hrow : ∀ b x, H'.b.get b = some x → E.s b < w.heap.size := fun b x hbx => by
          have := hr.rel b x hbx
          unfold BR at this
          split at this
          · obtain ⟨cs, fz, h1, _⟩ := this; exact (Array.getElem?_eq_some_iff.1 h1).1
          · obtain ⟨es', h1, _⟩ := this; exact (Array.getElem?_eq_some_iff.1 h1).1
          · exact (Array.getElem?_eq_some_iff.1 this).1
          · obtain ⟨cs, e, fz, h1, _⟩ := this; exact (Array.getElem?_eq_some_iff.1 h1).1
        exact ⟨E, v, he, ⟨Nat.le_refl _, Agree.refl _ _, fun b x h => .inl ⟨b, x, h, fun h => h, rfl⟩, hb.os, hb.tape, hb.output, hb.size, fun i hi _ => hb.block i hi⟩, resOk_vr ho.pr, ⟨hr.lt, fun b x hbx => by rw [hb.block _ (hrow b x hbx)]; exact hr.rel b x hbx, hr.inj⟩⟩
      cases hf : T.fn.get f with
      | none => rw [hf] at h; cases h
      | some fn =>
        rw [hf] at h
        change enterCall T (evN T n) f fn args H = .call v H' at h
        unfold enterCall at h
        obtain ⟨h1, h2⟩ := hT.fn f fn hf
        split at h
        · rename_i c hb
          refine ⟨⟨fn, h1, h2, by rw [hb]; rfl⟩, fun E args' w hv hr hg => ?_⟩
          have key : ∃ e A1 H1, (e = .normal ∨ e = .ret) ∧ evN T n (.code c (entryA T fn c args) H) = .code e A1 H1 ∧ resultsA T A1 H1 fn.results.toList = some v ∧ H' = H1 := by
            unfold backCall at h
            split at h
            · rename_i A1 H1 he
              split at h
              · cases h; exact ⟨_, _, _, .inl rfl, he, by assumption, rfl⟩
              · cases h
            · rename_i A1 H1 he
              split at h
              · cases h; exact ⟨_, _, _, .inr rfl, he, by assumption, rfl⟩
              · cases h
            · cases h
            · cases h
          obtain ⟨e, A1, H1, he, hev, hres, rfl⟩ := key
          have hw := hD c _ _ _ _ _ hev (hND f fn c hf hb) [] none (.inl rfl) E _ w (entry_ok hv hg) hr
          refine callsIn_FF.1 (callsIn_of_wp_marks (F := FF none) (n := 0) h1 hb trivial (wpIn_mono (hw 0) fun x a1 w1 hp => ?_))
          obtain ⟨hx, E1, ms1, g1, ha1, hr1, hk1⟩ := hp
          have hend : ∀ w2, HRel E1 H' w2 → Gd E E1 H H' w w2 → ∃ u, (results fn a1.tmps).run P w2 = .ok u w2 ∧ ∃ E' v', Ending.returned u = .returned v' ∧ Gd E E' H H' w w2 ∧ VR E' H'.next v v' ∧ HRel E' H' w2 := fun w2 hr2 g2 => by
            obtain ⟨v', r1, r2⟩ := results_ok (P := P) hT ha1 hr2 hres
            exact ⟨v', r2, E1, v', rfl, g2, r1, hr2⟩
          have hlv := leave_ms (n := 0) (R := fun e w' => ∃ E' v', e = .returned v' ∧ Gd E E' H H' w w' ∧ VR E' H'.next v v' ∧ HRel E' H' w') hend ms1 w1 hk1 hr1 g1
          have hdf : a1.defers = ms1.map markD := by rw [ha1.df, List.append_nil]
          rcases he with rfl | rfl
          · subst hx
            show LeavesInM _ _ _ _ _ _ a1.defers _ _
            rw [hdf]; exact hlv
          · subst hx
            show LeavesInM _ _ _ _ _ _ a1.defers _ _
            rw [hdf]; exact hlv
        · cases h
    · -- code
      rw [evN_succ] at h
      change codeD c T (evN T n) A H = .code e A' H' at h
      unfold codeD at h
      split at h
      · cases h; exact wpR_skip ⟨rfl, E, [], Gd.refl _ _ _, ha, hr, .nil⟩
      · cases h; exact wpR_ret ⟨rfl, E, [], Gd.refl _ _ _, ha, hr, .nil⟩
      · cases h; exact wpR_exit ⟨rfl, E, [], Gd.refl _ _ _, ha, hr, .nil⟩
      · rename_i c1 c2
        obtain ⟨nd1, nd2⟩ := ite'_true_eq (show ite' (ndCode c1) (ndCode c2) false = true from hnd)
        have hro1 : ro = none ∨ nrCode c1 = true := hro.imp id fun hh => (ite'_true_eq (show ite' (nrCode c1) (nrCode c2) false = true from hh)).1
        have hro2 : ro = none ∨ nrCode c2 = true := hro.imp id fun hh => (ite'_true_eq (show ite' (nrCode c1) (nrCode c2) false = true from hh)).2
        refine wpR_seq ?_
        rcases seqCode_ok h with h | ⟨id, ops, rfl, hf, h⟩
        case inr =>
          refine wpR_mono (fork_ok hT hm hC (fun A H e A' H' h => hD c2 A H e A' H' h nd2 ds ro hro2) (noDefer_of nd1) hf rfl h ha.fresh hr) fun x a1 w1 hp => ?_
          obtain ⟨hx, hb⟩ := hp
          subst hx
          exact hb
        rcases hthen c1 c2 A H e A' H' h with ⟨A1, H1, h1, h2⟩ | ⟨hne, h1⟩
        · refine wpR_mono (hD c1 A H _ _ _ h1 nd1 ds ro hro1 E a w ha hr) fun x a1 w1 hp => ?_
          obtain ⟨hx, E1, ms1, g1, ha1, hr1, hk1⟩ := hp
          subst hx
          exact wpR_mono (hD c2 A1 H1 _ _ _ h2 nd2 _ ro hro2 E1 a1 w1 ha1 hr1) fun x2 a2 w2 hp2 => PostM.comp g1 hr1 hk1 hp2
        · refine wpR_mono (hD c1 A H _ _ _ h1 nd1 ds ro hro1 E a w ha hr) fun x a1 w1 hp => ?_
          have hx := hp.1
          subst hx
          cases e with
          | normal => exact absurd rfl hne
          | exit id => exact hp
          | ret => exact hp
      · rename_i x c1 c2
        unfold condCode at h
        split at h
        · rename_i b hb
          have hc : a.eval x = .bool b := (ev_ok ha hb).bool
          obtain ⟨nd1, nd2⟩ := ite'_true_eq (show ite' (ndCode c1) (ndCode c2) false = true from hnd)
          have hro1 : ro = none ∨ nrCode c1 = true := hro.imp id fun hh => (ite'_true_eq (show ite' (nrCode c1) (nrCode c2) false = true from hh)).1
          have hro2 : ro = none ∨ nrCode c2 = true := hro.imp id fun hh => (ite'_true_eq (show ite' (nrCode c1) (nrCode c2) false = true from hh)).2
          refine wpR_cond hc ?_
          cases b
          · exact hD _ A H _ _ _ h nd2 ds ro hro2 E a w ha hr
          · exact hD _ A H _ _ _ h nd1 ds ro hro1 E a w ha hr
        · cases h
      · rename_i id c1
        refine wpR_block ?_
        unfold blockCode at h
        split at h
        · rename_i j A1 H1 hev
          have hw := hD c1 A H _ _ _ hev hnd ds ro hro E a w ha hr
          cases hj : Nat.beq j id with
          | true =>
            rw [hj, ite'_true] at h
            cases h
            have := Nat.eq_of_beq_eq_true hj
            subst this
            refine wpR_mono hw fun x a1 w1 hp => ?_
            have hx := hp.1
            subst hx
            show (if j = j then _ else _)
            rw [if_pos rfl]
            exact ⟨rfl, hp.2⟩
          | false =>
            rw [hj, ite'_false] at h
            cases h
            refine wpR_mono hw fun x a1 w1 hp => ?_
            have hx := hp.1
            subst hx
            show (if j = id then _ else _)
            rw [if_neg (fun e => by subst e; rw [Nat.beq_refl] at hj; cases hj)]
            exact hp
        · rename_i hne
          refine wpR_mono (hD c1 A H _ _ _ h hnd ds ro hro E a w ha hr) fun x a1 w1 hp => ?_
          have hx := hp.1
          subst hx
          cases e with
          | normal => exact hp
          | exit j => exact absurd h (hne j A' H')
          | ret => exact hp
      · rename_i c1
        obtain ⟨m, hm1⟩ := hloop c1 A H e A' H' (by rw [evN_succ]; exact h) hnd
        exact wpR_loop_rounds m (hm1 ds ro hro E a w ha hr)
      · rename_i id ops d
        cases d with
        | true => exact wpR_mono (wpR_region_any (noDefer_of hnd) post_stays hm (drawZ_any hT hm hC h ha.fresh hr)) fun _ _ _ hp => hp.m
        | false => exact wpR_mono (wpR_region (noDefer_of hnd) post_stays (region_ops hT hC h ha.fresh hr).2) fun _ _ _ hp => hp.m
      · rename_i g ps asg bd
        have hnd2 : ite' (nrCode asg) (ite' (nrCode bd) (ite' (ndCode asg) (ndCode bd) false) false) false = true := hnd
        obtain ⟨k1, hnd2⟩ := ite'_true_eq hnd2
        obtain ⟨k2, hnd2⟩ := ite'_true_eq hnd2
        obtain ⟨k3, k4⟩ := ite'_true_eq hnd2
        rcases hro with rfl | hro
        · exact rangeB_ok hT hB hD k3 k4 k1 k2 h ha hr
        · cases hro
      · cases h
end
end Go.Proofs.YtdkfimejabanlaaDoor
