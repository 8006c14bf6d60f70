import Derived.Test.YtkecnhogooaccaaSet
import Derived.Deep.RegionWith
import Derived.Deep.DeepCutAuto
import Derived.Deep.Cut
import Derived.Deep.CutBlock
namespace Go.Proofs.Ytkecnhogooaccaa
open Go.ChangeShapes Go.WideShapes Go.ChangeAt Go.RowKit
set_option linter.unusedVariables false
theorem frm_drew (w : World) (R : Nat → Prop) : Frm w w.drew R := ⟨rfl, rfl, rfl, Nat.le_refl _, fun _ _ _ => rfl⟩
theorem Frm.trans' {a b c : World} {R S : Nat → Prop} (h : Frm a b R) (k : Frm b c S) (hs : ∀ i, i < a.heap.size → S i → R i) : Frm a c R :=
  ⟨k.os.trans h.os, k.tape.trans h.tape, k.output.trans h.output, Nat.le_trans h.size k.size, fun i hi hr => (k.block i (Nat.lt_of_lt_of_le hi h.size) (fun e => hr (hs i hi e))).trans (h.block i hi hr)⟩
theorem info71z : (Try.prog.info? 71).map (fun i => (i.zero, i.size, i.bytes)) = some (some (.agg #[.int .i64 0, .int .i64 0, .int .i64 0, .int .i64 0]), 4, 32) := by kernel_rfl
theorem step_num {ops : Array Oper} {o : Oper} {a : Act} {w : World} {K : Act → World → Prop} {Q : Exit → Act → World → Prop} {E : Prop}
    (hg : o.guard = none) (ho : o.op = .call { callee := .value (.func 11), args := #[.const (.int .i64 0)], argTypes := #[2] })
    (h : K (a.put o.dst (.int .u64 1)) w) :
    if Region.wanted o (yielded ops a.tmps) = true then Oper.wp Try.prog o a w K Q else E := by
  have hw : Region.wanted o (yielded ops a.tmps) = true := by simp [Region.wanted, hg]
  rw [if_pos hw]
  unfold Oper.wp execOp
  simp only [ho]
  go_simp
  refine (num_any 0 w (by omega) (by omega)).mono ?_
  rintro e w' ⟨rfl, rfl⟩
  exact h
/-- the stack, but for how frames lie over the words. -/
structure Sk0 (w : World) (B g : Nat) (room : Nat) (fv wv : Value) (fr : List Fm) (ws : List Int) : Prop where
  obj : SObj w g room fv wv
  rf : w.ownsRow B 71 4 fv fr.length (frs fr)
  rw_ : w.ownsRow B 30 1 wv ws.length (wds ws)
  nf : fv.ownBlock ≠ some g
  nw : wv.ownBlock ≠ some g
  ne : ∀ k, fv.ownBlock = some k → wv.ownBlock ≠ some k
  le : B ≤ g
theorem Sk.zero {w : World} {B g room : Nat} {fv wv : Value} {fr : List Fm} {ws : List Int} (t : Sk w B g room fv wv fr ws) : Sk0 w B g room fv wv fr ws := ⟨t.obj, t.rf, t.rw_, t.nf, t.nw, t.ne, t.le⟩
theorem Sk0.sk {w : World} {B g room : Nat} {fv wv : Value} {fr : List Fm} {ws : List Int} (t : Sk0 w B g room fv wv fr ws) (h1 : Good fr.reverse ws.length) (h2 : ws.length + 2 * fr.length ≤ room) (h3 : room ≤ 4096) : Sk w B g room fv wv fr ws := ⟨t.obj, t.rf, t.rw_, t.nf, t.nw, t.ne, t.le, h1, h2, h3⟩
/-- a word is added: what the cells say. -/
theorem Sk0.more {w1 w2 : World} {B g room n go cap : Nat} {fv wv : Value} {fr : List Fm} {ws : List Int} {x : Int} (t : Sk0 w1 B g room fv wv fr ws) (hn : n = ws.length)
    (fr2 : Frm w1 w2 (fun k => wv.ownBlock = some k)) (own2 : w2.ownsRow B 30 1 (.slice (some ⟨go, 0, none⟩) (n + 1) cap) (n + 1) (wds ws ++ [.int .u64 x])) (at2 : wv.ownBlock = some go ∨ w1.heap.size ≤ go) :
    Sk0 (w2.setCell ⟨g, 2, none⟩ (.slice (some ⟨go, 0, none⟩) (n + 1) cap)) B g room fv (.slice (some ⟨go, 0, none⟩) (n + 1) cap) fr (ws ++ [x]) ∧ Frm w1 (w2.setCell ⟨g, 2, none⟩ (.slice (some ⟨go, 0, none⟩) (n + 1) cap)) (MineW g wv) := by
  have own2' : w2.ownsRow B 30 1 (.slice (some ⟨go, 0, none⟩) (n + 1) cap) (n + 1) (wds (ws ++ [x])) := by rw [wds_app]; exact own2
  have hgo : go ≠ g := by
    rcases at2 with e | e
    · intro h; exact t.nw (h ▸ e)
    · have := t.obj.lt; omega
  have obj2 : SObj w2 g room _ wv := (fr2.block g t.obj.lt (fun e => t.nw e)).trans t.obj
  refine ⟨?_, (fr2.mono (fun k _ h => .inr h)).trans (frm_set 2 _ (.inl rfl))⟩
  refine ⟨obj2.set2 _, ?_, ?_, t.nf, by simp [Value.ownBlock]; exact hgo, ?_, t.le⟩
  · exact own_frm (own_frm t.rf fr2 (fun k h e => t.ne k h e)) (frm_set (R := (· = g)) 2 _ rfl) (fun k h e => t.nf (e ▸ h))
  · have := own_frm own2' (frm_set (w := w2) (g := g) (R := (· = g)) 2 (.slice (some ⟨go, 0, none⟩) (n + 1) cap) rfl) (fun k h e => by simp [Value.ownBlock] at h; omega)
    rwa [List.length_append, List.length_singleton, ← hn]
  · intro k hk
    simp only [Value.ownBlock]
    intro hk2
    injection hk2 with hk2
    subst hk2
    rcases at2 with e | e
    · exact t.ne _ hk e
    · have := (t.rf.lt _ hk).2; omega
/-- what may turn when a frame is put on. -/
def MineP (g : Nat) (fv wv : Value) (k : Nat) : Prop := k = g ∨ fv.ownBlock = some k ∨ wv.ownBlock = some k
/-- a frame is on, k of its slots are laid. -/
def Pushed (w : World) (B g room : Nat) (fv wv : Value) (fr : List Fm) (ws : List Int) (wr : World) (k : Nat) : Prop :=
  ∃ fv' wv', Sk0 wr B g room fv' wv' fr (ws ++ List.replicate k 1) ∧ Frm w wr (MineP g fv wv) ∧ (∀ k, wv'.ownBlock = some k → wv.ownBlock = some k ∨ w.heap.size ≤ k) ∧ (∀ k, fv'.ownBlock = some k → fv.ownBlock = some k ∨ w.heap.size ≤ k)
theorem pushed_more {w w1 w2 : World} {B g room n gg cap k : Nat} {fv wv fv1 wv1 : Value} {fr : List Fm} {ws : List Int} (t : Sk0 w1 B g room fv1 wv1 fr (ws ++ List.replicate k 1)) (hf : Frm w w1 (MineP g fv wv)) (h1 : ∀ k, wv1.ownBlock = some k → wv.ownBlock = some k ∨ w.heap.size ≤ k) (h2 : ∀ k, fv1.ownBlock = some k → fv.ownBlock = some k ∨ w.heap.size ≤ k)
    (hn : n = (ws ++ List.replicate k (1 : Int)).length)
    (own2 : w2.ownsRow B 30 1 (.slice (some ⟨gg, 0, none⟩) (n + 1) cap) (n + 1) (wds (ws ++ List.replicate k 1) ++ [.int .u64 1]))
    (hgrow : (w1.drew.alloc (.cells #[.int .u64 1] 30)).grownBy w2 wv1.ownBlock) (hat : wv1.ownBlock = some gg ∨ gg = w1.heap.size + 1) :
    Pushed w B g room fv wv fr ws (w2.setCell ⟨g, 2, none⟩ (.slice (some ⟨gg, 0, none⟩) (n + 1) cap)) (k + 1) := by
  have fr1 : Frm w1 w2 (fun k => wv1.ownBlock = some k) := ((frm_drew w1 _).trans (Frm.of_below (w' := w1.drew.alloc (.cells #[.int .u64 1] 30)) (below_alloc w1.drew _) (Nat.le_refl _) _)).trans (Frm.of_grown hgrow (fun k h => h))
  obtain ⟨sk, ff⟩ := t.more (x := 1) hn fr1 own2 (hat.imp id (fun e => by omega))
  have e : ws ++ List.replicate k (1 : Int) ++ [1] = ws ++ List.replicate (k + 1) 1 := by rw [List.replicate_succ', List.append_assoc]
  rw [e] at sk
  refine ⟨fv1, _, sk, hf.trans' ff ?_, ?_, h2⟩
  · intro j hj h
    rcases h with h | h
    · exact .inl h
    · rcases h1 j h with h | h
      · exact .inr (.inr h)
      · omega
  · intro j hj
    simp only [Value.ownBlock] at hj
    injection hj with hj
    subst hj
    have := hf.size
    rcases hat with e | e
    · exact h1 _ e
    · right; omega
theorem pushed_first {w w1 w2 : World} {B g room m n gg cap : Nat} {fv wv : Value} {fr : List Fm} {ws : List Int} {bk cl : Int} {sl : Nat} (t : Sk w1 B g room fv wv fr ws) (hb : Below w.heap.size w w1) (hm : m = fr.length)
    (own2 : w2.ownsRow B 71 4 (.slice (some ⟨gg, 0, none⟩) (m + 1) cap) (m + 1) (frs fr ++ [.int .i64 bk, .int .i64 cl, .int .i64 n, .int .i64 sl]))
    (hgrow : (w1.drew.alloc (.cells #[.int .i64 bk, .int .i64 cl, .int .i64 n, .int .i64 sl] 71)).grownBy w2 fv.ownBlock) (hat : fv.ownBlock = some gg ∨ gg = w1.heap.size + 1) :
    Pushed w B g room fv wv (fr ++ [⟨bk, cl, n, sl⟩]) ws (w2.setCell ⟨g, 1, none⟩ (.slice (some ⟨gg, 0, none⟩) (m + 1) cap)) 0 := by
  have fr2 : Frm w1 w2 (fun k => fv.ownBlock = some k) := ((frm_drew w1 _).trans (Frm.of_below (w' := w1.drew.alloc (.cells #[.int .i64 bk, .int .i64 cl, .int .i64 n, .int .i64 sl] 71)) (below_alloc w1.drew _) (Nat.le_refl _) _)).trans (Frm.of_grown hgrow (fun k h => h))
  have hgg : gg ≠ g := by
    rcases hat with e | e
    · intro h; exact t.nf (h ▸ e)
    · have := t.obj.lt; omega
  have own2' : w2.ownsRow B 71 4 (.slice (some ⟨gg, 0, none⟩) (m + 1) cap) (m + 1) (frs (fr ++ [⟨bk, cl, n, sl⟩])) := by rw [frs_app]; exact own2
  have obj2 : SObj w2 g room fv wv := (fr2.block g t.obj.lt (fun e => t.nf e)).trans t.obj
  have fs := frm_set (w := w2) (g := g) (R := (· = g)) 1 (.slice (some ⟨gg, 0, none⟩) (m + 1) cap) rfl
  have hsz := hb.size
  refine ⟨.slice (some ⟨gg, 0, none⟩) (m + 1) cap, wv, ⟨obj2.set1 _, ?_, ?_, by simp [Value.ownBlock]; exact hgg, t.nw, ?_, t.le⟩, ?_, fun k h => .inl h, ?_⟩
  · have := own_frm own2' fs (fun k h e => by simp [Value.ownBlock] at h; omega)
    rw [List.length_append, List.length_singleton, ← hm]; exact this
  · rw [List.replicate_zero, List.append_nil]
    exact own_frm (own_frm t.rw_ fr2 (fun k h e => t.ne k e h)) fs (fun k h e => t.nw (e ▸ h))
  · intro k hk hw
    simp only [Value.ownBlock] at hk
    injection hk with hk
    subst hk
    rcases hat with e | e
    · exact t.ne _ e hw
    · have := (t.rw_.lt _ hw).2; omega
  · exact (Frm.of_below hb (Nat.le_refl _) _).trans ((fr2.mono (fun k _ h => .inr (.inl h))).trans (fs.mono (fun k _ h => .inl h)))
  · intro k hk
    simp only [Value.ownBlock] at hk
    injection hk with hk
    subst hk
    rcases hat with e | e
    · exact .inl e
    · right; omega
theorem pushed_end {w wr : World} {B g room : Nat} {fv wv : Value} {fr : List Fm} {ws : List Int} {bk cl : Int} {n sl : Nat} (p : Pushed w B g room fv wv (fr ++ [⟨bk, cl, n, sl⟩]) ws wr sl) (hg : Good fr.reverse n) (hn : n = ws.length) (hr : ws.length + 2 * fr.length + 2 + sl ≤ room) (h4 : room ≤ 4096) :
    ∃ fv' wv', Hid (Sk wr B g room fv' wv' (fr ++ [⟨bk, cl, n, sl⟩]) (ws ++ List.replicate sl 1)) ∧ Hid (Frm w wr (MineP g fv wv)) ∧ Hid ((∀ k, wv'.ownBlock = some k → wv.ownBlock = some k ∨ w.heap.size ≤ k) ∧ (∀ k, fv'.ownBlock = some k → fv.ownBlock = some k ∨ w.heap.size ≤ k)) := by
  obtain ⟨fv', wv', s, f, h1, h2⟩ := p
  refine ⟨fv', wv', Lib.hid (s.sk ?_ ?_ h4), Lib.hid f, Lib.hid ⟨h1, h2⟩⟩
  · rw [List.reverse_append]
    exact ⟨by simp; omega, hg⟩
  · simp; omega
set_option maxRecDepth 100000 in
set_option maxHeartbeats 4000000 in
theorem push_ok {w : World} {B g room : Nat} {fv wv : Value} {fr : List Fm} {ws : List Int} (bk cl : Int) (sl : Nat) (t : Sk w B g room fv wv fr ws) (hr : ws.length + 2 * fr.length + 2 + sl ≤ room) :
    Calls Try.prog 9 #[.pointer (some ⟨g, 0, none⟩), .int .i64 bk, .int .i64 cl, .int .i64 sl] w fun e w' => ∃ fv' wv', e = .returned (.int .i64 0) ∧ Hid (Sk w' B g room fv' wv' (fr ++ [⟨bk, cl, ws.length, sl⟩]) (ws ++ List.replicate sl 1)) ∧ Hid (Frm w w' (MineP g fv wv)) ∧ Hid ((∀ k, wv'.ownBlock = some k → wv.ownBlock = some k ∨ w.heap.size ≤ k) ∧ (∀ k, fv'.ownBlock = some k → fv.ownBlock = some k ∨ w.heap.size ≤ k)) := by
  obtain ⟨i0, hi0, hz0, hz1, hz2⟩ := info_parts info71z
  have T := Lib.hid t
  have hB : B ≤ w.heap.size := Nat.le_of_lt (Nat.lt_of_le_of_lt t.le t.obj.lt)
  have FREE : Hid (∀ W, Below w.heap.size w W → Calls Try.prog 38 #[.pointer (some ⟨g, 0, none⟩)] W fun e w' => ∃ F : Nat, e = .returned (.int .i64 (F : Int)) ∧ sl + 2 ≤ F ∧ F ≤ 4096 ∧ Below W.heap.size W w') := Lib.hid (fun W hW => (free_any (t.below hW)).mono (fun e w' ⟨he, hb⟩ => ⟨_, he, by omega, by have := t.small; omega, hb⟩))
  obtain ⟨A2, c2w, rfl⟩ := vform t.rw_
  obtain ⟨m, hm⟩ : ∃ m, m = fr.length := ⟨_, rfl⟩
  obtain ⟨n, hn⟩ : ∃ n, n = ws.length := ⟨_, rfl⟩
  have hnl : n ≤ 4096 := by have := t.fits; have := t.small; omega
  have hml : m ≤ 4096 := by have := t.fits; have := t.small; omega
  have HN := Lib.hid hn; have HM := Lib.hid hm; have HR := Lib.hid hr
  have d0 := decide_eq_false (show ¬ (sl : Int) < 0 by omega)
  rw [← hn]
  clear t hn hm hr
  go_enter Try.func9, Try.ntmps9
  go_wp2_with fail
  refine (FREE.out _ (Below.refl _ _)).mono ?_; rintro e w1 ⟨F, rfl, hF, hF4, hb1⟩
  obtain ⟨P, hP⟩ : ∃ P : Nat, (F : Int) - 2 = P := ⟨F - 2, by omega⟩
  have d1 := decide_eq_false (show ¬ (P : Int) < (sl : Int) by omega)
  have d1' := decide_eq_false (show ¬ P < sl by omega)
  have hP4 : P ≤ 4096 := by omega
  have T1 := Lib.hid (T.out.below hb1)
  have OWN : Hid (w1.drew.ownsRow B 71 4 fv m (frs fr)) := Lib.hid (by rw [HM.out]; exact T1.out.rf)
  have F1 := Lib.hid hb1
  have c1 := T1.out.obj.c1; have c2 := T1.out.obj.c2; have f1 := T1.out.obj.f 1
  rw [← HN.out] at c2
  have hB1 : B ≤ w1.heap.size := Nat.le_trans hB hb1.size
  have al1 := ((below_alloc w1 (.cells #[.int .i64 bk, .int .i64 cl, .int .i64 n, .int .i64 sl] 71)).cell (p := ⟨g, 1, none⟩) T1.out.obj.lt).trans c1
  clear hb1 hF FREE
  go_upto_region 5 with fail
  go_cut [] (fun wx => Hid (Pushed w B g room fv (.slice A2 n c2w) (fr ++ [⟨bk, cl, n, sl⟩]) ws wx 0))
  case first =>
    go_region_law ((refine step_append_lies _ (by rfl) _ _ _ (by rfl) B 71 i0 _ 4 32 Try.underlying67 hi0 hz0 hz1 hz2 rfl (by decide) fv m (frs fr) (by rfl) (OWN.out.alloc _) ⟨w1.heap.size, 0, none⟩ 1 1 [.int .i64 bk, .int .i64 cl, .int .i64 n, .int .i64 sl] (by rfl) (by rfl) (World.news_of_block (cs := #[.int .i64 bk, .int .i64 cl, .int .i64 n, .int .i64 sl]) (t := 71) (fr := (0, 0)) (heap_alloc_new _ _)) (by simp [Value.oneCell']) (by omega) (by unfold maxLen; omega) (by omega) (by simp; omega) (w1.heap.size + 1) (by simp) ?_; intro gg cap w2 own2 hgrow hat hlt2; have obj2 : SObj w2 g room fv (.slice A2 ws.length c2w) := ((Frm.of_below (below_alloc w1.drew (.cells #[.int .i64 bk, .int .i64 cl, .int .i64 n, .int .i64 sl] 71)) (Nat.le_refl _) (fun k => fv.ownBlock = some k)).trans (Frm.of_grown hgrow (fun k h => h))).block g T1.out.obj.lt (fun e => T1.out.nf e) |>.trans T1.out.obj; have z1 := obj2.c1; have g1 := obj2.f 1))
    all_goals (
      go_wp2_with fail
      go_meet
      exact Lib.hid (pushed_first (by rw [HN.out]; exact T1.out) F1.out HM.out own2 hgrow hat))
  case rest =>
    clear c1 c2 f1 al1 OWN F1 T1 d1 d1' hP hP4 hF4
    obtain ⟨j0, hj0, hy0, hy1, hy2⟩ := info_parts info30
    have hsl : sl ≤ 4096 := by have := HR.out; have := T.out.small; omega
    go_wp2
    go_loopw [35] (fun kv wr => ∃ k : Nat, kv = .int .i64 k ∧ k ≤ sl ∧ Hid (Pushed w B g room fv (.slice A2 n c2w) (fr ++ [⟨bk, cl, n, sl⟩]) ws wr k)) (fun kv _ => sl - (intOf kv).toNat)
    case atStart => exact ⟨0, rfl, by omega, hcut⟩
    case round =>
      obtain ⟨k, rfl, hk, s⟩ := hrel
      clear hcut
      by_cases hks : k < sl
      · have hks' : (k : Int) < (sl : Int) := by omega
        obtain ⟨fv1, wv1, s1, s2, s3, s4⟩ := s.out
        clear s
        obtain ⟨A3, c3, rfl⟩ := vform s1.rw_
        obtain ⟨N, hN⟩ : ∃ N, N = (ws ++ List.replicate k (1 : Int)).length := ⟨_, rfl⟩
        have hNl : N ≤ 8192 := by rw [hN]; simp; have := HN.out; omega
        have c2 := s1.obj.c2; have f2 := s1.obj.f 2
        rw [← hN] at c2
        have OWN : Hid (wr.drew.ownsRow B 30 1 (.slice A3 N c3) N (wds (ws ++ List.replicate k 1))) := Lib.hid (by rw [hN]; exact s1.rw_)
        have hBr : B ≤ wr.heap.size := Nat.le_of_lt (Nat.lt_of_le_of_lt s1.le s1.obj.lt)
        have al1 := ((below_alloc wr (.cells #[.int .u64 1] 30)).cell (p := ⟨g, 2, none⟩) s1.obj.lt).trans c2
        have S1 := Lib.hid s1; have S2 := Lib.hid s2; have S3 := Lib.hid s3; have S4 := Lib.hid s4; have HNN := Lib.hid hN
        clear s1 s2 s3 s4 hN
        go_upto_block 1 with fail
        go_cut [] (fun wx => Hid (Pushed w B g room fv (.slice A2 n c2w) (fr ++ [⟨bk, cl, n, sl⟩]) ws wx (k + 1)))
        case first =>
          go_wp2_with fail
          go_region_law ((first | (refine step_num rfl rfl ?_) | (refine step_append_lies _ (by rfl) _ _ _ (by rfl) B 30 j0 _ 1 8 Try.underlying35 hj0 hy0 hy1 hy2 rfl (by decide) (.slice A3 N c3) N (wds (ws ++ List.replicate k 1)) (by rfl) (OWN.out.alloc _) ⟨wr.heap.size, 0, none⟩ 1 1 [.int .u64 1] (by rfl) (by rfl) (World.news_of_block (cs := #[.int .u64 1]) (t := 30) (fr := (0, 0)) (heap_alloc_new _ _)) (by simp [Value.oneCell']) (by omega) (by unfold maxLen; omega) (by omega) (by simp; omega) (wr.heap.size + 1) (by simp) ?_; intro gg cap w2 own2 hgrow hat hlt2; have obj2 : SObj w2 g room _ (.slice A3 (ws ++ List.replicate k (1 : Int)).length c3) := (((frm_drew wr _).trans (Frm.of_below (w' := wr.drew.alloc (.cells #[.int .u64 1] 30)) (below_alloc wr.drew _) (Nat.le_refl _) (fun k => (Value.slice A3 N c3).ownBlock = some k))).trans (Frm.of_grown hgrow (fun k h => h))).block g S1.out.obj.lt (fun e => S1.out.nw (by cases A3 <;> exact e)) |>.trans S1.out.obj; have z2 := obj2.c2; have g2 := obj2.f 2)))
          all_goals (
            go_wp2_with fail
            go_meet
            exact Lib.hid (pushed_more S1.out S2.out S3.out S4.out HNN.out own2 (by cases A3 <;> exact hgrow) (by cases A3 <;> exact hat)))
        case rest =>
          clear c2 f2 al1 OWN
          go_wp2
          go_roundw
          case rel => exact ⟨k + 1, by go_num, hks, hcut⟩
          case measure => simp [intOf]; omega
      · obtain rfl : k = sl := by omega
        have hks' : ¬ (k : Int) < (k : Int) := by omega
        obtain ⟨fv', wv', e1, e2, e3⟩ := pushed_end s.out (by rw [HN.out]; exact T.out.good) HN.out HR.out T.out.small
        clear s hks hk
        go_wp2
        go_ret
        first | exact ⟨_, _, rfl, e1, e2, e3⟩ | exact ⟨rfl, _, _, e1, e2, e3⟩
end Go.Proofs.Ytkecnhogooaccaa
