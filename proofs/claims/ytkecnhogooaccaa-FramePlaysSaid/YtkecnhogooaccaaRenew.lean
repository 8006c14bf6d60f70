import Derived.Test.YtkecnhogooaccaaLists
namespace Go.Proofs.Ytkecnhogooaccaa
open Go.ChangeShapes Go.WideShapes Go.ChangeAt Go.RowKit
set_option linter.unusedVariables false
theorem size30 : (Try.prog.info? 30).map (·.size) = some 1 := by kernel_rfl
theorem frm_row (w : World) (g : Nat) (cs : Array Value) : Frm w (w.setRow g cs) (· = g) := ⟨rfl, rfl, rfl, by simp [World.setRow], fun i hi hr => setRow_other w g i cs hr⟩
set_option maxRecDepth 100000 in
set_option maxHeartbeats 2000000 in
theorem renew_bad {w : World} {B g room n c : Nat} {fv wv : Value} {fr : List Fm} {ws : List Int} {A : Option Addr} (t : Sk w B g room fv wv fr ws) (hn : n ≠ ws.length) :
    Calls Try.prog 16 #[.pointer (some ⟨g, 0, none⟩), .slice A n c] w fun e w' => e = .returned (.int .i64 1) ∧ Below w.heap.size w w' := by
  have c2 := t.obj.c2
  obtain ⟨A2, c2', rfl⟩ := vform t.rw_
  obtain ⟨m, hm⟩ : ∃ m, m = ws.length := ⟨_, rfl⟩
  rw [← hm] at c2 hn
  have d : ((n : Int) == (m : Int)) = false := beq_eq_false_iff_ne.2 (by omega)
  have d' : (n == m) = false := beq_eq_false_iff_ne.2 hn
  clear t hm hn
  go_enter Try.func16, Try.ntmps16
  go_wp2
  go_ret
  exact ⟨rfl, Below.refl _ _⟩
set_option maxRecDepth 100000 in
set_option maxHeartbeats 2000000 in
theorem renew_ok {w : World} {B g room n c : Nat} {fv wv : Value} {fr : List Fm} {ws ys : List Int} {A : Option Addr} (t : Sk w B g room fv wv fr ws) (hn : n = ws.length) (hy : InL .u64 w A n ys) :
    Calls Try.prog 16 #[.pointer (some ⟨g, 0, none⟩), .slice A n c] w fun e w' => e = .returned (.int .i64 0) ∧ Hid (Sk w' B g room fv wv fr ys) ∧ Hid (Frm w w' (MineW g wv)) := by
  have c2 := t.obj.c2
  have T := Lib.hid t; have HY := Lib.hid hy; have HN := Lib.hid hn
  obtain ⟨A2, c2', rfl⟩ := vform t.rw_
  rw [← hn] at c2
  by_cases h0 : n = 0
  · have SK : Hid (Sk w B g room fv (.slice A2 ws.length c2') fr ys) := Lib.hid (by
      have e1 : ws = [] := List.eq_nil_of_length_eq_zero (by omega)
      have e2 : ys = [] := List.eq_nil_of_length_eq_zero (by rw [hy.1]; exact h0)
      rw [e2, ← e1]; exact t)
    subst h0
    clear t hy hn
    go_enter Try.func16, Try.ntmps16
    go_wp2_with (with_reducible refine wpList_copy_nothing rfl (.tmp 16) (.tmp 17) 35 35 rfl 30 Try.underlying35 size30 _ _ 0 _ 0 _ rfl rfl rfl ?_)
    go_wp2
    go_ret
    exact ⟨rfl, SK, Lib.hid (Frm.refl _ _)⟩
  · obtain ⟨b, o, rfl, hc⟩ := hy.at (by omega)
    rcases t.rw_.2 with ⟨_, h9⟩ | ⟨gw, cap, cur, e, hb, hg, hcs, hm, hs, ht⟩
    · omega
    · injection e with e1 e2 e3
      subst e1 e3
      have hyl : (wds ys).length = n := by rw [wds_len]; exact hy.1
      have NEWS : Hid (∀ j u, (wds ys)[j]? = some u → w.cell? ((⟨b, o, none⟩ : Addr).add j) = some u) := Lib.hid (fun j u hu => by
        have hj : j < ys.length := by have := (List.getElem?_eq_some_iff.1 hu).1; rwa [wds_len] at this
        rw [Go.WideShapes.add_plain]
        have := hc w j (Below.refl _ _) (by rw [← hy.1]; exact hj)
        rw [this, ← hu, wds_at ys j hj])
      have HG := Lib.hid hg
      have LEN : Hid ((wds ys).length = Nat.min n n) := Lib.hid (by rw [hyl]; simp)
      have FIT : Hid (0 + (wds ys).length ≤ cur.size) := Lib.hid (by rw [hyl]; omega)
      obtain ⟨cur', hcur'⟩ : ∃ cur', cur' = (wds ys ++ cur.toList.drop n).toArray := ⟨_, rfl⟩
      have SK : Hid (Sk (w.setRow gw cur') B g room fv (.slice (some ⟨gw, 0, none⟩) ws.length c2') fr ys ∧ Frm w (w.setRow gw cur') (MineW g (.slice (some ⟨gw, 0, none⟩) ws.length c2'))) := Lib.hid (by
        have f0 := frm_row w gw cur'
        have hh := setRow_heap w gw _ cur' _ _ hg
        refine ⟨⟨(f0.block g t.obj.lt (fun e => t.nw (by rw [e]; rfl))).trans t.obj, own_frm t.rf f0 (fun k h e => t.ne k h (by rw [e]; rfl)), ?_, t.nf, t.nw, t.ne, t.le, ?_, ?_, t.small⟩, f0.mono (fun k _ h => .inr (by rw [h]; rfl))⟩
        · rw [hy.1]
          refine ⟨by rw [hyl, Nat.mul_one], .inr ⟨gw, c2', cur', by rw [hn], hb, hh, ?_, ?_, ?_, ?_⟩⟩
          · rw [hn]; exact hcs
          · exact hm
          · rw [hcur']; simp only [List.size_toArray, List.length_append, List.length_drop, hyl, Array.length_toList]; omega
          · rw [hcur', Nat.mul_one]; simp only []; rw [List.take_left' hyl]
        · rw [hy.1, hn]; exact t.good
        · rw [hy.1, hn]; exact t.fits)
      have HC := Lib.hid hcur'
      clear t hy hn hc hcur'
      go_enter Try.func16, Try.ntmps16
      go_wp2_with (with_reducible refine wpList_copy_own rfl (.tmp 16) (.tmp 17) 35 35 rfl 30 Try.underlying35 size30 gw 0 n c2' ⟨b, o, none⟩ n c rfl rfl cur 30 HG.out (wds ys) LEN.out NEWS.out FIT.out (wds_one ys) ?_)
      go_ret
      rw [← HC.out]
      exact ⟨rfl, Lib.hid SK.out.1, Lib.hid SK.out.2⟩
/-- Renew. -/
def refill : List RF → List Int → List RF
  | [], _ => []
  | f :: r, ws => { f with slots := ws.take f.slots.length, added := (ws.drop f.slots.length).take f.added.length } :: refill r (ws.drop f.ws.length)
theorem refill_words : ∀ (l : List RF) (ws : List Int), ws.length = (wdOf l).length → wdOf (refill l ws) = ws
  | [], ws, h => by simp [wdOf] at h; simp [refill, wdOf, h]
  | f :: r, ws, h => by
    have e : wdOf (f :: r) = f.ws ++ wdOf r := by simp [wdOf]
    rw [e, List.length_append] at h
    have e2 : wdOf (refill (f :: r) ws) = RF.ws { f with slots := ws.take f.slots.length, added := (ws.drop f.slots.length).take f.added.length } ++ wdOf (refill r (ws.drop f.ws.length)) := by simp [wdOf, refill]
    rw [e2, refill_words r _ (by rw [List.length_drop]; omega)]
    simp only [RF.ws, List.length_append]
    rw [← List.take_add, List.take_append_drop]
theorem refill_fr : ∀ (l : List RF) (ws : List Int) (n : Nat), ws.length = (wdOf l).length → frAt (refill l ws) n = frAt l n
  | [], ws, n, h => rfl
  | f :: r, ws, n, h => by
    have e : wdOf (f :: r) = f.ws ++ wdOf r := by simp [wdOf]
    rw [e, List.length_append] at h
    have e1 : (ws.take f.slots.length).length = f.slots.length := by rw [List.length_take]; simp only [RF.ws, List.length_append] at h; omega
    have e2 : (RF.ws { f with slots := ws.take f.slots.length, added := (ws.drop f.slots.length).take f.added.length }).length = f.ws.length := by
      simp only [RF.ws, List.length_append, List.length_take, List.length_drop] at h ⊢; omega
    simp only [refill, frAt]
    rw [e1, e2, refill_fr r _ _ (by rw [List.length_drop]; omega)]
theorem refill_len : ∀ (l : List RF) (ws : List Int), (refill l ws).length = l.length
  | [], ws => rfl
  | f :: r, ws => by simp [refill, refill_len r]
def renewS (l : List RF) (ws : List Int) : Int × List RF := if ws.length = (wdOf l).length then (0, refill l ws) else (1, l)
theorem renew_st {w0 wr : World} {g room n c : Nat} {l : List RF} {A : Option Addr} {ys : List Int} (s : StN w0 wr g room l) (hy : InL .u64 wr A n ys) :
    Calls Try.prog 16 #[.pointer (some ⟨g, 0, none⟩), .slice A n c] wr fun e w' => e = .returned (.int .i64 (renewS l ys).1) ∧ Hid (StN w0 w' g room (renewS l ys).2) := by
  have s' := s
  obtain ⟨fv, wv, t, b⟩ := s
  unfold renewS
  rw [hy.1]
  by_cases h : n = (wdOf l).length
  · rw [if_pos h]
    refine (renew_ok t h hy).mono ?_
    rintro e w' ⟨he, t', f⟩
    exact ⟨he, Lib.hid (StN.step t b f.out (fun k h => h.imp id .inr) t'.out (refill_fr l ys 0 (hy.1.trans h)).symm (refill_words l ys (hy.1.trans h)).symm)⟩
  · rw [if_neg h]
    exact (renew_bad t h).mono fun e w' ⟨he, hb⟩ => ⟨he, Lib.hid (s'.below hb)⟩
end Go.Proofs.Ytkecnhogooaccaa
