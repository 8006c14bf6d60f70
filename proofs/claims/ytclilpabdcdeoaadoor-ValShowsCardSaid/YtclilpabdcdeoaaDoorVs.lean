import Derived.Test.YtclilpabdcdeoaaDoorTl
namespace Go.Proofs.YtclilpabdcdeoaaDoor
open Go.ChangeShapes Go.WideShapes Go.ChangeAt Go.RowKit
set_option linter.unusedVariables false
def VsPost (w : World) (l : List VT) (e : Ending) (w' : World) : Prop := ∃ A c, e = .returned (.slice A l.length c) ∧ RRow w' (fun b => w.heap.size ≤ b) A l ∧ Below w.heap.size w w'
structure VsS (w : World) (l : List VT) (k : Nat) (v : Value) (xs : List Value) (wr : World) : Prop where
  bel : Below w.heap.size w wr
  own : wr.ownsRow w.heap.size 46 8 v k xs
  kids : Kids wr (fun b => w.heap.size ≤ b ∧ v.ownBlock ≠ some b) (l.take k) xs
theorem VsS.step {w wr w2 w4 : World} {l : List VT} {A2 : Option Addr} {k c2 : Nat} {v v' : Value} {xs : List Value} (h : VsS w l k v xs wr) (hk : k < l.length) (hn : -9223372036854775808 ≤ l[k].n ∧ l[k].n ≤ 9223372036854775807)
    (hb2 : Below wr.heap.size wr w2) (hr2 : RRow w2 (fun b => wr.heap.size ≤ b) A2 l[k].args) (ob : Obj)
    (own4 : w4.ownsRow w.heap.size 46 8 v' (k + 1) (xs ++ kidV l[k] A2 c2)) (gr4 : (w2.alloc ob).grownBy w4 v.ownBlock) (at4 : v'.ownBlock = v.ownBlock ∨ v'.ownBlock = some (w2.heap.size + 1)) :
    VsS w l (k + 1) v' (xs ++ kidV l[k] A2 c2) w4 := by
  have hs := h.bel.size
  have hv : ∀ b, v.ownBlock = some b → w.heap.size ≤ b ∧ b < wr.heap.size := fun b hb => h.own.lt b hb
  have h2s := hb2.size
  have h3s : (w2.alloc ob).heap.size = w2.heap.size + 1 := by show (w2.heap.push ob).size = _; simp
  have h4s := gr4.size
  have keep : ∀ b, b < w2.heap.size → v.ownBlock ≠ some b → w4.heap[b]? = w2.heap[b]? := by
    intro b hb hne
    rw [gr4.block b (by omega) (fun e => hne e.symm)]
    show (w2.heap.push ob)[b]? = _
    rw [Array.getElem?_push, if_neg (by omega)]
  have keepr : ∀ b, b < wr.heap.size → v.ownBlock ≠ some b → w4.heap[b]? = wr.heap[b]? := fun b hb hne => (keep b (by omega) hne).trans (hb2.block b hb)
  have low : ∀ b, b < w.heap.size → v.ownBlock ≠ some b := fun b hb e => by have := hv b e; omega
  have hv' : ∀ b, b < w2.heap.size → v.ownBlock ≠ some b → v'.ownBlock ≠ some b := fun b hb hne e => by
    rcases at4 with q | q
    · exact hne (q.symm.trans e)
    · rw [q] at e; injection e with e; omega
  refine ⟨⟨?_, ?_, ?_, by omega, fun b hb => ?_⟩, own4, ?_⟩
  · exact gr4.os.trans (hb2.os.trans h.bel.os)
  · exact gr4.tape.trans (hb2.tape.trans h.bel.tape)
  · exact gr4.output.trans (hb2.output.trans h.bel.output)
  · exact (keepr b (by omega) (low b (by omega))).trans (h.bel.block b hb)
  · rw [List.take_succ_eq_append_getElem hk]
    refine Kids.snoc hn ?_ ?_
    · exact hr2.move (fun b hb hp => ⟨keep b hb (fun e => by have := hv b e; omega), by omega, hv' b hb (fun e => by have := hv b e; omega)⟩) (by omega)
    · exact h.kids.move (fun b hb hp => ⟨keepr b hb hp.2, hp.1, hv' b (by omega) hp.2⟩) (by omega)
theorem VsS.fin {w wr : World} {l : List VT} {v : Value} {xs : List Value} (h : VsS w l l.length v xs wr) : ∃ A' c', v = .slice A' l.length c' ∧ RRow wr (fun b => w.heap.size ≤ b) A' l := by
  have hkid := h.kids
  rw [List.take_length] at hkid
  rcases h.own.2 with ⟨q1, q2⟩ | ⟨g, cap, cur, q1, q2, q3, q4, q5, q6, q7⟩
  · exact ⟨none, 0, (by rw [q1, q2]), .inl q2⟩
  · refine ⟨_, _, q1, ?_⟩
    have hg : g < wr.heap.size := (Array.getElem?_eq_some_iff.1 q3).1
    refine .inr ⟨g, rfl, hg, q2, Kids.row (P := fun b => w.heap.size ≤ b) (hkid.move (fun b _ hp => ⟨rfl, hp.1⟩) (Nat.le_refl _)) (fun j hj => ?_)⟩
    rw [Nat.zero_add]
    have hown := h.own
    rw [q1] at hown
    exact (hown.cellAt j (by rw [← hown.1]; exact hj)).trans (List.getElem?_eq_getElem hj)
set_option maxRecDepth 100000 in
set_option maxHeartbeats 8000000 in
theorem vls_any {w : World} {l : List VT} {A : Option Addr} {c : Nat} (hl : l.length ≤ 100) (hb : ∀ v ∈ l, bigD 7 v = false) (hA : VRow w A l) : Calls Tryd.prog 25 #[.slice A l.length c] w (VsPost w l) := by
  obtain ⟨i0, hi0, hz0, hz1, hz2⟩ := info_parts info46
  have HA := Lib.hid hA
  have HBG := Lib.hid hb
  clear hA hb
  go_enter Tryd.func25, Tryd.ntmps25
  go_wp2
  go_loopw [3, 4] (fun m i wr => ∃ k v xs, k ≤ l.length ∧ i = .int .i64 (k : Nat) ∧ m = v ∧ Hid (VsS w l k v xs wr)) (fun _ i _ => l.length - (intOf i).toNat)
  case atStart => exact ⟨0, .slice none 0 0, [], by omega, rfl, rfl, Lib.hid ⟨Below.refl _ _, World.ownsRow_nil _ _ _ _, rfl⟩⟩
  case round =>
    obtain ⟨k, v, xs, hk, rfl, rfl, HS⟩ := hrel
    have q0 := HS.out.bel.size
    by_cases hlt : k < l.length
    · obtain ⟨Ar, cr, rfl⟩ := vformZ HS.out.own
      obtain ⟨b, o, rfl, hb, hr⟩ : ∃ b o, A = some ⟨b, o, none⟩ ∧ b < w.heap.size ∧ okL w l b o := by
        rcases HA.out with h1 | h1
        · omega
        · exact h1
      obtain ⟨b', o', hbo, _, hr1⟩ : ∃ b' o', some (⟨b, o, none⟩ : Addr) = some ⟨b', o', none⟩ ∧ b' < wr.heap.size ∧ okL wr l b' o' := by
        rcases (HA.out.later HS.out.bel : VRow wr (some ⟨b, o, none⟩) l) with h1 | h1
        · omega
        · exact h1
      injection hbo with hbo
      injection hbo with e1 e2
      subst e1 e2
      obtain ⟨A1, c1, e1, x0, x1, x2, x3, x4, x5, x6, hin⟩ := okV_in (okL_at hr1 k hlt)
      have HNK := Lib.hid hin.bounds
      have CALL : Hid (Calls Tryd.prog 18 #[.agg #[.int .i64 l[k].k, .int .i64 l[k].n, .string l[k].nm, .slice A1 l[k].args.length c1, .int .i64 l[k].node, e1, .int .i64 l[k].at_]] wr (VlPost wr l[k])) := Lib.hid (vl_tree 7 l[k] _ wr (HBG.out l[k] (List.getElem_mem hlt)) hin)
      clear hin hr hr1
      have hlti : (k : Int) < (l.length : Int) := by omega
      go_wp2_with fail
      refine Calls.mono CALL.out ?_; rintro e2 w2 ⟨A2, c2, rfl, hr2, hb2⟩
      have own2 := Below.own hb2 HS.out.own
      go_wp2_with (at_builtin; refine wpList_append_own_at _ rfl (.tmp 11) (.tmp 17) 43 rfl w.heap.size 46 i0 _ 8 88 Tryd.underlying43 hi0 hz0 hz1 hz2 rfl (by decide) (.slice Ar k cr) k xs rfl (own2.alloc _) ⟨w2.heap.size, 0, none⟩ 1 1 (kidV l[k] A2 c2) rfl rfl ?c1 ?c2 (by unfold maxLen; omega) (by omega) ?c3 ?_)
      case c1 => exact World.news_of_block (MapKept.heap_alloc w2 _).1
      case c2 => (intro u hu; simp only [kidV, List.mem_cons, List.not_mem_nil, or_false] at hu; rcases hu with rfl | rfl | rfl | rfl | rfl | rfl | rfl | rfl <;> rfl)
      case c3 => (have := hb2.size; show _ ≤ (w2.heap.push _).size; simp; omega)
      intro v1 w4 own4 gr4 _ at4
      have HS2 := Lib.hid (HS.out.step (A2 := A2) (c2 := c2) hlt HNK.out hb2 hr2 _ own4 gr4 at4)
      clear gr4 at4 own4
      go_wp2
      go_roundw
      case rel => exact ⟨k + 1, _, _, by omega, by go_num, rfl, HS2⟩
      case measure => simp [intOf]; omega
    · obtain rfl : k = l.length := by omega
      obtain ⟨A', c', rfl, q2⟩ := HS.out.fin
      have Q2 := Lib.hid q2
      have QB := Lib.hid HS.out.bel
      clear q2
      go_wp2
      go_ret
      exact ⟨A', c', rfl, Q2.out, QB.out⟩
end Go.Proofs.YtclilpabdcdeoaaDoor
