import Derived.Test.YtclilpabdcdeoaaDoorMp
namespace Go.Proofs.YtclilpabdcdeoaaDoor
open Go.ChangeShapes Go.WideShapes Go.ChangeAt Go.RowKit
set_option linter.unusedVariables false
/-- whoever holds cells of another type than a byte's, and is not the renderer, has not turned. -/
def Kp (R : Nat) (w w' : World) : Prop := ∀ k c t, t ≠ 5 → k ≠ R → w.heap[k]? = some (.cells c t (0, 0)) → w'.heap[k]? = some (.cells c t (0, 0))
theorem Kp.trans {R : Nat} {a b c : World} (h : Kp R a b) (k : Kp R b c) : Kp R a c := fun i x t ht hi hx => k i x t ht hi (h i x t ht hi hx)
theorem kp_refl (R : Nat) (w : World) : Kp R w w := fun _ _ _ _ _ h => h
theorem kp_alloc (R : Nat) (w : World) (o : Obj) : Kp R w (w.alloc o) := fun k c t _ _ h => by
  have hlt := (Array.getElem?_eq_some_iff.1 h).1
  show (w.heap.push o)[k]? = _
  rw [Array.getElem?_push, if_neg (by omega)]; exact h
theorem kp_drewN (R : Nat) (w : World) (n : Nat) : Kp R w (w.drewN n) := fun _ _ _ _ _ h => h
/-- the renderer: what it was given, and the text that it has written. -/
structure RS (w0 w : World) (R : Nat) (cs ks : Value) (s : ByteArray) : Prop where
  below : Below w0.heap.size w0 w
  hR : w0.heap.size ≤ R
  at_ : ∃ A n cap, w.heap[R]? = some (.cells #[cs, ks, .slice A n cap] 79 (0, 0)) ∧ w.ownsRow (R + 1) 5 1 (.slice A n cap) n (Lib.strCells s)
theorem strCells_app (a b : ByteArray) : Lib.strCells (a ++ b) = Lib.strCells a ++ Lib.strCells b := by
  unfold Lib.strCells
  rw [ByteArray.data_append, Array.toList_append, List.map_append]
theorem RS.alloc {w0 w : World} {R : Nat} {cs ks : Value} {s : ByteArray} (h : RS w0 w R cs ks s) (o : Obj) : RS w0 (w.alloc o) R cs ks s := by
  obtain ⟨A, n, cap, h1, h2⟩ := h.at_
  exact ⟨h.below.alloc h.below.size o, h.hR, A, n, cap, kp_alloc (R + 1) w o R _ 79 (by decide) (by omega) h1, h2.alloc o⟩
theorem RS.drewN {w0 w : World} {R : Nat} {cs ks : Value} {s : ByteArray} (h : RS w0 w R cs ks s) (q : Nat) : RS w0 (w.drewN q) R cs ks s := by
  obtain ⟨A, n, cap, h1, h2⟩ := h.at_
  exact ⟨h.below.trans ⟨rfl, rfl, rfl, Nat.le_refl _, fun _ _ => rfl⟩, h.hR, A, n, cap, h1, h2⟩
theorem own_type {w : World} {B n k : Nat} {v : Value} {xs : List Value} {c : Array Value} {t : TypeId} (h : w.ownsRow B 5 1 v n xs) (ht : t ≠ 5) (hk : w.heap[k]? = some (.cells c t (0, 0))) : v.ownBlock ≠ some k := by
  intro e1
  rcases h.2 with ⟨rfl, _⟩ | ⟨g, cap, cur, rfl, _, hg, _⟩
  · simp [Value.ownBlock] at e1
  · simp [Value.ownBlock] at e1
    subst e1; rw [hk] at hg; injection hg with hg; injection hg with _ hg; exact ht hg
theorem grown_kp {w w1 : World} {B n R : Nat} {v : Value} {xs : List Value} (own : w.ownsRow B 5 1 v n xs) (gr : w.grownBy w1 v.ownBlock) : Kp R w w1 := fun k c t ht _ h => by
  rw [gr.block k (Array.getElem?_eq_some_iff.1 h).1 (fun e => own_type own ht h e.symm)]; exact h
set_option maxRecDepth 100000 in
set_option maxHeartbeats 4000000 in
theorem text_any {w0 w : World} {R : Nat} {cs ks : Value} {s : ByteArray} (t : ByteArray) (h : RS w0 w R cs ks s) (hs : s.size + t.size ≤ 1000000) :
    Calls Tryd.prog 35 #[.pointer (some ⟨R, 0, none⟩), .string t] w fun e w' => e = .returned (.tuple #[]) ∧ Hid (RS w0 w' R cs ks (s ++ t)) ∧ Hid (Kp R w w') := by
  obtain ⟨i0, hi, hz0, hz1, hz2⟩ := info_parts info5
  obtain ⟨A, n, cap, hRd, own⟩ := h.at_
  have hn : n = s.size := by have := own.1; rw [Lib.strCells_length] at this; omega
  have hRl : R < w.heap.size := (Array.getElem?_eq_some_iff.1 hRd).1
  have c2 : w.cell? ⟨R, 2, none⟩ = some (.slice A n cap) := by simp [World.cell?, hRd]
  have OWN := Lib.hid own
  have HRD := Lib.hid hRd
  have H := Lib.hid h
  have HN := Lib.hid hn
  have hnt : n + t.size ≤ 1000000 := by omega
  clear own hRd h hn
  go_enter Tryd.func35, Tryd.ntmps35
  go_wp2_with (at_builtin; refine Lib.wpList_append_own_string _ rfl (.tmp 8) (.tmp 9) 77 9 rfl (R + 1) 5 i0 Tryd.underlying77 Tryd.underlying9 hi hz0 hz1 hz2 _ n (Lib.strCells s) rfl OWN.out t rfl (by unfold maxLen; omega) (by omega) (by omega) ?_)
  intro v' w1 own1 gr hnn
  obtain ⟨A', n', cap', rfl⟩ : ∃ A' n' cap', v' = .slice A' n' cap' := by
    rcases own1.2 with ⟨e, _⟩ | ⟨g, cap, _, e, _⟩
    · exact ⟨_, _, _, e⟩
    · exact ⟨_, _, _, e⟩
  have hn' : n' = n + t.size := by
    rcases own1.2 with ⟨e, h0⟩ | ⟨g, cap, _, e, _⟩
    · injection e with _ e; omega
    · injection e with _ e
  have K1 : Hid (Kp R w w1) := Lib.hid (grown_kp OWN.out gr)
  have R1 : w1.heap[R]? = some (.cells #[cs, ks, .slice A n cap] 79 (0, 0)) := grown_kp (R := R + 1) OWN.out gr R _ 79 (by decide) (by omega) HRD.out
  have c2' : w1.cell? ⟨R, 2, none⟩ = some (.slice A n cap) := by simp [World.cell?, R1]
  have f2' : w1.frozen? ⟨R, 2, none⟩ = false := by simp [World.frozen?, R1]
  have FIN : Hid (RS w0 (w1.setCell ⟨R, 2, none⟩ (.slice A' n' cap')) R cs ks (s ++ t)) := Lib.hid (by
    have hRne : (Value.slice A' n' cap').ownBlock ≠ some R := own_type own1 (by decide) R1
    refine ⟨?_, H.out.hR, A', n', cap', ?_, ?_⟩
    · exact (H.out.below.grown gr H.out.below.size (fun q hq => by have := (OWN.out.lt q hq).1; have := H.out.hR; omega)).setCell (p := ⟨R, 2, none⟩) H.out.hR _
    · simp [World.setCell, Array.getElem?_modify, R1]
    · have := ownsRow_setCell_other own1 (a := ⟨R, 2, none⟩) hRne (.slice A' n' cap')
      rw [strCells_app, hn']; rw [hn'] at this; exact this)
  have KF : Hid (Kp R w (w1.setCell ⟨R, 2, none⟩ (.slice A' n' cap'))) := Lib.hid (fun k c t ht hk hx => by
    have := K1.out k c t ht hk hx
    simp only [World.setCell]; rw [Array.getElem?_modify, if_neg (fun e => hk e.symm)]; exact this)
  clear own1 gr hnn hn' K1 R1 H OWN HRD
  go_wp2
  first | go_end0 | go_ret
  exact ⟨rfl, FIN, KF⟩
end Go.Proofs.YtclilpabdcdeoaaDoor
