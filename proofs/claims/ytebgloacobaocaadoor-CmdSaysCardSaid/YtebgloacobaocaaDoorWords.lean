import Derived.Test.YtebgloacobaocaaDoorNum
namespace Go.Proofs.YtebgloacobaocaaDoor
open Go.ChangeShapes Go.WideShapes Go.ChangeAt Go.RowKit Go.Shelf Go.Lib CharsMath
set_option linter.unusedVariables false
def stepF (s : ByteArray) (cl : Int) (pos : Nat) : Option Nat → List ByteArray → Option Nat × List ByteArray
  | some a, acc => if cl = 3 then (none, acc ++ [s.extract a pos]) else (some a, acc)
  | none, acc => if cl = 3 then (none, acc) else (some pos, acc)
def endF (s : ByteArray) : Option Nat → List ByteArray → List ByteArray
  | some a, acc => acc ++ [s.extract a s.size]
  | none, acc => acc
def wordsGo (s : ByteArray) : Nat → Nat → Option Nat → List ByteArray → List ByteArray
  | 0, _, _, acc => acc
  | f + 1, i, fr, acc => if i < s.size then wordsGo s f (i + wd s i) (stepF s (classV (rn s i)) i fr acc).1 (stepF s (classV (rn s i)) i fr acc).2 else endF s fr acc
def wordsV (s : ByteArray) : List ByteArray := wordsGo s (s.size + 1) 0 none []
def strs (l : List ByteArray) : List Value := l.map .string
theorem strs_app (a b : List ByteArray) : strs (a ++ b) = strs a ++ strs b := by simp [strs]
theorem strs_len (a : List ByteArray) : (strs a).length = a.length := by simp [strs]
theorem strs_one (l : List ByteArray) : ∀ u ∈ strs l, u.oneCell' = true := fun u hu => by simp [strs] at hu; obtain ⟨x, _, rfl⟩ := hu; rfl
theorem info9 : (Tryd.prog.info? 9).map (fun i => (i.zero, i.size, i.bytes)) = some (some (.string .empty), 1, 16) := by kernel_rfl
theorem new_cell (w : World) (v : Value) (t : TypeId) : (w.alloc (.cells #[v] t)).cell? ((⟨w.heap.size, 0, none⟩ : Addr).add 0) = some v := by
  have := (MapKept.heap_alloc w (Obj.cells #[v] t)).1
  show (w.alloc (.cells #[v] t)).cell? ⟨w.heap.size, 0, none⟩ = some v
  unfold World.cell?
  rw [this]; rfl
theorem own_not_iter {w : World} {B e k n : Nat} {s : ByteArray} {pos : Nat} {v : Value} {xs : List Value} (h : w.ownsRow B e 1 v n xs) (hk : w.heap[k]? = some (.stringIter s pos)) : v.ownBlock ≠ some k := by
  intro e1
  rcases h.2 with ⟨rfl, _⟩ | ⟨g, cap, cur, rfl, _, hg, _⟩
  · simp [Value.ownBlock] at e1
  · simp [Value.ownBlock] at e1
    subst e1; rw [hk] at hg; cases hg
theorem own_keep {w w' : World} {B e n : Nat} {v : Value} {xs : List Value} (h : w.ownsRow B e 1 v n xs) (hb : ∀ g, v.ownBlock = some g → w'.heap[g]? = w.heap[g]?) : w'.ownsRow B e 1 v n xs := by
  refine ⟨h.1, ?_⟩
  rcases h.2 with h0 | ⟨g, cap, cur, rfl, h1, h2, h3⟩
  · exact .inl h0
  · exact .inr ⟨g, cap, cur, rfl, h1, (hb g rfl).trans h2, h3⟩
theorem own_iterAt {w : World} {B e k n : Nat} {s : ByteArray} {pos : Nat} {v : Value} {xs : List Value} (p2 : Nat) (h : w.ownsRow B e 1 v n xs) (hk : w.heap[k]? = some (.stringIter s pos)) : (w.iterAt k s p2).ownsRow B e 1 v n xs :=
  own_keep h (fun g hg => iterAt_other w k g s p2 (fun e1 => own_not_iter h hk (e1 ▸ hg)))
theorem own_below {w w' : World} {B e n : Nat} {v : Value} {xs : List Value} (h : w.ownsRow B e 1 v n xs) (hb : Below w.heap.size w w') : w'.ownsRow B e 1 v n xs :=
  own_keep h (fun g hg => hb.block g (h.lt g hg).2)
theorem It.grown {w wr w5 : World} {s : ByteArray} {pos n : Nat} {o : Obj} {v : Value} {xs : List Value} {e : Nat} (h : It w wr s pos) (own : wr.ownsRow w.heap.size e 1 v n xs) (gr : (wr.alloc o).grownBy w5 v.ownBlock) : It w w5 s pos := by
  have hlt : w.heap.size < wr.heap.size := (Array.getElem?_eq_some_iff.1 h.2).1
  have b1 : Below w.heap.size w (wr.alloc o) := h.1.alloc (Nat.le_of_lt hlt) o
  refine ⟨b1.grown gr b1.size (fun q hq => (own.lt q hq).1), ?_⟩
  rw [gr.block _ (by simp; omega) (fun e1 => own_not_iter own h.2 e1.symm)]
  show (wr.heap.push o)[w.heap.size]? = _
  rw [Array.getElem?_push, if_neg (by omega)]; exact h.2
/-- where a word began. -/
def FromV (fr : Option Nat) (pos : Nat) (v : Value) : Prop := (fr = none ∧ v = .int .i64 (-1)) ∨ ∃ a, fr = some a ∧ v = .int .i64 (a : Int) ∧ a ≤ pos
set_option maxRecDepth 100000 in
set_option maxHeartbeats 4000000 in
theorem words_any (s : ByteArray) (w : World) (hs : s.size ≤ 1000000) (hT : Tabs w) :
    Calls Tryd.prog 13 #[.string s] w fun e w' => ∃ A n c, e = .returned (.slice A n c) ∧ Hid (n = (wordsV s).length) ∧ Hid (w'.ownsRow w.heap.size 9 1 (.slice A n c) n (strs (wordsV s))) ∧ Hid (Below w.heap.size w w') := by
  have HT : Hid (Tabs w) := Lib.hid hT
  clear hT
  obtain ⟨i0, hi0, hz0, hz1, hz2⟩ := info_parts info9
  go_enter Tryd.func13, Tryd.ntmps13
  go_wp2
  go_loopg [3, 4] (s.size + 1) (fun gk lv fv wr => ∃ (pos f : Nat) (fr : Option Nat) (acc : List ByteArray) (A : Option Addr) (n c : Nat), lv = .slice A n c ∧ FromV fr pos fv ∧ Hid (It w wr s pos) ∧ pos ≤ s.size ∧ gk = f + 1 ∧ s.size ≤ pos + f ∧ Hid (n = acc.length) ∧ n ≤ pos ∧ Hid (wr.ownsRow w.heap.size 9 1 (.slice A n c) n (strs acc)) ∧ Hid (wordsGo s (f + 1) pos fr acc = wordsV s))
  case atStart => exact ⟨0, s.size, none, [], none, 0, 0, rfl, .inl ⟨rfl, rfl⟩, Lib.hid (It.start w s), by omega, rfl, by omega, Lib.hid rfl, by omega, Lib.hid (World.ownsRow_nil _ _ _ _), Lib.hid rfl⟩
  case round =>
    obtain ⟨pos, f, fr, acc, A, n, c, rfl, hfv, IT, hp, rfl, hf, HN, hn, OWN, hc⟩ := hrel
    by_cases hps : pos < s.size
    · have hnx := fun ty => run_next_any_at (P := Tryd.prog) wr w.heap.size s pos ty IT.out.2 hps
      have hw1 := wd_pos s pos hps
      have hw2 := wd_le s pos hps
      have hr := rn_le s pos hps
      obtain ⟨r, hrr⟩ : ∃ r, r = (Utf8.decode s pos).1 := ⟨_, rfl⟩
      obtain ⟨p2, hp2⟩ : ∃ p2, p2 = pos + (Utf8.decode s pos).2 := ⟨_, rfl⟩
      have er : rn s pos = r := hrr.symm
      have ep : pos + wd s pos = p2 := hp2.symm
      rw [← hrr, ← hp2] at hnx
      rw [er] at hr
      have I2 := Lib.hid (IT.out.move p2)
      have OWN2 := Lib.hid (own_iterAt p2 OWN.out IT.out.2)
      have HC : Hid (wordsGo s f p2 (stepF s (classV r) pos fr acc).1 (stepF s (classV r) pos fr acc).2 = wordsV s) := Lib.hid (by rw [← hc.out, ← er, ← ep]; simp only [wordsGo]; rw [if_pos hps, er])
      have T2 := Lib.hid (HT.out.below I2.out.1)
      have CC := Lib.hid (fun W (hT : Tabs W) => class_any (r : Int) W (by omega) (by omega) hT)
      have hpl : pos < p2 := by omega
      have hpl2 : p2 ≤ s.size := by omega
      obtain ⟨f, rfl⟩ : ∃ g, f = g + 1 := ⟨f - 1, by omega⟩
      obtain ⟨W2, hW2⟩ : ∃ W2, W2 = wr.iterAt w.heap.size s p2 := ⟨_, rfl⟩
      rw [← hW2] at hnx I2 T2 OWN2
      obtain ⟨cl, hcl⟩ : ∃ cl, cl = classV r := ⟨_, rfl⟩
      rw [← hcl] at CC HC
      clear hrr hp2 er ep IT hc hW2 OWN hcl
      by_cases h3 : cl = 3
      · subst h3
        rcases hfv with ⟨rfl, rfl⟩ | ⟨a, rfl, rfl, ha⟩
        · have HC2 : Hid (wordsGo s (f + 1) p2 none acc = wordsV s) := HC
          clear HC
          go_wp2_with fail
          refine (CC.out _ T2.out).mono ?_; rintro e w3 ⟨rfl, hb3⟩
          have I3 := Lib.hid (I2.out.same hb3)
          have OWN3 := Lib.hid (own_below OWN2.out hb3)
          clear I2 T2 hb3 OWN2
          go_wp2
          go_roundg (f + 1)
          case measure => omega
          case rel => exact ⟨p2, f, none, acc, A, n, c, rfl, .inl ⟨rfl, rfl⟩, I3, hpl2, rfl, by omega, HN, by omega, OWN3, HC2⟩
        · have HC2 : Hid (wordsGo s (f + 1) p2 none (acc ++ [s.extract a pos]) = wordsV s) := HC
          have ha0 : (0 : Int) ≤ (a : Int) := by omega
          have hai : (a : Int) ≤ (pos : Int) := by omega
          have hps' : (pos : Int) ≤ (s.size : Int) := by omega
          have hps2 : pos ≤ s.size := by omega
          clear HC
          go_wp2_with fail
          refine (CC.out _ T2.out).mono ?_; rintro e w3 ⟨rfl, hb3⟩
          have I3 := Lib.hid (I2.out.same hb3)
          have OWN3 := Lib.hid (own_below OWN2.out hb3)
          have WB : Hid (w.heap.size ≤ w3.heap.size) := Lib.hid I3.out.1.size
          clear I2 T2 hb3 OWN2
          go_wp2_with (at_builtin; refine wpList_append_lies _ rfl (.tmp 22) (.tmp 27) 37 rfl w.heap.size 9 i0 (.string .empty) 1 16 Tryd.underlying37 hi0 hz0 hz1 hz2 rfl (by decide) _ n (strs acc) rfl (OWN3.out.alloc _) ⟨w3.heap.size, 0, none⟩ 1 1 [.string (s.extract a pos)] rfl rfl ?c1 ?c2 (by omega) (by unfold maxLen; omega) (by omega) (Nat.le_trans WB.out (by simp)) (w3.heap.size + 1) (by simp) ?_)
          case c1 =>
            intro j u hj
            match j, hj with
            | 0, hj => simp only [List.getElem?_cons_zero, Option.some.injEq] at hj; subst hj; exact new_cell w3 _ 9
          case c2 => intro u hu; simp only [List.mem_singleton] at hu; subst hu; rfl
          intro gf cap w5 own5 gr5 at5 lt5
          have I5 := Lib.hid (I3.out.grown OWN3.out gr5)
          have OWN5 : Hid (w5.ownsRow w.heap.size 9 1 (.slice (some ⟨gf, 0, none⟩) (n + 1) cap) (n + 1) (strs (acc ++ [s.extract a pos]))) := Lib.hid (by rw [strs_app]; exact own5)
          have HN5 : Hid (n + 1 = (acc ++ [s.extract a pos]).length) := Lib.hid (by simp; exact HN.out)
          clear own5 gr5 at5 lt5 I3 OWN3
          go_wp2
          go_roundg (f + 1)
          case measure => omega
          case rel => exact ⟨p2, f, none, _, _, n + 1, _, rfl, .inl ⟨rfl, rfl⟩, I5, hpl2, rfl, by omega, HN5, by omega, OWN5, HC2⟩
      · have ec := ne_b h3
        rcases hfv with ⟨rfl, rfl⟩ | ⟨a, rfl, rfl, ha⟩
        · have HC2 : Hid (wordsGo s (f + 1) p2 (some pos) acc = wordsV s) := Lib.hid (by have := HC.out; simp only [stepF, if_neg h3] at this; exact this)
          clear HC h3
          go_wp2_with fail
          refine (CC.out _ T2.out).mono ?_; rintro e w3 ⟨rfl, hb3⟩
          have I3 := Lib.hid (I2.out.same hb3)
          have OWN3 := Lib.hid (own_below OWN2.out hb3)
          clear I2 T2 hb3 OWN2
          go_wp2
          go_roundg (f + 1)
          case measure => omega
          case rel => exact ⟨p2, f, some pos, acc, A, n, c, rfl, .inr ⟨pos, rfl, rfl, by omega⟩, I3, hpl2, rfl, by omega, HN, by omega, OWN3, HC2⟩
        · have HC2 : Hid (wordsGo s (f + 1) p2 (some a) acc = wordsV s) := Lib.hid (by have := HC.out; simp only [stepF, if_neg h3] at this; exact this)
          have ha0 : ¬ (a : Int) < 0 := by omega
          clear HC h3
          go_wp2_with fail
          refine (CC.out _ T2.out).mono ?_; rintro e w3 ⟨rfl, hb3⟩
          have I3 := Lib.hid (I2.out.same hb3)
          have OWN3 := Lib.hid (own_below OWN2.out hb3)
          clear I2 T2 hb3 OWN2
          go_wp2
          go_roundg (f + 1)
          case measure => omega
          case rel => exact ⟨p2, f, some a, acc, A, n, c, rfl, .inr ⟨a, rfl, rfl, by omega⟩, I3, hpl2, rfl, by omega, HN, by omega, OWN3, HC2⟩
    · have hnx := fun ty => run_next_end_at (P := Tryd.prog) wr w.heap.size s pos ty IT.out.2 hps
      have HV : Hid (wordsV s = endF s fr acc) := Lib.hid (by rw [← hc.out]; simp only [wordsGo]; rw [if_neg hps])
      clear hc
      rcases hfv with ⟨rfl, rfl⟩ | ⟨a, rfl, rfl, ha⟩
      · have HV2 : Hid (wordsV s = acc) := HV
        have E : Hid (n = (wordsV s).length) := Lib.hid (by rw [HV2.out, HN.out])
        have OWN3 : Hid (wr.ownsRow w.heap.size 9 1 (.slice A n c) n (strs (wordsV s))) := Lib.hid (by rw [HV2.out]; exact OWN.out)
        have HB := Lib.hid IT.out.1
        clear IT OWN HV
        go_wp2
        go_ret
        exact ⟨_, _, _, rfl, E, OWN3, HB⟩
      · have HV2 : Hid (wordsV s = acc ++ [s.extract a s.size]) := HV
        have E : Hid (n + 1 = (wordsV s).length) := Lib.hid (by rw [HV2.out, HN.out]; simp)
        have ha0 : (0 : Int) ≤ (a : Int) := by omega
        have hai : (a : Int) ≤ (s.size : Int) := by omega
        have hai2 : a ≤ s.size := by omega
        have I3 := IT; have OWN3 := OWN
        have WB : Hid (w.heap.size ≤ wr.heap.size) := Lib.hid I3.out.1.size
        clear IT OWN HV
        go_wp2_with (at_builtin; refine wpList_append_lies _ rfl (.tmp 38) (.tmp 42) 37 rfl w.heap.size 9 i0 (.string .empty) 1 16 Tryd.underlying37 hi0 hz0 hz1 hz2 rfl (by decide) _ n (strs acc) rfl (OWN3.out.alloc _) ⟨wr.heap.size, 0, none⟩ 1 1 [.string (s.extract a s.size)] rfl rfl ?c1 ?c2 (by omega) (by unfold maxLen; omega) (by omega) (Nat.le_trans WB.out (by simp)) (wr.heap.size + 1) (by simp) ?_)
        case c1 =>
          intro j u hj
          match j, hj with
          | 0, hj => simp only [List.getElem?_cons_zero, Option.some.injEq] at hj; subst hj; exact new_cell wr _ 9
        case c2 => intro u hu; simp only [List.mem_singleton] at hu; subst hu; rfl
        intro gf cap w5 own5 gr5 at5 lt5
        have I5 := Lib.hid (I3.out.grown OWN3.out gr5)
        have OWN5 : Hid (w5.ownsRow w.heap.size 9 1 (.slice (some ⟨gf, 0, none⟩) (n + 1) cap) (n + 1) (strs (wordsV s))) := Lib.hid (by rw [HV2.out, strs_app]; exact own5)
        have HB := Lib.hid I5.out.1
        clear own5 gr5 at5 lt5 I3 OWN3 I5
        go_wp2
        go_ret
        exact ⟨_, _, _, rfl, E, OWN5, HB⟩
end Go.Proofs.YtebgloacobaocaaDoor
