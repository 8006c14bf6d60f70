import Derived.Test.YtkimnbdjdhapnaaDoorTok
import Derived.Deep.AppendLies
namespace Go.Proofs.YtkimnbdjdhapnaaDoor
open Go.ChangeShapes Go.WideShapes Go.ChangeAt Go.RowKit Go.Shelf Go.Lib CharsMath
set_option linter.unusedVariables false
theorem info28 : (Tryd.prog.info? 28).map (fun i => (i.zero, i.size, i.bytes)) = some (some (.agg #[.int .i64 0, .string .empty, .int .i64 0, .int .i64 0]), 4, 40) := by kernel_rfl
/-- the cells of a word. -/
def cellsT (x : Tok) : List Value := [.int .i64 x.1, .string x.2.1, .int .i64 x.2.2.1, .int .i64 x.2.2.2]
def toksC (l : List Tok) : List Value := l.flatMap cellsT
theorem toksC_len (l : List Tok) : (toksC l).length = l.length * 4 := by
  induction l with
  | nil => rfl
  | cons x l ih => rw [show toksC (x :: l) = cellsT x ++ toksC l from rfl, List.length_append, ih]; simp [cellsT]; omega
theorem toksC_app (a b : List Tok) : toksC (a ++ b) = toksC a ++ toksC b := by simp [toksC]
theorem own_keep {w w' : World} {B e z n : Nat} {v : Value} {xs : List Value} (h : w.ownsRow B e z v n xs) (hb : ∀ g, v.ownBlock = some g → w'.heap[g]? = w.heap[g]?) : w'.ownsRow B e z v n xs := by
  refine ⟨h.1, ?_⟩
  rcases h.2 with h0 | ⟨g, cap, cur, rfl, h1, h2, h3⟩
  · exact .inl h0
  · exact .inr ⟨g, cap, cur, rfl, h1, (hb g rfl).trans h2, h3⟩
theorem own_below {w w' : World} {B e z n : Nat} {v : Value} {xs : List Value} (h : w.ownsRow B e z v n xs) (hb : Below w.heap.size w w') : w'.ownsRow B e z v n xs :=
  own_keep h (fun g hg => hb.block g (h.lt g hg).2)
theorem new4 (w : World) (a b c d : Value) (t : TypeId) : ∀ j u, ([a, b, c, d] : List Value)[j]? = some u → (w.alloc (.cells #[a, b, c, d] t)).cell? ((⟨w.heap.size, 0, none⟩ : Addr).add j) = some u := by
  intro j u hj
  have := (MapKept.heap_alloc w (Obj.cells #[a, b, c, d] t)).1
  rw [Go.WideShapes.add_plain]
  unfold World.cell?
  rw [this]
  simpa using hj
/-- one round of Lex: of the gap g, of the word k. -/
def stepL (s : ByteArray) (f i : Nat) (l : List Tok) (g : Option Nat) (k : Int × Nat) : List Tok × Int × Nat :=
  match g with
  | none => ([], 3, i)
  | some n => if 0 < n then lexGo s f (i + n) l else if k.1 = 0 then ([], 3, i) else if l.length = 2000 then ([], 2, i)
    else lexGo s f (i + k.2) (l ++ [(k.1, s.extract i (i + k.2), i, i + k.2)])
/-- what Lex answers. -/
def LexPost (w : World) (s : ByteArray) (e : Ending) (w' : World) : Prop := ∃ A c, e = .returned (.tuple #[.slice A (lexV s).1.length c, .int .i64 (lexV s).2.1, .int .i64 (lexV s).2.2]) ∧ w'.ownsRow w.heap.size 28 4 (.slice A (lexV s).1.length c) (lexV s).1.length (toksC (lexV s).1) ∧ Below w.heap.size w w'
theorem LexPost.none_ {w w' : World} {s : ByteArray} {k : Int} {i : Nat} {e : Ending} (h : ([], k, i) = lexV s) (he : e = .returned (.tuple #[.slice none 0 0, .int .i64 k, .int .i64 i])) (hb : Below w.heap.size w w') : LexPost w s e w' := by
  unfold LexPost; rw [← h]; exact ⟨none, 0, he, World.ownsRow_nil _ _ _ _, hb⟩
theorem LexPost.some_ {w w' : World} {s : ByteArray} {l : List Tok} {A : Option Addr} {n c : Nat} {e : Ending} (h : (l, 0, 0) = lexV s) (hn : n = l.length) (he : e = .returned (.tuple #[.slice A n c, .int .i64 0, .int .i64 0])) (ow : w'.ownsRow w.heap.size 28 4 (.slice A n c) n (toksC l)) (hb : Below w.heap.size w w') : LexPost w s e w' := by
  unfold LexPost; rw [← h]; subst hn; exact ⟨A, c, he, ow, hb⟩
set_option maxHeartbeats 4000000 in
set_option maxRecDepth 100000 in
theorem lex_any (s : ByteArray) (w : World) (hs : s.size ≤ 1000000) (hT : Tabs w) : Calls Tryd.prog 8 #[.string s] w fun e w' => LexPost w s e w' := by
  have HT := Lib.hid hT
  clear hT
  by_cases hbig : 4000 < s.size
  · have d := decide_eq_true (show (4000 : Int) < (s.size : Int) by omega)
    have LV : Hid (([], 2, 0) = lexV s) := Lib.hid (by unfold lexV; rw [if_pos hbig])
    clear hbig
    go_enter Tryd.func8, Tryd.ntmps8
    go_wp2_with fail
    go_returns
    exact LexPost.none_ LV.out rfl (Below.refl _ _)
  have d := decide_eq_false (show ¬ (4000 : Int) < (s.size : Int) by omega)
  have hs4 : s.size ≤ 4000 := by omega
  obtain ⟨R, hR⟩ : ∃ R, R = lexV s := ⟨_, rfl⟩
  have LV : Hid (lexGo s (s.size + 1) 0 [] = R) := Lib.hid (by rw [hR]; unfold lexV; rw [if_neg hbig])
  have HR := Lib.hid hR
  clear hbig hR
  obtain ⟨i0, hi0, hz0, hz1, hz2⟩ := info_parts info28
  go_enter Tryd.func8, Tryd.ntmps8
  go_wp2_with fail
  go_loopg [2, 4] (s.size + 1) (fun gk lv av wr => ∃ (i f : Nat) (l : List Tok) (A : Option Addr) (n c : Nat), lv = .slice A n c ∧ av = .int .i64 i ∧ i ≤ s.size ∧ gk = f + 1 ∧ s.size ≤ i + f ∧ Hid (n = l.length) ∧ n ≤ i ∧ Hid (wr.ownsRow w.heap.size 28 4 (.slice A n c) n (toksC l)) ∧ Hid (Below w.heap.size w wr) ∧ Hid (lexGo s (f + 1) i l = R))
  case atStart => exact ⟨0, s.size, [], none, 0, 0, rfl, rfl, by omega, rfl, by omega, Lib.hid rfl, by omega, Lib.hid (World.ownsRow_nil _ _ _ _), Lib.hid (Below.refl _ _), LV⟩
  case round =>
    obtain ⟨i, f, l, A, n, c, rfl, rfl, hi, rfl, hf, HN, hni, OWN, HB, hc⟩ := hrel
    by_cases hps : i < s.size
    · have db := decide_eq_true (show (i : Int) < (s.size : Int) by omega)
      have q0 : (0 : Int) ≤ (i : Int) := by omega
      have q1 : (i : Int) ≤ (s.size : Int) := by omega
      obtain ⟨t, ht⟩ : ∃ t, t = s.extract i s.size := ⟨_, rfl⟩
      have htz : t.size = s.size - i := by rw [ht]; exact (suffix_at s i (by omega)).2
      have HX := Lib.hid ht
      have GA := Lib.hid (fun W (hT : Tabs W) => gap_any t (by omega) W (by omega) hT)
      have TA := Lib.hid (fun W (hT : Tabs W) => tok_any t (by omega) W (by omega) hT)
      have GL := Lib.hid (gapV_le t (by omega))
      have TO := Lib.hid (fun (a : gapV t = some 0) (b : (tokV t).1 ≠ 0) => ht ▸ tok_ok (s := s) (i := i) hps (ht ▸ a) (ht ▸ b))
      have T1 := Lib.hid (HT.out.below HB.out)
      obtain ⟨f, rfl⟩ : ∃ g, f = g + 1 := ⟨f - 1, by omega⟩
      have HC : Hid (stepL s (f + 1) i l (gapV t) (tokV t) = R) := Lib.hid (by
        rw [← hc.out, ht, lexGo.eq_def s (f + 1 + 1)]
        simp only [if_pos hps]
        unfold stepL
        cases gapV (s.extract i s.size) <;> rfl)
      obtain ⟨g, hg⟩ : ∃ g, g = gapV t := ⟨_, rfl⟩
      rw [← hg] at GA GL TO HC
      obtain ⟨k, hk⟩ : ∃ k, k = tokV t := ⟨_, rfl⟩
      rw [← hk] at TA TO HC
      obtain ⟨k, m⟩ := k
      simp only [] at TA TO HC
      rw [ht] at GA TA
      have HTZ := Lib.hid htz
      clear ht htz hg hk hc HX
      cases g with
      | none =>
        have FV : Hid (([], 3, i) = lexV s) := Lib.hid (by rw [← HR.out]; exact HC.out)
        clear HC TO TA GL
        go_wp2_with fail
        refine (GA.out _ T1.out).mono ?_; rintro e w2 ⟨rfl, hb2⟩
        have B2 := Lib.hid (bt HB.out hb2)
        clear hb2
        go_wp2_with fail
        go_returns
        exact LexPost.none_ FV.out rfl B2.out
      | some j =>
        have hj : j ≤ s.size - i := by have := GL.out j rfl; rw [HTZ.out] at this; exact this
        by_cases hj0 : 0 < j
        · have FV : Hid (lexGo s (f + 1) (i + j) l = R) := Lib.hid (by have := HC.out; unfold stepL at this; simp only [] at this; rw [if_pos hj0] at this; exact this)
          obtain ⟨P, hP⟩ : ∃ P : Nat, (i : Int) + (j : Int) = P := ⟨i + j, by omega⟩
          have FV2 : Hid (lexGo s (f + 1) P l = R) := Lib.hid (by rw [show P = i + j by omega]; exact FV.out)
          have dj := decide_eq_true (show (0 : Int) < (j : Int) by omega)
          have p1 : P ≤ s.size := by omega
          have p2 : i < P := by omega
          clear HC TO TA GL FV HTZ
          go_wp2_with fail
          refine (GA.out _ T1.out).mono ?_; rintro e w2 ⟨rfl, hb2⟩
          have B2 := Lib.hid (bt HB.out hb2)
          have OWN2 := Lib.hid (own_below OWN.out hb2)
          clear hb2
          simp only [gapN, Option.getD_some, Option.isSome_some]
          go_wp2_with fail
          go_roundg (f + 1)
          case measure => omega
          case rel => exact ⟨P, f, l, A, n, c, rfl, by first | rfl | go_num, p1, rfl, by omega, HN, by omega, OWN2, B2, FV2⟩
        · obtain rfl : j = 0 := by omega
          have HC2 : Hid ((if k = 0 then ([], 3, i) else if l.length = 2000 then ([], 2, i) else lexGo s (f + 1) (i + m) (l ++ [(k, s.extract i (i + m), i, i + m)])) = R) := Lib.hid (by have := HC.out; unfold stepL at this; simp only [] at this; rw [if_neg hj0] at this; exact this)
          clear HC GL hj0
          by_cases hk0 : k = 0
          · subst hk0
            have FV : Hid (([], 3, i) = lexV s) := Lib.hid (by rw [← HR.out, ← HC2.out, if_pos rfl])
            clear HC2 TO
            go_wp2_with fail
            refine (GA.out _ T1.out).mono ?_; rintro e w2 ⟨rfl, hb2⟩
            have B2 := Lib.hid (bt HB.out hb2)
            have T2 := Lib.hid (T1.out.below hb2)
            clear hb2
            simp only [gapN, Option.getD_some, Option.isSome_some]
            go_wp2_with fail
            refine (TA.out _ T2.out).mono ?_; rintro e w3 ⟨rfl, hb3⟩
            have B3 := Lib.hid (bt B2.out hb3)
            clear hb3
            go_wp2_with fail
            go_returns
            exact LexPost.none_ FV.out rfl B3.out
          · have ek : (k == 0) = false := beq_eq_false_iff_ne.2 hk0
            by_cases hn2 : n = 2000
            · subst hn2
              have FV : Hid (([], 2, i) = lexV s) := Lib.hid (by rw [← HR.out, ← HC2.out, if_neg hk0, if_pos HN.out.symm])
              clear HC2 TO hk0
              go_wp2_with fail
              refine (GA.out _ T1.out).mono ?_; rintro e w2 ⟨rfl, hb2⟩
              have B2 := Lib.hid (bt HB.out hb2)
              have T2 := Lib.hid (T1.out.below hb2)
              clear hb2
              simp only [gapN, Option.getD_some, Option.isSome_some]
              go_wp2_with fail
              refine (TA.out _ T2.out).mono ?_; rintro e w3 ⟨rfl, hb3⟩
              have B3 := Lib.hid (bt B2.out hb3)
              clear hb3
              go_wp2_with fail
              go_returns
              exact LexPost.none_ FV.out rfl B3.out
            · have en : ((n : Int) == 2000) = false := beq_eq_false_iff_ne.2 (by omega)
              have tt := TO.out rfl hk0
              have t1 : i < i + m := tt.lt
              have t2 : i + m ≤ s.size := tt.le
              obtain ⟨P, hP⟩ : ∃ P : Nat, (i : Int) + (m : Int) = P := ⟨i + m, by omega⟩
              have HP : Hid (P = i + m) := Lib.hid (by omega)
              have FV : Hid (lexGo s (f + 1) P (l ++ [(k, s.extract i P, i, P)]) = R) := Lib.hid (by rw [HP.out, ← HC2.out, if_neg hk0, if_neg (by rw [← HN.out]; exact hn2)])
              have p1 : P ≤ s.size := by omega
              have p2 : i < P := by omega
              have p3 : (P : Int) ≤ (s.size : Int) := by omega
              have p4 : (i : Int) ≤ (P : Int) := by omega
              have hn4 : n < 4000 := by omega
              clear HC2 TO hk0 hn2 tt t1 t2 HTZ hj
              go_wp2_with fail
              refine (GA.out _ T1.out).mono ?_; rintro e w2 ⟨rfl, hb2⟩
              have B2 := Lib.hid (bt HB.out hb2)
              have T2 := Lib.hid (T1.out.below hb2)
              have OWN2 := Lib.hid (own_below OWN.out hb2)
              clear hb2
              simp only [gapN, Option.getD_some, Option.isSome_some]
              go_wp2_with fail
              refine (TA.out _ T2.out).mono ?_; rintro e w3 ⟨rfl, hb3⟩
              have B3 := Lib.hid (bt B2.out hb3)
              have OWN3 := Lib.hid (own_below OWN2.out hb3)
              have WB : Hid (w.heap.size ≤ w3.heap.size) := Lib.hid B3.out.size
              have LEN : Hid ((toksC l).length = n * 4) := Lib.hid (by rw [toksC_len, HN.out])
              clear hb3
              go_wp2_with (at_builtin; refine wpList_append_lies _ rfl (.tmp 44) (.tmp 57) 23 rfl w.heap.size 28 i0 _ 4 40 Tryd.underlying23 hi0 hz0 hz1 hz2 rfl (by decide) _ n (toksC l) rfl (OWN3.out.alloc _) ⟨w3.heap.size, 0, none⟩ 1 1 [.int .i64 k, .string (s.extract i P), .int .i64 i, .int .i64 P] rfl rfl ?c1 ?c2 (by omega) (by unfold maxLen; omega) (by omega) (Nat.le_trans WB.out (by simp)) (w3.heap.size + 1) (by simp) ?_)
              case c1 => exact new4 w3 _ _ _ _ 28
              case c2 => intro u hu; simp at hu; rcases hu with rfl | rfl | rfl | rfl <;> rfl
              intro gf cap w5 own5 gr5 at5 lt5
              have B5 : Hid (Below w.heap.size w w5) := Lib.hid ((B3.out.alloc B3.out.size _).grown gr5 (by have := B3.out.size; simp; omega) (fun z hz => (OWN3.out.lt z hz).1))
              have OWN5 : Hid (w5.ownsRow w.heap.size 28 4 (.slice (some ⟨gf, 0, none⟩) (n + 1) cap) (n + 1) (toksC (l ++ [(k, s.extract i P, i, P)]))) := Lib.hid (by rw [toksC_app]; exact own5)
              have HN5 : Hid (n + 1 = (l ++ [(k, s.extract i P, i, P)]).length) := Lib.hid (by simp; exact HN.out)
              clear own5 gr5 at5 lt5 OWN3 OWN2 OWN
              go_wp2_with fail
              go_roundg (f + 1)
              case measure => omega
              case rel => exact ⟨P, f, _, _, n + 1, _, rfl, by first | rfl | go_num, p1, rfl, by omega, HN5, by omega, OWN5, B5, FV⟩
    · have db := decide_eq_false (show ¬ (i : Int) < (s.size : Int) by omega)
      have FV : Hid ((l, 0, 0) = lexV s) := Lib.hid (by rw [← HR.out, ← hc.out, lexGo.eq_def]; simp only [if_neg hps])
      clear hc
      go_wp2_with fail
      go_returns
      exact LexPost.some_ FV.out HN.out rfl OWN.out HB.out
end Go.Proofs.YtkimnbdjdhapnaaDoor
