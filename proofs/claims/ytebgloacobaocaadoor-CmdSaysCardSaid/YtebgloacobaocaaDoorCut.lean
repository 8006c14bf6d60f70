import Derived.Test.YtebgloacobaocaaDoorFirst
import Derived.Test.YtebgloacobaocaaDoorWords
import Derived.Test.YtebgloacobaocaaDoorShow
namespace Go.Proofs.YtebgloacobaocaaDoor
open Go.ChangeShapes Go.WideShapes Go.ChangeAt Go.RowKit Go.Shelf Go.Lib CharsMath
set_option linter.unusedVariables false
theorem ext_size (s : ByteArray) (a b : Nat) (hb : b ≤ s.size) : (s.extract a b).size = b - a := by
  rw [ByteArray.size_extract]; omega
theorem ext_get (s : ByteArray) (a b j : Nat) (hb : b ≤ s.size) (hj : a + j < b) : (s.extract a b).get! j = s.get! (a + j) := by
  have h1 : j < (s.extract a b).size := by rw [ext_size s a b hb]; omega
  rw [get_eq _ _ h1, get_eq _ _ (show a + j < s.size by omega)]
  exact ByteArray.getElem_extract h1
theorem first_tail (s : ByteArray) (pos : Nat) (h : pos < s.size) : firstV (s.extract pos s.size) = (rn s pos, wd s pos) := by
  have hz := ext_size s pos s.size (Nat.le_refl _)
  have hA : At s pos (s.extract pos s.size) := ⟨by omega, fun j hj => by rw [ext_get s pos s.size j (Nat.le_refl _) (by omega)]⟩
  have hd := decode_tail s (s.extract pos s.size) pos 0 hA (by omega)
  rw [Nat.add_zero] at hd
  unfold firstV
  rw [if_pos (by omega)]
  unfold rn wd
  rw [hd]
theorem ext_join (s : ByteArray) (a b c : Nat) (h1 : a ≤ b) (h2 : b ≤ c) : s.extract a b ++ s.extract b c = s.extract a c := by
  rw [ByteArray.extract_append_extract]
  congr 1 <;> omega
theorem ext_nil (s : ByteArray) (b c : Nat) : (⟨#[]⟩ : ByteArray) ++ s.extract b c = s.extract b c := by
  exact ByteArray.empty_append
/-- the word under way. -/
def WordV (s : ByteArray) (fr : Option Nat) (pos : Nat) (v : Value) : Prop := (fr = none ∧ v = .string ⟨#[]⟩) ∨ ∃ a t, fr = some a ∧ v = .string t ∧ Hid (t = s.extract a pos) ∧ a < pos
set_option maxRecDepth 100000 in
set_option maxHeartbeats 4000000 in
theorem cut_any (s : ByteArray) (w : World) (hs : s.size ≤ 1000000) (hT : Tabs w) :
    Calls Tryd.prog 20 #[.string s] w fun e w' => ∃ A n c, e = .returned (.slice A n c) ∧ Hid (n = (wordsV s).length) ∧ Hid (w'.ownsRow w.heap.size 9 1 (.slice A n c) n (strs (wordsV s))) ∧ Hid (Below w.heap.size w w') := by
  have HT : Hid (Tabs w) := Lib.hid hT
  clear hT
  have ev := emptyV
  obtain ⟨i0, hi0, hz0, hz1, hz2⟩ := info_parts info9
  go_enter Tryd.func20, Tryd.ntmps20
  go_wp2
  go_loopg [3, 4] (s.size + 1) (fun gk lv fv wr => ∃ (pos f : Nat) (fr : Option Nat) (acc : List ByteArray) (A : Option Addr) (n c : Nat), lv = .slice A n c ∧ WordV s fr pos fv ∧ Hid (It w wr s pos) ∧ pos ≤ s.size ∧ gk = f + 1 ∧ s.size ≤ pos + f ∧ Hid (n = acc.length) ∧ n ≤ pos ∧ Hid (wr.ownsRow w.heap.size 9 1 (.slice A n c) n (strs acc)) ∧ Hid (wordsGo s (f + 1) pos fr acc = wordsV s))
  case atStart => exact ⟨0, s.size, none, [], none, 0, 0, rfl, .inl ⟨rfl, rfl⟩, Lib.hid (It.start w s), by omega, rfl, by omega, Lib.hid rfl, by omega, Lib.hid (World.ownsRow_nil _ _ _ _), Lib.hid rfl⟩
  case round =>
    obtain ⟨pos, f, fr, acc, A, n, c, rfl, hfv, IT, hp, rfl, hf, HN, hn, OWN, hc⟩ := hrel
    by_cases hps : pos < s.size
    · have hnx := fun ty => run_next_any_at (P := Tryd.prog) wr w.heap.size s pos ty IT.out.2 hps
      have hw1 := wd_pos s pos hps
      have hw2 := wd_le s pos hps
      have hr := rn_le s pos hps
      obtain ⟨r, hrr⟩ : ∃ r, r = (Utf8.decode s pos).1 := ⟨_, rfl⟩
      obtain ⟨p2, hp2⟩ : ∃ p2, p2 = pos + (Utf8.decode s pos).2 := ⟨_, rfl⟩
      have er : rn s pos = r := hrr.symm
      have ep : pos + wd s pos = p2 := hp2.symm
      obtain ⟨m, hm⟩ : ∃ m, m = wd s pos := ⟨_, rfl⟩
      rw [← hrr, ← hp2] at hnx
      rw [er] at hr
      have CF : Hid (∀ W, Calls Tryd.prog 29 #[.string (s.extract pos s.size)] W fun e w' => e = .returned (.tuple #[.int .i32 r, .int .i64 m]) ∧ Below W.heap.size W w') := Lib.hid (fun W => by
        have := first_any (s.extract pos s.size) W (by unfold maxLen; rw [ext_size s _ _ (Nat.le_refl _)]; omega)
        rw [first_tail s pos hps, er, ← hm] at this
        exact this)
      have I2 := Lib.hid (IT.out.move p2)
      have OWN2 := Lib.hid (own_iterAt p2 OWN.out IT.out.2)
      have HC : Hid (wordsGo s f p2 (stepF s (classV r) pos fr acc).1 (stepF s (classV r) pos fr acc).2 = wordsV s) := Lib.hid (by rw [← hc.out, ← er, ← ep]; simp only [wordsGo]; rw [if_pos hps, er])
      have T2 := Lib.hid (HT.out.below I2.out.1)
      have CC := Lib.hid (fun W (hT : Tabs W) => rclass_any (r : Int) W (by omega) (by omega) hT)
      have hpl : pos < p2 := by omega
      have hpl2 : p2 ≤ s.size := by omega
      have hsum : (pos : Int) + (m : Int) = p2 := by omega
      have hm1 : m ≤ s.size := by omega
      obtain ⟨f, rfl⟩ : ∃ g, f = g + 1 := ⟨f - 1, by omega⟩
      obtain ⟨W2, hW2⟩ : ∃ W2, W2 = wr.iterAt w.heap.size s p2 := ⟨_, rfl⟩
      rw [← hW2] at hnx I2 T2 OWN2
      obtain ⟨cl, hcl⟩ : ∃ cl, cl = classV r := ⟨_, rfl⟩
      rw [← hcl] at CC HC
      have q0 : (0 : Int) ≤ (pos : Int) := by omega
      have q1 : (pos : Int) ≤ (s.size : Int) := by omega
      have q2 : (pos : Int) ≤ (p2 : Int) := by omega
      have q3 : (p2 : Int) ≤ (s.size : Int) := by omega
      have q4 : pos ≤ s.size := by omega
      have q5 : pos ≤ p2 := by omega
      clear hrr hp2 er ep IT hc hW2 OWN hcl hw1 hw2 hm
      by_cases h3 : cl = 3
      · subst h3
        rcases hfv with ⟨rfl, rfl⟩ | ⟨a, t, rfl, rfl, ht, ha⟩
        · have HC2 : Hid (wordsGo s (f + 1) p2 none acc = wordsV s) := HC
          clear HC
          go_wp2_with fail
          refine (CF.out _).mono ?_; rintro e w2 ⟨rfl, hb2⟩
          have I2b := Lib.hid (I2.out.same hb2)
          have OWN2b := Lib.hid (own_below OWN2.out hb2)
          have T2b := Lib.hid (T2.out.below hb2)
          clear I2 T2 hb2 OWN2
          go_wp2_with fail
          refine (CC.out _ T2b.out).mono ?_; rintro e w3 ⟨rfl, hb3⟩
          have I3 := Lib.hid (I2b.out.same hb3)
          have OWN3 := Lib.hid (own_below OWN2b.out hb3)
          clear I2b T2b hb3 OWN2b
          go_wp2
          go_roundg (f + 1)
          case measure => omega
          case rel => exact ⟨p2, f, none, acc, A, n, c, rfl, .inl ⟨rfl, rfl⟩, I3, hpl2, rfl, by omega, HN, by omega, OWN3, HC2⟩
        · have HC2 : Hid (wordsGo s (f + 1) p2 none (acc ++ [t]) = wordsV s) := Lib.hid (by rw [ht.out]; exact HC.out)
          have hne : t.toList.isEmpty = false := isEmpty_of t (by rw [ht.out, ext_size s a pos q4]; omega)
          clear HC
          go_wp2_with fail
          refine (CF.out _).mono ?_; rintro e w2 ⟨rfl, hb2⟩
          have I2b := Lib.hid (I2.out.same hb2)
          have OWN2b := Lib.hid (own_below OWN2.out hb2)
          have T2b := Lib.hid (T2.out.below hb2)
          clear I2 T2 hb2 OWN2
          go_wp2_with fail
          refine (CC.out _ T2b.out).mono ?_; rintro e w3 ⟨rfl, hb3⟩
          have I3 := Lib.hid (I2b.out.same hb3)
          have OWN3 := Lib.hid (own_below OWN2b.out hb3)
          have WB : Hid (w.heap.size ≤ w3.heap.size) := Lib.hid I3.out.1.size
          clear I2b T2b hb3 OWN2b
          go_wp2_with (at_builtin; refine wpList_append_lies _ rfl (.tmp 27) (.tmp 29) 37 rfl w.heap.size 9 i0 (.string .empty) 1 16 Tryd.underlying37 hi0 hz0 hz1 hz2 rfl (by decide) _ n (strs acc) rfl (OWN3.out.alloc _) ⟨w3.heap.size, 0, none⟩ 1 1 [.string t] rfl rfl ?c1 ?c2 (by omega) (by unfold maxLen; omega) (by omega) (Nat.le_trans WB.out (by simp)) (w3.heap.size + 1) (by simp) ?_)
          case c1 =>
            intro j u hj
            match j, hj with
            | 0, hj => simp only [List.getElem?_cons_zero, Option.some.injEq] at hj; subst hj; exact new_cell w3 _ 9
          case c2 => intro u hu; simp only [List.mem_singleton] at hu; subst hu; rfl
          intro gf cap w5 own5 gr5 at5 lt5
          have I5 := Lib.hid (I3.out.grown OWN3.out gr5)
          have OWN5 : Hid (w5.ownsRow w.heap.size 9 1 (.slice (some ⟨gf, 0, none⟩) (n + 1) cap) (n + 1) (strs (acc ++ [t]))) := Lib.hid (by rw [strs_app]; exact own5)
          have HN5 : Hid (n + 1 = (acc ++ [t]).length) := Lib.hid (by simp; exact HN.out)
          clear own5 gr5 at5 lt5 I3 OWN3
          go_wp2
          go_roundg (f + 1)
          case measure => omega
          case rel => exact ⟨p2, f, none, _, _, n + 1, _, rfl, .inl ⟨rfl, rfl⟩, I5, hpl2, rfl, by omega, HN5, by omega, OWN5, HC2⟩
      · have ec := ne_b h3
        rcases hfv with ⟨rfl, rfl⟩ | ⟨a, t, rfl, rfl, ht, ha⟩
        · have HC2 : Hid (wordsGo s (f + 1) p2 (some pos) acc = wordsV s) := Lib.hid (by have := HC.out; simp only [stepF, if_neg h3] at this; exact this)
          have ad := add_str (ext_nil s pos p2) (by decide) (by rw [ext_size s pos p2 hpl2]; omega)
          clear HC h3
          go_wp2_with fail
          refine (CF.out _).mono ?_; rintro e w2 ⟨rfl, hb2⟩
          have I2b := Lib.hid (I2.out.same hb2)
          have OWN2b := Lib.hid (own_below OWN2.out hb2)
          have T2b := Lib.hid (T2.out.below hb2)
          clear I2 T2 hb2 OWN2
          go_wp2_with fail
          refine (CC.out _ T2b.out).mono ?_; rintro e w3 ⟨rfl, hb3⟩
          have I3 := Lib.hid (I2b.out.same hb3)
          have OWN3 := Lib.hid (own_below OWN2b.out hb3)
          clear I2b T2b hb3 OWN2b
          go_wp2
          go_roundg (f + 1)
          case measure => omega
          case rel => exact ⟨p2, f, some pos, acc, A, n, c, rfl, .inr ⟨pos, _, rfl, rfl, Lib.hid rfl, hpl⟩, I3, hpl2, rfl, by omega, HN, by omega, OWN3, HC2⟩
        · have HC2 : Hid (wordsGo s (f + 1) p2 (some a) acc = wordsV s) := Lib.hid (by have := HC.out; simp only [stepF, if_neg h3] at this; exact this)
          have ad := add_str (a := t) (b := s.extract pos p2) (c := s.extract a p2) (by rw [ht.out]; exact ext_join s a pos p2 (by omega) (by omega)) (by rw [ht.out, ext_size s a pos q4]; omega) (by rw [ext_size s pos p2 hpl2]; omega)
          clear HC h3
          go_wp2_with fail
          refine (CF.out _).mono ?_; rintro e w2 ⟨rfl, hb2⟩
          have I2b := Lib.hid (I2.out.same hb2)
          have OWN2b := Lib.hid (own_below OWN2.out hb2)
          have T2b := Lib.hid (T2.out.below hb2)
          clear I2 T2 hb2 OWN2
          go_wp2_with fail
          refine (CC.out _ T2b.out).mono ?_; rintro e w3 ⟨rfl, hb3⟩
          have I3 := Lib.hid (I2b.out.same hb3)
          have OWN3 := Lib.hid (own_below OWN2b.out hb3)
          clear I2b T2b hb3 OWN2b
          go_wp2
          go_roundg (f + 1)
          case measure => omega
          case rel => exact ⟨p2, f, some a, acc, A, n, c, rfl, .inr ⟨a, _, rfl, rfl, Lib.hid rfl, by omega⟩, I3, hpl2, rfl, by omega, HN, by omega, OWN3, HC2⟩
    · have hnx := fun ty => run_next_end_at (P := Tryd.prog) wr w.heap.size s pos ty IT.out.2 hps
      have HV : Hid (wordsV s = endF s fr acc) := Lib.hid (by rw [← hc.out]; simp only [wordsGo]; rw [if_neg hps])
      have e9 : Hid (pos = s.size) := Lib.hid (by omega)
      clear hc
      rcases hfv with ⟨rfl, rfl⟩ | ⟨a, t, rfl, rfl, ht, ha⟩
      · have HV2 : Hid (wordsV s = acc) := HV
        have E : Hid (n = (wordsV s).length) := Lib.hid (by rw [HV2.out, HN.out])
        have OWN3 : Hid (wr.ownsRow w.heap.size 9 1 (.slice A n c) n (strs (wordsV s))) := Lib.hid (by rw [HV2.out]; exact OWN.out)
        have HB := Lib.hid IT.out.1
        clear IT OWN HV
        go_wp2
        go_ret
        exact ⟨_, _, _, rfl, E, OWN3, HB⟩
      · have HV2 : Hid (wordsV s = acc ++ [t]) := Lib.hid (by rw [HV.out, ht.out, e9.out]; rfl)
        have E : Hid (n + 1 = (wordsV s).length) := Lib.hid (by rw [HV2.out, HN.out]; simp)
        have hne : t.toList.isEmpty = false := isEmpty_of t (by rw [ht.out, ext_size s a pos hp]; omega)
        have I3 := IT; have OWN3 := OWN
        have WB : Hid (w.heap.size ≤ wr.heap.size) := Lib.hid I3.out.1.size
        clear IT OWN HV
        go_wp2_with (at_builtin; refine wpList_append_lies _ rfl (.tmp 41) (.tmp 43) 37 rfl w.heap.size 9 i0 (.string .empty) 1 16 Tryd.underlying37 hi0 hz0 hz1 hz2 rfl (by decide) _ n (strs acc) rfl (OWN3.out.alloc _) ⟨wr.heap.size, 0, none⟩ 1 1 [.string t] rfl rfl ?c1 ?c2 (by omega) (by unfold maxLen; omega) (by omega) (Nat.le_trans WB.out (by simp)) (wr.heap.size + 1) (by simp) ?_)
        case c1 =>
          intro j u hj
          match j, hj with
          | 0, hj => simp only [List.getElem?_cons_zero, Option.some.injEq] at hj; subst hj; exact new_cell wr _ 9
        case c2 => intro u hu; simp only [List.mem_singleton] at hu; subst hu; rfl
        intro gf cap w5 own5 gr5 at5 lt5
        have I5 := Lib.hid (I3.out.grown OWN3.out gr5)
        have OWN5 : Hid (w5.ownsRow w.heap.size 9 1 (.slice (some ⟨gf, 0, none⟩) (n + 1) cap) (n + 1) (strs (wordsV s))) := Lib.hid (by rw [HV2.out, strs_app]; exact own5)
        have HB := Lib.hid I5.out.1
        clear own5 gr5 at5 lt5 I3 OWN3 I5
        go_wp2
        go_ret
        exact ⟨_, _, _, rfl, E, OWN5, HB⟩
end Go.Proofs.YtebgloacobaocaaDoor
