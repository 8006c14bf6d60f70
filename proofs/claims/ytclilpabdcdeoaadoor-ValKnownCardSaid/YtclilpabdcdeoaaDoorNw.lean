import Derived.Test.YtclilpabdcdeoaaDoorMp
import Derived.Deep.LoopGhost
namespace Go.Proofs.YtclilpabdcdeoaaDoor
open Go.ChangeShapes Go.WideShapes Go.ChangeAt Go.RowKit Go.WideMaps
set_option linter.unusedVariables false
set_option maxRecDepth 100000 in
set_option maxHeartbeats 4000000 in
theorem names_any {w : World} {q : Option Addr} (c : List Bd) (hc : ChainAt w c q) (hl : c.length ≤ 20) (hz : ∀ p ∈ c, p.1.size ≤ 60) :
    Calls Tryd.prog 13 #[.pointer q] w fun e w' => ∃ A n cap, e = .returned (.slice A n cap) ∧ Hid (n = (namesC c).length) ∧ Hid (w'.ownsRow w.heap.size 9 1 (.slice A n cap) n (strs (namesC c))) ∧ Hid (Below w.heap.size w w') := by
  obtain ⟨i0, hi0, hz0, hz1, hz2⟩ := info_parts info9
  have HC : Hid (ChainAt w c q) := Lib.hid hc
  have HLn : Hid (c.length ≤ 20) := Lib.hid hl
  have HZ : Hid (∀ p ∈ c, p.1.size ≤ 60) := Lib.hid hz
  have WI0 : Hid (∀ wr : World, WkAt wr (w.heap.size + 1) q q 1 1 → WkI w wr (w.heap.size + 1) q c.length) := Lib.hid (fun wr h => wk_start hc hl _ wr h)
  obtain ⟨F, hF⟩ : ∃ F, F = namesC c := ⟨_, rfl⟩
  rw [← hF]
  have HF : Hid (namesF c [] = F) := Lib.hid hF.symm
  clear hF hl hc hz
  have WA := Lib.hid (fun W => walk_any q W)
  have hmm := @run_makeMap Tryd.prog
  go_enter Tryd.func13, Tryd.ntmps13
  go_wp2_with fail
  refine (WA.out _).mono ?_; rintro e w1 ⟨rfl, rfl⟩
  clear WA hmm
  go_wp2
  go_loopg [4] c.length (fun gk v wr => ∃ (c' : List Bd) (q' : Option Addr) (acc : List ByteArray) (A : Option Addr) (n cap : Nat), v = .slice A n cap ∧ n + gk ≤ 20 ∧ Hid (c'.length = gk) ∧ Hid (n = acc.length) ∧ Hid (∀ p ∈ c', p.1.size ≤ 60) ∧ Hid (ChainAt w c' q') ∧ Hid (namesF c' acc = F) ∧ Hid (WkI w wr (w.heap.size + 1) q' c'.length) ∧ Hid (MapI wr w.heap.size n acc) ∧ Hid (wr.ownsRow (w.heap.size + 2) 9 1 (.slice A n cap) n (strs acc)) ∧ Hid (Below w.heap.size w wr))
  case atStart =>
    refine ⟨c, q, [], none, 0, 0, rfl, by have := HLn.out; omega, Lib.hid rfl, Lib.hid rfl, HZ, HC, HF, Lib.hid (WI0.out _ ?_), Lib.hid ?_, Lib.hid (World.ownsRow_nil _ _ _ _), Lib.hid ?_⟩
    · exact (two_new _ _ _).2
    · exact (map_made w).keep (by rw [(two_new _ _ _).1]; exact ((MapKept.heap_alloc w _).1).symm)
    · exact ((Below.refl w.heap.size w).alloc (Nat.le_refl _) _).alloc (by simp) _
  case round =>
    clear WI0 HC HF HZ
    obtain ⟨c', q', acc, A, n, cap, rfl, hn20, HG, HN, HZ, HC', HF', HI, HM, OWN, HB⟩ := hrel
    have c0 := HI.out.c0
    cases c' with
    | nil =>
      obtain rfl : q' = none := HC'.out
      have OWN2 : Hid (wr.ownsRow w.heap.size 9 1 (.slice A n cap) n (strs F)) := Lib.hid (by
        have e : acc = F := HF'.out
        rw [← e]
        exact own_mono OWN.out (by omega))
      have HN2 : Hid (n = F.length) := Lib.hid (by have e : acc = F := HF'.out; rw [← e]; exact HN.out)
      clear HI HC' HF' HM OWN HN HG HZ
      go_wp2
      go_ret
      exact ⟨_, _, _, rfl, HN2, OWN2, HB⟩
    | cons y r =>
      obtain ⟨x, k⟩ := y
      obtain ⟨b, u, rfl, hb, hu, hr⟩ := HC'.out
      have hx60 : x.size ≤ 60 := HZ.out (x, k) (List.mem_cons_self ..)
      have HZ2 : Hid (∀ p ∈ r, p.1.size ≤ 60) := Lib.hid (fun p hp => HZ.out p (List.mem_cons_of_mem _ hp))
      have hbl : b < w.heap.size := (Array.getElem?_eq_some_iff.1 hb).1
      have hb2 := (HB.out.block b hbl).trans hb
      have e0 := env0 hb2
      have hkey := WideMaps.keyOf_string_mk (P := Tryd.prog) Tryd.underlying9 (s := x) (by unfold maxLen; omega)
      have NXT : Hid (∀ W, Below w.heap.size w W → WkI w W (w.heap.size + 1) (some ⟨b, 0, none⟩) (r.length + 1) → Calls Tryd.prog 29 #[.pointer (some ⟨w.heap.size + 1, 0, none⟩)] W fun e w' => e = .returned (.tuple #[]) ∧ Hid (Only (w.heap.size + 1) W w') ∧ Hid (WkI w w' (w.heap.size + 1) u r.length)) := Lib.hid (fun W hB hI => wk_next hB (by omega) hI hb hu hr)
      have HC2 : Hid (ChainAt w r u) := Lib.hid hr
      have HG2 : Hid (r.length + 1 = gk) := HG
      obtain ⟨D, hown, hD, hhas⟩ := HM.out
      have HF2 : Hid (namesF r (addB acc x) = F) := HF'
      have WB : Hid (w.heap.size + 2 ≤ wr.heap.size) := Lib.hid HI.out.lt
      have hhit := hhas x
      have HD := Lib.hid hD
      have HH := Lib.hid hhas
      clear hD hhas hb2 hr hu HG HC' HF' HZ
      by_cases hx : hasB acc x = true
      · rw [hx] at hhit
        have ea : addB acc x = acc := by unfold addB; rw [if_pos hx]
        rw [ea] at HF2
        clear ea
        go_wp2_with (first
          | (at_lookup; refine wpList_lookup_own_ok_int _ rfl _ _ 75 rfl 9 3 .i64 law9 Tryd.underlying75 Tryd.underlying3 (zero3 _) w.heap.size n D rfl hown _ _ rfl hkey ?_; intro cL hat hwc; rw [hhit])
          | fail)
        refine (NXT.out _ HB.out HI.out).mono ?_; rintro e w2 ⟨rfl, HO, HI2⟩
        have HM2 : Hid (MapI w2 w.heap.size n acc) := Lib.hid (HM.out.keep (HO.out.block _ (by omega)))
        have OWN2 : Hid (w2.ownsRow (w.heap.size + 2) 9 1 (.slice A n cap) n (strs acc)) := Lib.hid (own_keep OWN.out (fun g hg _ => HO.out.block g (by omega)))
        have HB2 : Hid (Below w.heap.size w w2) := Lib.hid (HB.out.trans (HO.out.below (by omega)))
        have hgk : n + r.length ≤ 20 := by have := HG2.out; omega
        clear HI HM OWN HB NXT HO hown HD HH
        go_wp2
        go_roundg r.length
        case measure => have := HG2.out; omega
        case rel => exact ⟨r, u, acc, A, n, cap, rfl, hgk, Lib.hid rfl, HN, HZ2, HC2, HF2, HI2, HM2, OWN2, HB2⟩
      · have hxf : hasB acc x = false := by simpa using hx
        rw [hxf] at hhit
        have ea : addB acc x = acc ++ [x] := by unfold addB; rw [if_neg hx]
        rw [ea] at HF2
        clear ea hx
        go_wp2_with (first
          | (at_lookup; refine wpList_lookup_own_ok_int _ rfl _ _ 75 rfl 9 3 .i64 law9 Tryd.underlying75 Tryd.underlying3 (zero3 _) w.heap.size n D rfl hown _ _ rfl hkey ?_; intro cL hat hwc; rw [hhit])
          | (at_mapUpdate; refine wpList_mapUpdate_own _ rfl _ _ _ 75 rfl 9 3 law9 Tryd.underlying75 _ w.heap.size n D rfl hown (by unfold maxLen; omega) _ _ _ rfl rfl hkey _ [] (plainElem_int Tryd.underlying3 (wf_nat n (by omega))) ?_))
        intro w1 hown1 gr1
        obtain ⟨hD1, hh1⟩ := put_acc x (.lit (.int .i64 n)) HD.out HH.out
        have HM1 : Hid (MapI w1 w.heap.size (n + 1) (acc ++ [x])) := Lib.hid ⟨_, hown1, hD1, hh1⟩
        have GB : ∀ j, j < wr.heap.size → j ≠ w.heap.size → w1.heap[j]? = wr.heap[j]? := fun j hj hne => gr1.block j hj (fun e => hne (by injection e))
        have HI1 : Hid (WkI w w1 (w.heap.size + 1) (some ⟨b, 0, none⟩) (r.length + 1)) := Lib.hid (HI.out.keep (GB _ HI.out.lt (by omega)))
        have k0 := HI1.out.c0
        have k1 := env0 ((GB b (by have := WB.out; omega) (by omega)).trans ((HB.out.block b hbl).trans hb))
        have OWN1 : Hid (w1.ownsRow (w.heap.size + 2) 9 1 (.slice A n cap) n (strs acc)) := Lib.hid (own_keep OWN.out (fun g hg hlt => GB g hlt (by omega)))
        have HB1 : Hid (Below w.heap.size w w1) := Lib.hid (HB.out.grown gr1 HB.out.size (fun q hq => by injection hq with hq; omega))
        have WB1 : Hid (w.heap.size + 2 ≤ w1.heap.size) := Lib.hid (Nat.le_trans WB.out gr1.size)
        clear hown1 gr1 hD1 hh1 GB HI OWN HB WB HM hown HD HH c0 e0 hhit hb
        go_wp2_with (at_builtin; refine wpList_append_lies _ rfl (.tmp 42) (.tmp 50) 35 rfl (w.heap.size + 2) 9 i0 (.string .empty) 1 16 Tryd.underlying35 hi0 hz0 hz1 hz2 rfl (by decide) _ n (strs acc) rfl (OWN1.out.alloc _) ⟨w1.heap.size, 0, none⟩ 1 1 [.string x] rfl rfl ?c1 ?c2 (by omega) (by unfold maxLen; omega) (by omega) (Nat.le_trans WB1.out (by simp)) (w1.heap.size + 1) (by simp) ?_)
        case c1 =>
          intro j u hj
          match j, hj with
          | 0, hj => simp only [List.getElem?_cons_zero, Option.some.injEq] at hj; subst hj; exact new_cell w1 _ 9
        case c2 => intro u hu; simp only [List.mem_singleton] at hu; subst hu; rfl
        intro gf cap5 w5 own5 gr5 at5 lt5
        have NB : ∀ q, Value.ownBlock (.slice A n cap) = some q → w.heap.size + 2 ≤ q := fun q hq => (OWN1.out.lt q hq).1
        have GB : ∀ j, j < w1.heap.size → j < w.heap.size + 2 → w5.heap[j]? = w1.heap[j]? := fun j hj hlt => (gr5.block j (by simp; omega) (fun e => by have := NB j e.symm; omega)).trans (by
          show (w1.heap.push _)[j]? = _
          rw [Array.getElem?_push, if_neg (by omega)])
        have HM5 : Hid (MapI w5 w.heap.size (n + 1) (acc ++ [x])) := Lib.hid (HM1.out.keep (GB _ HM1.out.lt (by omega)))
        have HI5 : Hid (WkI w w5 (w.heap.size + 1) (some ⟨b, 0, none⟩) (r.length + 1)) := Lib.hid (HI1.out.keep (GB _ HI1.out.lt (by omega)))
        have HB5 : Hid (Below w.heap.size w w5) := Lib.hid ((HB1.out.alloc (by have := WB1.out; omega) (.cells #[.string x] 9)).grown gr5 (by have := WB1.out; simp; omega) (fun q hq => by have := NB q hq; omega))
        have OWN5 : Hid (w5.ownsRow (w.heap.size + 2) 9 1 (.slice (some ⟨gf, 0, none⟩) (n + 1) cap5) (n + 1) (strs (acc ++ [x]))) := Lib.hid (by rw [strs_app]; exact own5)
        have HN5 : Hid (n + 1 = (acc ++ [x]).length) := Lib.hid (by have := HN.out; simp; exact this)
        clear own5 gr5 at5 lt5 NB GB HM1 HI1 HB1 OWN1
        go_wp2_with fail
        refine (NXT.out _ HB5.out HI5.out).mono ?_; rintro e w2 ⟨rfl, HO, HI2⟩
        have HM2 : Hid (MapI w2 w.heap.size (n + 1) (acc ++ [x])) := Lib.hid (HM5.out.keep (HO.out.block _ (by omega)))
        have OWN2 : Hid (w2.ownsRow (w.heap.size + 2) 9 1 (.slice (some ⟨gf, 0, none⟩) (n + 1) cap5) (n + 1) (strs (acc ++ [x]))) := Lib.hid (own_keep OWN5.out (fun g hg _ => HO.out.block g (by omega)))
        have HB2 : Hid (Below w.heap.size w w2) := Lib.hid (HB5.out.trans (HO.out.below (by omega)))
        have hgk : n + 1 + r.length ≤ 20 := by have := HG2.out; omega
        clear HI5 HM5 OWN5 HB5 NXT HO
        go_wp2
        go_roundg r.length
        case measure => have := HG2.out; omega
        case rel => exact ⟨r, u, acc ++ [x], some ⟨gf, 0, none⟩, n + 1, cap5, rfl, hgk, Lib.hid rfl, HN5, HZ2, HC2, HF2, HI2, HM2, OWN2, HB2⟩
end Go.Proofs.YtclilpabdcdeoaaDoor
