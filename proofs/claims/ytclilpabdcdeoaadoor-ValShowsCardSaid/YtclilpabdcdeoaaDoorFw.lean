import Derived.Test.YtclilpabdcdeoaaDoorFd
namespace Go.Proofs.YtclilpabdcdeoaaDoor
open Go.ChangeShapes Go.WideShapes Go.ChangeAt Go.RowKit
set_option linter.unusedVariables false
theorem setRes {W : World} {H : Nat} {a b : Value} (a' b' : Value) (h : W.heap[H]? = some (ResO a b)) :
    (((((((W.setCell ⟨H, 0, none⟩ a').setCell ⟨H, 1, none⟩ b').setCell ⟨H, 2, none⟩ (.string .empty)).setCell ⟨H, 3, none⟩ (.slice none 0 0)).setCell ⟨H, 4, none⟩ (.int .i64 0)).setCell ⟨H, 5, none⟩ (.pointer none)).setCell ⟨H, 6, none⟩ (.int .i64 0)).heap[H]? = some (ResO a' b') := by
  unfold ResO at h ⊢; simp [World.setCell, Array.getElem?_modify, h]
theorem setResB {B : Nat} {w W : World} {H : Nat} (a' b' : Value) (h : Below B w W) (hH : B ≤ H) :
    Below B w (((((((W.setCell ⟨H, 0, none⟩ a').setCell ⟨H, 1, none⟩ b').setCell ⟨H, 2, none⟩ (.string .empty)).setCell ⟨H, 3, none⟩ (.slice none 0 0)).setCell ⟨H, 4, none⟩ (.int .i64 0)).setCell ⟨H, 5, none⟩ (.pointer none)).setCell ⟨H, 6, none⟩ (.int .i64 0)) :=
  ((((((h.setCell (p := ⟨H, 0, none⟩) hH _).setCell (p := ⟨H, 1, none⟩) hH _).setCell (p := ⟨H, 2, none⟩) hH _).setCell (p := ⟨H, 3, none⟩) hH _).setCell (p := ⟨H, 4, none⟩) hH _).setCell (p := ⟨H, 5, none⟩) hH _).setCell (p := ⟨H, 6, none⟩) hH _
theorem two_new (w : World) (Z K : Obj) : ((w.alloc Z).alloc K).heap[w.heap.size]? = some Z ∧ ((w.alloc Z).alloc K).heap[w.heap.size + 1]? = some K := by
  constructor
  · show ((w.heap.push Z).push K)[w.heap.size]? = _
    rw [Array.getElem?_push, if_neg (by simp), Array.getElem?_push, if_pos rfl]
  · show ((w.heap.push Z).push K)[w.heap.size + 1]? = _
    rw [Array.getElem?_push, if_pos (by simp)]
set_option maxRecDepth 100000 in
set_option maxHeartbeats 4000000 in
theorem find_any {w : World} {q : Option Addr} (c : List Bd) (a : ByteArray) (hc : ChainAt w c q) (hl : c.length ≤ 20) :
    Calls Tryd.prog 11 #[.pointer q, .string a] w fun e w' => e = .returned (.tuple #[optV (findC c a), .bool (findC c a).isSome]) ∧ Below w.heap.size w w' := by
  have HC : Hid (ChainAt w c q) := Lib.hid hc
  have HLn : Hid (c.length ≤ 20) := Lib.hid hl
  have WI0 : Hid (∀ wr : World, WkAt wr (w.heap.size + 1) q q 1 1 → WkI w wr (w.heap.size + 1) q c.length) := Lib.hid (fun wr h => by
    refine ⟨q, 1, 1, 1, h, by omega, by omega, by omega, by omega, ?_, ?_⟩
    · have : 2 ^ c.length ≤ 2 ^ 20 := Nat.pow_le_pow_right (by decide) hl
      have h2 : ((2 ^ c.length : Nat) : Int) ≤ 1048576 := Int.ofNat_le.2 this
      have h3 : ((2 ^ c.length : Nat) : Int) = (2 : Int) ^ c.length := Int.natCast_pow 2 c.length
      rw [h3] at h2; rw [Int.one_mul]; exact Int.le_trans h2 (by decide)
    · intro b' hb'
      cases c with
      | nil => rw [show q = none from hc] at hb'; cases hb'
      | cons y r =>
        obtain ⟨y, j⟩ := y
        obtain ⟨b2, u2, e2, hb2, hu2, hr2⟩ := hc
        rw [e2] at hb'; injection hb' with hb'; injection hb' with hb'; subst hb'
        exact ⟨b2, e2, Nat.le_refl _, (Array.getElem?_eq_some_iff.1 hb2).1, _, _, hb2⟩)
  obtain ⟨F, hF⟩ : ∃ F, F = findC c a := ⟨_, rfl⟩
  rw [← hF]
  have HF : Hid (findC c a = F) := Lib.hid hF.symm
  clear hF hl hc
  have WA := Lib.hid (fun W => walk_any q W)
  go_enter Tryd.func11, Tryd.ntmps11
  go_wp2_with fail
  refine (WA.out _).mono ?_; rintro e w1 ⟨rfl, rfl⟩
  clear WA
  go_wp2
  go_loopg [] c.length (fun gk wr => ∃ (c' : List Bd) (q' : Option Addr), Hid (c'.length = gk) ∧ Hid (ChainAt w c' q') ∧ Hid (findC c' a = F) ∧ Hid (WkI w wr (w.heap.size + 1) q' c'.length) ∧ Hid (wr.heap[w.heap.size]? = some (ResO (.int .i64 0) (.int .i64 0))) ∧ Hid (Below w.heap.size w wr))
  case atStart =>
    refine ⟨c, q, Lib.hid rfl, HC, HF, Lib.hid (WI0.out _ ?_), Lib.hid ?_, Lib.hid ?_⟩
    · exact (two_new _ _ _).2
    · exact (two_new _ _ _).1
    · exact ((Below.refl w.heap.size w).alloc (Nat.le_refl _) _).alloc (by simp) _
  case round =>
    clear WI0 HC HF
    obtain ⟨c', q', HG, HC', HF', HI, HR, HB⟩ := hrel
    obtain ⟨r0, r1, r2, r3, r4, r5, r6, rf⟩ := resO_cells HR.out
    have rf0 := rf 0; have rf1 := rf 1; have rf2 := rf 2; have rf3 := rf 3; have rf4 := rf 4; have rf5 := rf 5; have rf6 := rf 6
    clear rf
    cases c' with
    | nil =>
      obtain rfl : q' = none := HC'.out
      obtain rfl : F = none := HF'.out.symm
      obtain ⟨pm, lf, sp, S, hw, _, _, _, _, _, _⟩ := HI.out
      have c0 := hw.c0
      clear hw HI HC' HF'
      go_wp2
      refine bodyPost_ret (res11 rfl rfl (setRes (.int .i64 0) (.int .i64 0) HR.out)) rfl ?_
      exact ⟨rfl, setResB _ _ HB.out (Nat.le_refl _)⟩
    | cons y r =>
      obtain ⟨x, k⟩ := y
      obtain ⟨b, u, rfl, hb, hu, hr⟩ := HC'.out
      have hbl : b < w.heap.size := (Array.getElem?_eq_some_iff.1 hb).1
      have hb2 := (HB.out.block b hbl).trans hb
      have e0 := env0 hb2
      obtain ⟨pm, lf, sp, S, hw, _, _, _, _, _, _⟩ := HI.out
      have c0 := hw.c0
      have hwl := hw.lt
      clear hw
      by_cases he : eqB x a = true
      · have d : (x.toList == a.toList) = true := he
        obtain rfl : some k = F := by have := HF'.out; unfold findC at this; rwa [if_pos he] at this
        have LW : Hid (w.heap.size ≤ wr.heap.size) := Lib.hid HB.out.size
        have A1 : Hid (∀ o, Below wr.heap.size wr (wr.alloc o)) := Lib.hid (fun o => (Below.refl _ wr).alloc (Nat.le_refl _) o)
        have hba : ∀ o, (wr.alloc o).heap[b]? = some (EnvO x k u) := fun o => ((A1.out o).block b (Nat.lt_of_lt_of_le hbl LW.out)).trans hb2
        obtain ⟨e1, e2, e3, e4, e5, e6, e7⟩ := env1 (hba (.cells #[.int .i64 262144] 3))
        have CP := Lib.hid (fun W => copied_any k wr.heap.size W)
        unfold num at CP
        have WKA : ∀ o, (wr.alloc o).cell? ⟨w.heap.size + 1, 0, none⟩ = some (.pointer (some ⟨b, 0, none⟩)) := fun o => ((A1.out o).cell (p := ⟨w.heap.size + 1, 0, none⟩) hwl).trans c0
        have k0 := WKA (.cells #[.int .i64 262144] 3)
        clear WKA hba HI HC' HF' hb hu hr hb2
        have HRl : Hid (w.heap.size < wr.heap.size) := Lib.hid (Array.getElem?_eq_some_iff.1 HR.out).1
        clear r0 r1 r2 r3 r4 r5 r6 rf0 rf1 rf2 rf3 rf4 rf5 rf6
        go_wp2_with fail
        refine (CP.out _).mono ?_; rintro e w2 ⟨rfl, hb⟩
        have HB2 : Hid (Below w.heap.size w w2) := Lib.hid (HB.out.trans (((A1.out _).mono LW.out).trans (hb.mono (Nat.le_trans LW.out (A1.out _).size))))
        have HR2 : Hid (w2.heap[w.heap.size]? = some (ResO (.int .i64 0) (.int .i64 0))) := Lib.hid ((hb.block _ (Nat.lt_of_lt_of_le HRl.out (A1.out _).size)).trans (((A1.out _).block _ HRl.out).trans HR.out))
        obtain ⟨r0, r1, r2, r3, r4, r5, r6, rf⟩ := resO_cells HR2.out
        have rf0 := rf 0; have rf1 := rf 1; have rf2 := rf 2; have rf3 := rf 3; have rf4 := rf 4; have rf5 := rf 5; have rf6 := rf 6
        clear rf hb CP HR HB A1
        go_wp2
        refine bodyPost_ret (res11 rfl rfl (setRes (.int .i64 1) (.int .i64 k) HR2.out)) rfl ?_
        exact ⟨rfl, setResB _ _ HB2.out (Nat.le_refl _)⟩
      · have d : (x.toList == a.toList) = false := by unfold eqB at he; simpa using he
        have NX := Lib.hid (wk_next (g := w.heap.size + 1) HB.out (by omega) HI.out hb hu hr)
        have HF2 : Hid (findC r a = F) := Lib.hid (by have := HF'.out; unfold findC at this; rwa [if_neg he] at this)
        have HC2 := Lib.hid hr
        clear HI HC' HF' hb hu hr hb2
        go_wp2_with fail
        refine NX.out.mono ?_; rintro e w2 ⟨rfl, HO, HI2⟩
        have HR2 : Hid (w2.heap[w.heap.size]? = some (ResO (.int .i64 0) (.int .i64 0))) := Lib.hid ((HO.out.block _ (by omega)).trans HR.out)
        have HB2 : Hid (Below w.heap.size w w2) := Lib.hid (HB.out.trans (HO.out.below (by omega)))
        clear HR HB NX HO
        go_wp2
        go_roundg r.length
        case measure => have := HG.out; simp only [List.length_cons] at this; omega
        case rel => exact ⟨r, u, Lib.hid rfl, HC2, HF2, HI2, HR2, HB2⟩
end Go.Proofs.YtclilpabdcdeoaaDoor
