import Derived.Test.YtknpgmbniohcnaaGt
namespace Go.Proofs.Ytknpgmbniohcnaa
open Go.ChangeShapes Go.WideShapes Go.ChangeAt Go.RowKit
set_option linter.unusedVariables false
def szN (ws : List Int) (at_ : Nat) : Nat := (splS (ws.getD at_ 0)).toNat
def goodAt (ws : List Int) (at_ : Nat) : Bool := splB (ws.getD at_ 0) && decide (at_ + szN ws at_ < ws.length)
def soundS (ws : List Int) : Nat → Nat → List Bool → Option (List Bool)
  | 0, _, st => some st
  | n + 1, at_, st => if at_ < ws.length then (if goodAt ws at_ = true then soundS ws n (at_ + (szN ws at_ + 1)) (st.set at_ true) else none) else some st
def sndO (ws : List Int) : Option (List Bool) := soundS ws ws.length 0 (List.replicate ws.length false)
def fitAll (m : Hm) (k : Nat) : Bool := (List.range k).all fun i => m.st.getD i false || fitsB m (m.ws.getD i 0)
def sndB (m : Hm) : Bool := match sndO m.ws with
  | none => false
  | some st => fitAll ⟨m.room, m.turns, m.ws, st⟩ m.ws.length
/-- where the starts stand so far. -/
structure StI (ws : List Int) (at_ : Nat) (st : List Bool) : Prop where
  len : st.length = ws.length
  le : at_ ≤ ws.length
  hi : ∀ j, at_ ≤ j → st.getD j false = false
  lo : ∀ a, a < at_ → st.getD a false = true → okS (ws.getD a 0) ∧ a + 1 + szN ws a ≤ at_ ∧ ∀ j, a < j → j ≤ a + szN ws a → st.getD j false = false
theorem getD_setB_same (l : List Bool) (a : Nat) (v : Bool) (h : a < l.length) : (l.set a v).getD a false = v := by simp [List.getD, h]
theorem getD_setB_ne (l : List Bool) (a b : Nat) (v : Bool) (h : b ≠ a) : (l.set a v).getD b false = l.getD b false := by simp [List.getD, List.getElem?_set_ne (Ne.symm h)]
theorem StI.next {ws : List Int} {at_ : Nat} {st : List Bool} (h : StI ws at_ st) (hlt : at_ < ws.length) (hg : goodAt ws at_ = true) : StI ws (at_ + (szN ws at_ + 1)) (st.set at_ true) := by
  unfold goodAt at hg
  rw [Bool.and_eq_true, decide_eq_true_eq] at hg
  have hok : okS (ws.getD at_ 0) := of_decide_eq_true hg.1
  refine ⟨by rw [List.length_set]; exact h.len, by omega, fun j hj => ?_, fun a ha hs => ?_⟩
  · rw [getD_setB_ne _ _ _ _ (by omega)]; exact h.hi j (by omega)
  · by_cases e : a = at_
    · subst e
      refine ⟨hok, by omega, fun j h1 h2 => ?_⟩
      rw [getD_setB_ne _ _ _ _ (by omega)]; exact h.hi j (by omega)
    · rw [getD_setB_ne _ _ _ _ e] at hs
      have hlt2 : a < at_ := by
        rcases Nat.lt_or_ge a at_ with h1 | h1
        · exact h1
        · rw [h.hi a h1] at hs; cases hs
      obtain ⟨h1, h2, h3⟩ := h.lo a hlt2 hs
      refine ⟨h1, by omega, fun j hj1 hj2 => ?_⟩
      rw [getD_setB_ne _ _ _ _ (by omega)]; exact h3 j hj1 hj2
theorem StI.ok {m : Hm} {at_ : Nat} {st : List Bool} (h : StI m.ws at_ st) (ok : m.Ok) : (Hm.mk m.room m.turns m.ws st).Ok := by
  refine ⟨h.len, ok.lt, ok.r0, ok.r1, ok.t0, ok.t1, ok.wf, fun a ha hs => ?_⟩
  have hlt2 : a < at_ := by
    rcases Nat.lt_or_ge a at_ with h1 | h1
    · exact h1
    · have hs2 : st.getD a false = true := hs
      rw [h.hi a h1] at hs2; cases hs2
  obtain ⟨h1, h2, h3⟩ := h.lo a hlt2 hs
  have := h.le
  exact ⟨h1, by show a + 1 + szN m.ws a ≤ _; exact Nat.le_trans h2 this, h3⟩
theorem StI.init (ws : List Int) : StI ws 0 (List.replicate ws.length false) := by
  refine ⟨by simp, Nat.zero_le _, fun j _ => ?_, fun a ha => by omega⟩
  rw [List.getD_eq_getElem?_getD, List.getElem?_replicate]; split <;> rfl
theorem HpAt.setT {w : World} {B H o : Nat} {m : Hm} (h : HpAt w B H o m) {g n c i : Nat} (hg : w.cell? ⟨H, o + 3, none⟩ = some (.slice (some ⟨g, 0, none⟩) n c)) (hok : (Hm.mk m.room m.turns m.ws (m.st.set i true)).Ok) :
    HpAt (w.setCell ⟨g, i, none⟩ (.bool true)) B H o ⟨m.room, m.turns, m.ws, m.st.set i true⟩ ∧ Frm w (w.setCell ⟨g, i, none⟩ (.bool true)) (HR w H o) := by
  obtain ⟨cc, T, A1, c1, A2, c2, t1, t2, t3, e1, e2, e3, e4, e5, o1, o2⟩ := h.at_
  have f3 : w.cell? ⟨H, o + 3, none⟩ = some (.slice A2 m.st.length c2) := by simp [World.cell?, e1, e5]
  rw [f3] at hg; injection hg with hg; injection hg with hA hn hc
  subst hA hn hc
  have hgH : g ≠ H := fun e => row_ne o2 e1 t2 (by simp [Value.ownBlock, e])
  have f : Frm w (w.setCell ⟨g, i, none⟩ (.bool true)) (fun k => k = g) := frm_set i _ rfl
  have fh : (w.setCell ⟨g, i, none⟩ (.bool true)).heap[H]? = w.heap[H]? := f.block H h.lt (fun e => hgH e.symm)
  refine ⟨⟨hok, by simpa [World.setCell] using h.hB, cc, T, A1, c1, _, _, t1, t2, t3, fh.trans e1, e2, e3, e4, by simpa using e5, ?_, ?_⟩, f.mono fun k _ e => ?_⟩
  · refine own_frm o1 f (fun k hk e => ?_)
    subst e
    exact own_own_ne o1 o2 (by decide) k hk (by simp [Value.ownBlock])
  · have := (o2.stored i (.bool true)).1
    simp only [List.length_set]
    rwa [show bo (m.st.set i true) = (bo m.st).set i (.bool true) from by simp [bo, List.map_set]]
  · subst e; exact .inr (.inr ⟨_, _, f3⟩)
theorem HpAt.frz {w : World} {B H o g n c : Nat} {m : Hm} (h : HpAt w B H o m) (hg : w.cell? ⟨H, o + 3, none⟩ = some (.slice (some ⟨g, 0, none⟩) n c)) (i : Nat) : w.frozen? ⟨g, i, none⟩ = false := by
  obtain ⟨cc, T, A1, c1, A2, c2, t1, t2, t3, e1, e2, e3, e4, e5, o1, o2⟩ := h.at_
  have f3 : w.cell? ⟨H, o + 3, none⟩ = some (.slice A2 m.st.length c2) := by simp [World.cell?, e1, e5]
  rw [f3] at hg; injection hg with hg; injection hg with hA _ _
  subst hA
  exact o2.frozenAt i
theorem Frm.hr {w w' : World} {B H o : Nat} {m m' : Hm} (h : HpAt w B H o m) (h' : HpAt w' B H o m') (h2 : w'.cell? ⟨H, o + 2, none⟩ = w.cell? ⟨H, o + 2, none⟩) (h3 : w'.cell? ⟨H, o + 3, none⟩ = w.cell? ⟨H, o + 3, none⟩) {w'' : World} (f : Frm w w' (HR w H o)) (g : Frm w' w'' (HR w' H o)) : Frm w w'' (HR w H o) :=
  f.trans (g.mono fun k _ hk => HR_eq h2 h3 hk)
def withSt (m : Hm) (st : List Bool) : Hm := ⟨m.room, m.turns, m.ws, st⟩
set_option maxRecDepth 100000 in
set_option maxHeartbeats 8000000 in
theorem sound_any {w : World} {B H o : Nat} {m : Hm} (h : HpAt w B H o m) (hst : m.st = List.replicate m.ws.length false) :
    Calls Try.prog 41 #[.pointer (some ⟨H, o, none⟩)] w fun e w' => e = .returned (.bool (sndB m)) ∧ Hid (Frm w w' (HR w H o)) ∧ Hid (∀ st, sndO m.ws = some st → HpAt w' B H o (withSt m st)) := by
  obtain ⟨Aw, cw, As, cs, g0, g1, g2, g3, hww, hss⟩ := h.cells
  have HP := Lib.hid h
  have hlt := h.ok.lt
  obtain ⟨L, hL⟩ : ∃ L, L = m.ws.length := ⟨_, rfl⟩
  rw [← hL] at g2 g3 hlt
  have HL := Lib.hid hL
  have WF := Lib.hid h.ok.wf
  have HP0 : Hid (HpAt w B H o (withSt m (List.replicate m.ws.length false))) := Lib.hid (by rw [← hst]; exact h)
  have G2 := Lib.hid g2
  have G3 := Lib.hid g3
  clear h hst hww hss g0 g1 hL
  go_enter Try.func41, Try.ntmps41
  go_wp2
  go_loopw [3] (fun i wr => ∃ (a f : Nat) (st : List Bool), i = .int .i64 a ∧ a ≤ L ∧ Hid (L - a ≤ f ∧ soundS m.ws f a st = sndO m.ws ∧ StI m.ws a st) ∧ Hid (HpAt wr B H o (withSt m st)) ∧ Hid (Frm w wr (HR w H o)) ∧ wr.cell? ⟨H, o + 2, none⟩ = some (.slice Aw L cw) ∧ wr.cell? ⟨H, o + 3, none⟩ = some (.slice As L cs)) (fun i _ => L - (intOf i).toNat)
  case atStart => exact ⟨0, m.ws.length, _, rfl, by omega, Lib.hid ⟨by have := HL.out; omega, rfl, StI.init _⟩, HP0, Lib.hid (Frm.refl _ _), g2, g3⟩
  case round =>
    obtain ⟨a, f, st, rfl, ha, HS, HW, HF, f2, f3⟩ := hrel
    clear HP0
    by_cases haL : a < L
    · have haw : a < m.ws.length := by have := HL.out; omega
      obtain ⟨A1, c1, A2, c2, p0, p1, p2, p3, hw, hs⟩ := HW.out.cells
      obtain ⟨gw, e1, hcw⟩ := hw a haw
      obtain ⟨gs, e2, hcs⟩ := hs a haw
      rw [f2] at p2; injection p2 with p2; injection p2 with p2 q1 q2; clear q1 q2
      rw [f3] at p3; injection p3 with p3; injection p3 with p3 q1 q2; clear q1 q2
      have EA : Aw = some ⟨gw, 0, none⟩ := p2.trans e1
      have ES : As = some ⟨gs, 0, none⟩ := p3.trans e2
      subst EA ES
      have haLi : (a : Int) < (L : Int) := by omega
      have hx0 : m.ws.getD a 0 = m.ws[a] := getD_at haw
      obtain ⟨x, hx⟩ : ∃ x, x = m.ws[a] := ⟨_, rfl⟩
      have hux : U64 x := hx ▸ WF.out _ (List.getElem_mem haw)
      have hcw2 : wr.cell? ⟨gw, a, none⟩ = some (.int .u64 x) := by rw [hx]; exact hcw
      have hgx : m.ws.getD a 0 = x := by rw [hx0, hx]
      have SP := Lib.hid (split_any x hux.1 hux.2 wr)
      have hn := splS_nn hux.1
      have hz : szN m.ws a = (splS x).toNat := by unfold szN; rw [hgx]
      have hga : goodAt m.ws a = (splB x && decide (a + (splS x).toNat < m.ws.length)) := by unfold goodAt; rw [hz, hgx]
      obtain ⟨f', rfl⟩ : ∃ f', f = f' + 1 := ⟨f - 1, by have := HS.out.1; omega⟩
      have fz := HW.out.frz (by rw [f3]) a
      obtain ⟨sz, hsz⟩ : ∃ sz : Nat, splS x = (sz : Int) := ⟨(splS x).toNat, by omega⟩
      rw [hsz] at SP hn hz hga
      rw [Int.toNat_natCast] at hz hga
      have hsz2 : sz ≤ 65535 := by omega
      obtain ⟨y, hcs2⟩ : ∃ y, wr.cell? ⟨gs, a, none⟩ = some y := ⟨_, hcs⟩
      have hun : soundS m.ws (f' + 1) a st = if goodAt m.ws a = true then soundS m.ws f' (a + (szN m.ws a + 1)) (st.set a true) else none := by
        show (if a < m.ws.length then _ else _) = _
        rw [if_pos haw]
      rw [hz] at hun
      have HUN := Lib.hid hun
      have HZ := Lib.hid hz
      have HGA := Lib.hid hga
      have hsub : IntKind.i64.wrap ((L : Int) - (a : Int)) = (L : Int) - (a : Int) := IntWalk.i64_in _ (by omega)
      clear hun hz hga hcw hcs hw hs p0 p1 p2 p3 e1 e2 hx hux hx0 hgx hsz hn
      cases hB : splB x
      · have e : sndB m = false := by
          have e2 : sndO m.ws = none := by rw [← HS.out.2.1, HUN.out, HGA.out, hB]; rfl
          unfold sndB; rw [e2]
        have E := Lib.hid e
        have e2 : Hid (sndO m.ws = none) := Lib.hid (by rw [← HS.out.2.1, HUN.out, HGA.out, hB]; rfl)
        rw [hB] at SP
        clear hB e
        go_wp2_with fail
        refine SP.out.mono ?_; rintro e w2 ⟨rfl, rfl⟩
        go_wp2
        go_ret
        exact ⟨by rw [E.out]; rfl, HF, Lib.hid (fun st h => by rw [e2.out] at h; cases h)⟩
      · rw [hB] at SP
        by_cases hfit : (L : Int) - (a : Int) ≤ (sz : Int)
        · have e2 : Hid (sndO m.ws = none) := Lib.hid (by
            rw [← HS.out.2.1, HUN.out, HGA.out, hB]
            have : decide (a + sz < m.ws.length) = false := decide_eq_false (by have := HL.out; omega)
            rw [this]; rfl)
          have e : sndB m = false := by unfold sndB; rw [e2.out]
          have E := Lib.hid e
          have dd := decide_eq_true hfit
          clear hB e
          go_wp2_with fail
          refine SP.out.mono ?_; rintro e w2 ⟨rfl, rfl⟩
          go_wp2
          go_ret
          exact ⟨by rw [E.out]; rfl, HF, Lib.hid (fun st h => by rw [e2.out] at h; cases h)⟩
        · have dd := decide_eq_false hfit
          have HG : Hid (goodAt m.ws a = true) := Lib.hid (by
            rw [HGA.out, hB]
            have : decide (a + sz < m.ws.length) = true := decide_eq_true (by have := HL.out; omega)
            rw [this]; rfl)
          have F2 := Lib.hid f2
          have F3 := Lib.hid f3
          have hadd : IntKind.i64.wrap ((a : Int) + ((sz : Int) + 1)) = (a : Int) + ((sz : Int) + 1) := IntWalk.i64_in _ (by omega)
          clear hB
          go_wp2_with fail
          refine SP.out.mono ?_; rintro e w2 ⟨rfl, rfl⟩
          go_wp2
          go_roundw
          case rel =>
            have z := HW.out.setT F3.out (i := a) (StI.ok (m := m) (by
              have q := HS.out.2.2.next (by have := HL.out; omega) HG.out
              exact q) HP.out.ok)
            have hne : ∀ j, (wr.setCell ⟨gs, a, none⟩ (.bool true)).cell? ⟨H, j, none⟩ = wr.cell? ⟨H, j, none⟩ := fun j => by
              obtain ⟨cc, T, A1, c1, A2, c2, t1, t2, t3, e1, e2, e3, e4, e5, o1, o2⟩ := HW.out.at_
              have q3 : wr.cell? ⟨H, o + 3, none⟩ = some (.slice A2 (withSt m st).st.length c2) := by simp [World.cell?, e1, e5]
              rw [F3.out] at q3; injection q3 with q3; injection q3 with q3 _ _
              subst q3
              have hgH : gs ≠ H := fun e => row_ne o2 e1 t2 (by simp [Value.ownBlock, e])
              exact World.cell?_of_block ((frm_set (R := fun k => k = gs) a (.bool true) rfl).block H HW.out.lt (fun e => hgH e.symm))
            refine ⟨a + (sz + 1), f', st.set a true, by push_cast; go_num, by omega, Lib.hid ⟨by have := HS.out.1; omega, ?_, ?_⟩, Lib.hid z.1, Lib.hid (HF.out.trans (z.2.mono fun k _ hk => HR_eq (F2.out.trans G2.out.symm) (F3.out.trans G3.out.symm) hk)), (hne _).trans F2.out, (hne _).trans F3.out⟩
            · rw [← HS.out.2.1, HUN.out, if_pos HG.out]
            · have q := HS.out.2.2.next (by have := HL.out; omega) HG.out
              rw [HZ.out] at q; exact q
          case measure => simp [intOf]; omega
    · obtain rfl : a = L := by omega
      have HO : Hid (sndO m.ws = some st) := Lib.hid (by
        rw [← HS.out.2.1]
        cases f with
        | zero => rfl
        | succ f => show (if a < m.ws.length then _ else _) = _; rw [if_neg (by have := HL.out; omega)])
      have HSB : Hid (sndB m = fitAll (withSt m st) a) := Lib.hid (by unfold sndB; rw [HO.out, HL.out]; rfl)
      have hwl : (withSt m st).ws.length = a := HL.out.symm
      have HWL := Lib.hid hwl
      clear HS hwl haL ha
      go_wp2
      go_loop [58] (fun i => ∃ k : Nat, i = .int .i64 k ∧ k ≤ a ∧ Hid (fitAll (withSt m st) k = true)) (fun i => a - (intOf i).toNat)
      case atStart => exact ⟨0, rfl, by omega, Lib.hid rfl⟩
      case round =>
        obtain ⟨k, rfl, hk, HK⟩ := hrel
        by_cases hka : k < a
        · have hkai : (k : Int) < (a : Int) := by omega
          have hkw : k < (withSt m st).ws.length := by rw [HWL.out]; exact hka
          obtain ⟨A1, c1, A2, c2, p0, p1, p2, p3, hw, hs⟩ := HW.out.cells
          obtain ⟨gw, e1, hcw⟩ := hw k hkw
          obtain ⟨gs, e2, hcs⟩ := hs k hkw
          rw [f2] at p2; injection p2 with p2; injection p2 with p2 q1 q2; clear q1 q2
          rw [f3] at p3; injection p3 with p3; injection p3 with p3 q1 q2; clear q1 q2
          have EA : Aw = some ⟨gw, 0, none⟩ := p2.trans e1
          have ES : As = some ⟨gs, 0, none⟩ := p3.trans e2
          subst EA ES
          have hsl : k < (withSt m st).st.length := by rw [HW.out.ok.len]; exact hkw
          have hgd : (withSt m st).st.getD k false = (withSt m st).st[k] := by simp [List.getD, List.getElem?_eq_getElem hsl]
          obtain ⟨x, hx⟩ : ∃ x, x = (withSt m st).ws[k] := ⟨_, rfl⟩
          have hux : U64 x := hx ▸ HW.out.ok.wf _ (List.getElem_mem hkw)
          have hgx : (withSt m st).ws.getD k 0 = x := by rw [getD_at hkw, hx]
          obtain ⟨bs, hbs⟩ : ∃ b, b = (withSt m st).st[k] := ⟨_, rfl⟩
          rw [← hx] at hcw
          rw [← hbs] at hcs hgd
          have FT := Lib.hid (fits_any HW.out x hux)
          have HN : Hid (fitAll (withSt m st) (k + 1) = (bs || fitsB (withSt m st) x)) := Lib.hid (by
            have q := HK.out
            unfold fitAll at q ⊢
            rw [List.range_succ, List.all_append, q, hgd.symm, hgx.symm]
            simp)
          clear hgd hgx hx hbs hw hs p0 p1 p2 p3 e1 e2 hsl hkw hux
          cases bs
          · cases hf : fitsB (withSt m st) x
            · rw [hf] at FT
              have E : Hid (sndB m = false) := Lib.hid (by
                rw [HSB.out]
                have q := HN.out
                rw [hf] at q
                have q2 : fitAll (withSt m st) (k + 1) = false := q
                unfold fitAll at q2 ⊢
                rw [List.all_eq_false] at q2 ⊢
                obtain ⟨j, hj, hj2⟩ := q2
                rw [List.mem_range] at hj
                exact ⟨j, List.mem_range.2 (by omega), hj2⟩)
              go_wp2_with fail
              refine FT.out.mono ?_; rintro e w2 ⟨rfl, rfl⟩
              go_wp2
              go_ret
              exact ⟨by rw [E.out]; rfl, HF, Lib.hid (fun st' h => by rw [HO.out] at h; injection h with h; subst h; exact HW.out)⟩
            · rw [hf] at FT
              have HN2 : Hid (fitAll (withSt m st) (k + 1) = true) := Lib.hid (by rw [HN.out, hf]; rfl)
              go_wp2_with fail
              refine FT.out.mono ?_; rintro e w2 ⟨rfl, rfl⟩
              go_wp2
              go_round
              case rel => exact ⟨k + 1, by go_num, by omega, HN2⟩
              case measure => simp [intOf]; omega
          · have HN2 : Hid (fitAll (withSt m st) (k + 1) = true) := Lib.hid (by rw [HN.out]; rfl)
            go_wp2
            go_round
            case rel => exact ⟨k + 1, by go_num, by omega, HN2⟩
            case measure => simp [intOf]; omega
        · obtain rfl : k = a := by omega
          have hkai : ¬ (k : Int) < (k : Int) := by omega
          go_wp2
          go_ret
          exact ⟨by rw [HSB.out, HK.out]; rfl, HF, Lib.hid (fun st' h => by rw [HO.out] at h; injection h with h; subst h; exact HW.out)⟩
end Go.Proofs.Ytknpgmbniohcnaa
