import Derived.Test.YtifopogkbjhkjaaGreatDoorYh
import Derived.Laws.MakeOwn
namespace Go.Proofs.YtifopogkbjhkjaaGreatDoor
open DR
open Go.ChangeShapes Go.WideShapes Go.ChangeAt Go.RowKit Go.WideMaps
set_option linter.unusedVariables false
set_option linter.unusedSimpArgs false
theorem infoIn : (Tryz.prog.info? 3).map (fun i => (i.zero, i.size, i.bytes)) = some (some (.int .i64 0), 1, 8) := by kernel_rfl
theorem made_zeros (n : Nat) : madeCells #[Value.int .i64 0] n = ((List.replicate n (0 : Int)).map (fun x => Value.int .i64 x)).toArray := by
  apply Array.ext
  · simp [size_madeCells]
  · intro i h1 h2
    simp [madeCells]
    have : i % 1 = 0 := Nat.mod_one i
    simp [this]
/-- make([]int, n). -/
theorem make_ints (w : World) (n : Nat) (h : n ≤ 2000) : Sem.run Tryz.prog (Instr.makeSlice 26 (.int .i64 (n : Int)) (.int .i64 (n : Int))) w = .ok (.slice (some ⟨w.heap.size, 0, none⟩) n n) (w.alloc (.cells ((List.replicate n (0 : Int)).map (fun x => Value.int .i64 x)).toArray 3)) := by
  obtain ⟨i0, hi0, hz0, hz1, hz2⟩ := info_parts infoIn
  have := run_makeSlice (w := w) 26 3 i0 (.int .i64 0) Tryz.underlying26 hi0 hz0 .i64 .i64 (n : Int) (n : Int) (by omega) (by omega) (by rw [hz1]; omega) (by rw [hz2]; omega) (by omega)
  rw [Int.toNat_natCast, hz1, Nat.mul_one] at this
  rw [← made_zeros]
  exact this
theorem shp_v {k : Nat} (h : k < 2000) : shp (.mk 7 ⟨#[]⟩ (k : Int) []) = true := by
  rw [shp_eq, Bool.and_eq_true]
  refine ⟨?_, rfl⟩
  have e : emptyB (⟨#[]⟩ : ByteArray) = true := by first | kernel_rfl | (unfold emptyB; simp [ByteArray.toList]; unfold ByteArray.toList.loop; simp [ByteArray.size])
  have h2 : (k : Int) ≤ 1999 := by omega
  simp [headOk, TT.k, TT.nm, TT.vr, TT.args, arT, e, h2]
/-- a variable stands for more than 500 nodes. -/
def Great (St : List TT) : Prop := ∃ x : Nat, x < St.length ∧ 500 < msz St (.mk 7 ⟨#[]⟩ (x : Int) [])
open Classical in
set_option maxRecDepth 100000 in
set_option maxHeartbeats 4000000 in
theorem great_ok {St : List TT} {rk : Int → Nat} (hst : StOk St rk) {sb : Nat} {n : Int} {w : World} (hs : SubR w sb n St) :
    Calls Tryz.prog 28 #[.pointer (some ⟨sb, 0, none⟩)] w fun e w' => e = .returned (.bool (decide (Great St))) ∧ Below w.heap.size w w' := by
  have hlen := hst.len
  obtain ⟨SA, sc, hs1, hrow⟩ := id hs
  have hsl := (Array.getElem?_eq_some_iff.1 hs1).1
  obtain ⟨g, hg⟩ : ∃ g, g = w.heap.size := ⟨_, rfl⟩
  obtain ⟨wM, hwM⟩ : ∃ z, z = w.alloc (.cells ((List.replicate St.length (0 : Int)).map (fun x => Value.int .i64 x)).toArray 3) := ⟨_, rfl⟩
  have MK := make_ints w St.length hlen
  rw [← hwM, ← hg] at MK
  have BM := Lib.hid (show Below w.heap.size w wM by rw [hwM]; exact below_alloc w _)
  have KM := Lib.hid (show KnR wM g (List.replicate St.length 0) by rw [hg, hwM]; exact heap_alloc_new w _)
  have SM := Lib.hid (show SubP wM (· ≠ g) sb n St by
    obtain ⟨A1, c1, q1, q2⟩ := hs.low.later BM.out
    exact ⟨A1, c1, q1, q2.weak (fun b _ (hb : b < w.heap.size) => by show b ≠ g; omega)⟩)
  have HSG := Lib.hid (show sb ≠ g by omega)
  have HG := Lib.hid hg
  obtain ⟨s0, s1⟩ := sub_cell hs1
  obtain ⟨m0, m1⟩ := sub_cell ((BM.out.block sb hsl).trans hs1)
  have HST := Lib.hid hst
  have ST := Lib.hid (Frm.refl wM (· = g))
  have KZ := Lib.hid (KOk.zeros St)
  clear hs1 hrow hs hsl hg hwM hst
  go_enter Tryz.func28, Tryz.ntmps28
  go_wp2
  go_loopw [16] (fun i wr => ∃ (k : Nat) (K' : List Int), k ≤ St.length ∧ i = .int .i64 k ∧ Hid (∀ x : Nat, x < k → ¬ 500 < msz St (.mk 7 ⟨#[]⟩ (x : Int) [])) ∧ Hid (KnR wr g K') ∧ Hid (KOk St K') ∧ Hid (Frm wM wr (· = g))) (fun i _ => St.length - (intOf i).toNat)
  case atStart => exact ⟨0, _, by omega, by first | rfl | trivial, Lib.hid (fun x h => by omega), KM, KZ, ST⟩
  case round =>
    obtain ⟨k, K', hk, rfl, HQ, HK, HO, HF⟩ := hrel
    by_cases hlt : k < St.length
    · have hlti : (k : Int) < (St.length : Int) := by omega
      have CALL := Lib.hid (measure_ok HST.out HSG.out (kc := St.length) (n := n) (.mk 7 ⟨#[]⟩ (k : Int) []) (shp_v (by omega)) (tv (.mk 7 ⟨#[]⟩ (k : Int) []) none 0) K' wr ⟨none, 0, rfl, .inl rfl⟩ (SM.out.mv HSG.out HF.out) HK.out HO.out)
      obtain ⟨C, hC⟩ : ∃ C, C = msz St (.mk 7 ⟨#[]⟩ (k : Int) []) := ⟨_, rfl⟩
      rw [← hC] at CALL
      have HC := Lib.hid hC
      clear hC
      by_cases hc : 500 < C
      · have dc := decide_eq_true hc
        have RES : Hid (decide (Great St) = true) := Lib.hid (decide_eq_true ⟨k, hlt, by rw [← HC.out]; exact hc⟩)
        go_wp2_with fail
        refine CALL.out.mono ?_; rintro e w2 ⟨rfl, K2, kn2, ko2, f2⟩
        have F2 := Lib.hid (BM.out.trans ((HF.out.trans f2).below (fun q hq => by have : q = g := hq; have := HG.out; omega) (by have := BM.out.size; omega)))
        clear kn2 ko2 f2 CALL
        go_wp2
        go_ret
        exact ⟨by rw [RES.out]; rfl, F2.out⟩
      · have dc := decide_eq_false hc
        have HN := Lib.hid (show ∀ x : Nat, x < k + 1 → ¬ 500 < msz St (.mk 7 ⟨#[]⟩ (x : Int) []) by
          intro x hx
          by_cases e : x = k
          · subst e; rw [← HC.out]; exact hc
          · exact HQ.out x (by omega))
        go_wp2_with fail
        refine CALL.out.mono ?_; rintro e w2 ⟨rfl, K2, kn2, ko2, f2⟩
        have F2 := Lib.hid (HF.out.trans f2)
        have KN2 := Lib.hid kn2
        have KO2 := Lib.hid ko2
        clear kn2 ko2 f2 CALL
        go_wp2
        go_roundw
        case rel => exact ⟨k + 1, K2, by omega, by go_num, Lib.hid (fun x h => by have := HN.out x h; omega), KN2, KO2, F2⟩
        case measure => simp [intOf]; omega
    · have RES : Hid (decide (Great St) = false) := Lib.hid (decide_eq_false (fun ⟨x, hx, h⟩ => HQ.out x (by omega) h))
      have hge : ¬ (k : Int) < (St.length : Int) := by omega
      have F2 := Lib.hid (BM.out.trans (HF.out.below (fun q hq => by have : q = g := hq; have := HG.out; omega) (by have := BM.out.size; omega)))
      go_wp2
      go_ret
      exact ⟨by rw [RES.out]; rfl, F2.out⟩
end Go.Proofs.YtifopogkbjhkjaaGreatDoor
namespace Go.Proofs.YtifopogkbjhkjaaGreatDoor
open Go.ChangeShapes Go.WideShapes Go.ChangeAt Go.RowKit Go.WideMaps
set_option linter.unusedVariables false
set_option linter.unusedSimpArgs false
/-- v stands for t now. -/
def bindS (St : List TT) (v : Nat) (t : TT) : List TT := (St ++ List.replicate (v + 1 - St.length) zeroT).set v t
theorem bindS_len (St : List TT) (v : Nat) (t : TT) : (bindS St v t).length = max St.length (v + 1) := by
  unfold bindS; rw [List.length_set, List.length_append, List.length_replicate]; omega
theorem stA_get (St : List TT) (x : Int) : stA St x = if 0 ≤ x then (St[x.toNat]?).getD zeroT else zeroT := by
  unfold stA; rw [List.getD_eq_getElem?_getD]
theorem pad_get (St : List TT) (k x : Nat) : ((St ++ List.replicate k zeroT)[x]?).getD zeroT = (St[x]?).getD zeroT := by
  by_cases h : x < St.length
  · rw [List.getElem?_append_left h]
  · rw [List.getElem?_append_right (by omega), List.getElem?_eq_none (l := St) (by omega), List.getElem?_replicate]
    split <;> rfl
theorem stA_pad (St : List TT) (k : Nat) (x : Int) : stA (St ++ List.replicate k zeroT) x = stA St x := by
  rw [stA_get, stA_get, pad_get]
theorem stA_bind (St : List TT) (v : Nat) (t : TT) : stA (bindS St v t) v = t := by
  rw [stA_get, if_pos (by omega), Int.toNat_natCast]
  unfold bindS
  rw [List.getElem?_set_self (by rw [List.length_append, List.length_replicate]; omega)]; rfl
theorem stA_bind_ne (St : List TT) {v : Nat} {x : Int} (t : TT) (h : x ≠ v) : stA (bindS St v t) x = stA St x := by
  rw [stA_get, stA_get]
  by_cases h0 : 0 ≤ x
  · rw [if_pos h0, if_pos h0]
    unfold bindS
    rw [List.getElem?_set_ne (by omega), pad_get]
  · rw [if_neg h0, if_neg h0]
/-- the state of one that unifies: what stands, what was set. -/
structure US where
  st : List TT
  set : List Int
def standU (u : US) (v : Int) (t : TT) : US := ⟨bindS u.st v.toNat t, u.set ++ [v]⟩
def uniL (f : US → TT → TT → Int × US) : List TT → List TT → US → Int × US
  | a :: l, b :: r, u => if (f u a b).1 = 0 then uniL f l r (f u a b).2 else f u a b
  | _, _, u => (0, u)
open Classical in
/-- two types are made one (below the fuel). -/
noncomputable def uniF : Nat → US → TT → TT → Int × US
  | 0, u, _, _ => (-1, u)
  | d + 1, u, a, b =>
    if 500 < fsz u.st a ∨ 500 < fsz u.st b then (2, u)
    else if (resF u.st a).k = 7 then
      if (resF u.st b).k = 7 then
        if (resF u.st b).vr < (resF u.st a).vr then (0, standU u (resF u.st a).vr (resF u.st b))
        else if (resF u.st a).vr < (resF u.st b).vr then (0, standU u (resF u.st b).vr (resF u.st a))
        else (0, u)
      else if Occ u.st (resF u.st a).vr (resF u.st b) then (5, u) else (0, standU u (resF u.st a).vr (resF u.st b))
    else if (resF u.st b).k = 7 then
      if Occ u.st (resF u.st b).vr (resF u.st a) then (5, u) else (0, standU u (resF u.st b).vr (resF u.st a))
    else if (resF u.st a).k ≠ (resF u.st b).k ∨ (resF u.st a).nm ≠ (resF u.st b).nm then (5, u)
    else uniL (uniF d) (resF u.st a).args (resF u.st b).args u
/-- places that hold nothing hold the zero type. -/
def Zok (St : List TT) : Prop := ∀ x, (stA St x).k = 0 → stA St x = zeroT
/-- how many stand for nothing. -/
def ubn (St : List TT) : Nat := (List.range 2000).countP (fun x : Nat => decide ((stA St (x : Int)).k = 0))
structure UInv (u : US) : Prop where
  ok : ∃ rk, StOk u.st rk
  zok : Zok u.st
  set : ∀ v ∈ u.set, 0 ≤ v ∧ v < u.st.length
  cnt : u.set.length + ubn u.st ≤ 2000
/-- what was done besides. -/
structure UExt (u u' : US) : Prop where
  inv : UInv u'
  ext : ∃ s, u'.set = u.set ++ s ∧ (∀ x ∈ s, (stA u.st x).k = 0 ∧ (stA u'.st x).k ≠ 0) ∧ ∀ x, x ∉ s → stA u'.st x = stA u.st x
  ubn : u' = u ∨ ubn u'.st < ubn u.st
theorem UExt.refl {u : US} (h : UInv u) : UExt u u := ⟨h, ⟨[], by simp, by simp, fun _ _ => rfl⟩, .inl rfl⟩
theorem UExt.trans {a b c : US} (h : UExt a b) (k : UExt b c) : UExt a c := by
  obtain ⟨s, h1, h2, h3⟩ := h.ext
  obtain ⟨s', k1, k2, k3⟩ := k.ext
  refine ⟨k.inv, ⟨s ++ s', by rw [k1, h1, List.append_assoc], fun x hx => ?_, fun x hx => ?_⟩, ?_⟩
  · have hd : x ∈ s' → x ∉ s := fun hx' hs => absurd (k2 x hx').1 (h2 x hs).2
    rcases List.mem_append.1 hx with hx | hx
    · have hn : x ∉ s' := fun e => hd e hx
      rw [k3 x hn]; exact h2 x hx
    · have e := h3 x (hd hx)
      rw [← e]; exact k2 x hx
  · rw [List.mem_append, not_or] at hx
    rw [k3 x hx.2, h3 x hx.1]
  · rcases h.ubn with e | h <;> rcases k.ubn with e' | k
    · exact .inl (e'.trans e)
    · rw [e] at k; exact .inr k
    · rw [e']; exact .inr h
    · exact .inr (Nat.lt_trans k h)
theorem countP_lt {p q : Nat → Bool} {v : Nat} : ∀ {l : List Nat}, v ∈ l → p v = true → q v = false → (∀ x, q x = true → p x = true) → l.countP q < l.countP p
  | a :: l, hv, hp, hq, h => by
    have hle : l.countP q ≤ l.countP p := List.countP_mono_left fun x _ => h x
    rw [List.countP_cons, List.countP_cons]
    rcases List.mem_cons.1 hv with rfl | hv
    · rw [if_pos hp, if_neg (by rw [hq]; simp)]; omega
    · have := countP_lt hv hp hq h
      by_cases ha : q a = true
      · rw [if_pos ha, if_pos (h a ha)]; omega
      · rw [if_neg ha]; omega
theorem stand_ext {u : US} (h : UInv u) {v : Int} {t : TT} (h0 : 0 ≤ v) (h1 : v ≤ 1999) (hv : (stA u.st v).k = 0) (hs : shp t = true) (hk : t.k ≠ 0) (ho : ¬ Occ u.st v t) : UExt u (standU u v t) := by
  obtain ⟨x, rfl⟩ : ∃ x : Nat, v = x := ⟨v.toNat, by omega⟩
  obtain ⟨rk, hst⟩ := h.ok
  have e : standU u (x : Int) t = ⟨bindS u.st x t, u.set ++ [(x : Int)]⟩ := by unfold standU; rw [Int.toNat_natCast]
  rw [e]
  have hl := hst.len
  have hub : ubn (bindS u.st x t) < ubn u.st := by
    unfold ubn
    refine countP_lt (v := x) (l := List.range 2000) (List.mem_range.2 (by omega)) (by simpa using hv) ?_ (fun y hy => ?_)
    · rw [stA_bind]; simpa using hk
    · by_cases hx : (y : Int) = x
      · rw [hx, stA_bind] at hy
        exact absurd (of_decide_eq_true hy) hk
      · rw [stA_bind_ne _ _ hx] at hy; exact hy
  refine ⟨⟨stand_ok hst (by rw [bindS_len]; omega) hs hv ho (stA_bind _ _ _) (fun y hy => stA_bind_ne _ _ hy), fun y hy => ?_, fun y hy => ?_, ?_⟩, ⟨[(x : Int)], rfl, fun y hy => ?_, fun y hy => ?_⟩, .inr hub⟩
  · by_cases hx : y = x
    · subst hx; rw [show (US.st ⟨bindS u.st x t, u.set ++ [(x : Int)]⟩) = bindS u.st x t from rfl, stA_bind] at hy; exact absurd hy hk
    · rw [show (US.st ⟨bindS u.st x t, u.set ++ [(x : Int)]⟩) = bindS u.st x t from rfl, stA_bind_ne _ _ hx] at hy ⊢; exact h.zok y hy
  · show 0 ≤ y ∧ y < ((bindS u.st x t).length : Int)
    rw [bindS_len]
    rcases List.mem_append.1 hy with hy | hy
    · have := h.set y hy; omega
    · rw [List.mem_singleton] at hy; subst hy; omega
  · show (u.set ++ [(x : Int)]).length + ubn (bindS u.st x t) ≤ 2000
    have := h.cnt
    rw [List.length_append, List.length_singleton]; omega
  · rw [List.mem_singleton] at hy; subst hy
    exact ⟨hv, by show (stA (bindS u.st x t) x).k ≠ 0; rw [stA_bind]; exact hk⟩
  · rw [List.mem_singleton] at hy
    exact stA_bind_ne _ _ hy
theorem shp_k {t : TT} (h : shp t = true) : t.k ≠ 0 ∧ 0 ≤ t.vr ∧ t.vr ≤ 1999 := by
  rw [shp_eq, Bool.and_eq_true] at h
  have := head_var h.1
  omega
theorem res_zero {St : List TT} {t : TT} (h : ¬ bnd St t) (h7 : t.k = 7) : (stA St t.vr).k = 0 := Classical.byContradiction fun e => h ⟨h7, e⟩
theorem occ_var_no {St : List TT} {v : Int} {T : TT} (hb : ¬ bnd St T) (h7 : T.k = 7) (h : T.vr ≠ v) : ¬ Occ St v T := fun ho => h ((occ_var hb h7).1 ho)
theorem uniF_ext : ∀ (d : Nat) (u : US) (a b : TT), UInv u → shp a = true → shp b = true → UExt u (uniF d u a b).2 := by
  intro d
  induction d with
  | zero => intro u a b h _ _; exact .refl h
  | succ d ih =>
    intro u a b h ha hb
    obtain ⟨rk, hst⟩ := h.ok
    have sA := res_shp hst (resF_res hst a) ha
    have sB := res_shp hst (resF_res hst b) hb
    have nA := res_stop (resF_res hst a)
    have nB := res_stop (resF_res hst b)
    have kA := shp_k sA
    have kB := shp_k sB
    have HL : ∀ (l r : List TT) (u : US), UInv u → (∀ x ∈ l, shp x = true) → (∀ x ∈ r, shp x = true) → UExt u (uniL (uniF d) l r u).2 := by
      intro l
      induction l with
      | nil => intro r u hu _ _; exact .refl hu
      | cons x l il =>
        intro r u hu hl hr
        cases r with
        | nil => exact .refl hu
        | cons y r =>
          have h1 := ih u x y hu (hl x (by simp)) (hr y (by simp))
          rw [uniL]
          split
          · exact h1.trans (il r _ h1.inv (fun z hz => hl z (List.mem_cons_of_mem _ hz)) (fun z hz => hr z (List.mem_cons_of_mem _ hz)))
          · exact h1
    rw [uniF]
    split
    · exact .refl h
    split
    · rename_i hA7
      split
      · rename_i hB7
        split
        · exact stand_ext h kA.2.1 kA.2.2 (res_zero nA hA7) sB kB.1 (occ_var_no nB hB7 (by omega))
        · split
          · exact stand_ext h kB.2.1 kB.2.2 (res_zero nB hB7) sA kA.1 (occ_var_no nA hA7 (by omega))
          · exact .refl h
      · split
        · exact .refl h
        · rename_i ho
          exact stand_ext h kA.2.1 kA.2.2 (res_zero nA hA7) sB kB.1 ho
    · split
      · rename_i hB7
        split
        · exact .refl h
        · rename_i ho
          exact stand_ext h kB.2.1 kB.2.2 (res_zero nB hB7) sA kA.1 ho
      · split
        · exact .refl h
        · exact HL _ _ u h (shp_head sA).2.2 (shp_head sB).2.2
/-- the measure of the recursion. -/
noncomputable def muU (u : US) (a : TT) : Nat := ubn u.st * 502 + min (fsz u.st a) 501
theorem mu_arg {u u' : US} {a x : TT} (hok : ∃ rk, StOk u.st rk) (ha : shp a = true) (h5 : ¬ 500 < fsz u.st a) (hx : x ∈ (resF u.st a).args) (hu : u' = u ∨ ubn u'.st < ubn u.st) : muU u' x < muU u a := by
  obtain ⟨rk, hst⟩ := hok
  unfold muU
  rcases hu with rfl | h
  · have := fsz_arg hst ha hx; omega
  · have : ubn u'.st * 502 + 502 ≤ ubn u.st * 502 := by omega
    omega
theorem ubn_le (St : List TT) : ubn St ≤ 2000 := by
  unfold ubn
  exact Nat.le_trans List.countP_le_length (Nat.le_of_eq List.length_range)
theorem mu_lt (u : US) (a : TT) : muU u a < 2001 * 502 := by
  unfold muU
  have := ubn_le u.st
  omega
end Go.Proofs.YtifopogkbjhkjaaGreatDoor
namespace Go.Proofs.YtifopogkbjhkjaaGreatDoor
open Go.ChangeShapes Go.WideShapes Go.ChangeAt Go.RowKit Go.WideMaps
set_option linter.unusedVariables false
set_option linter.unusedSimpArgs false
abbrev UniY : TypeId := 67
theorem obj_ne {a b : Array Value} {t t' : TypeId} {fr fr' : Nat × Nat} (h : some (Obj.cells a t fr) = some (Obj.cells b t' fr')) (hn : t ≠ t') : False := by
  injection h with h; injection h with _ h; exact hn h
/-- blocks that may turn: those from B on that are not kept. -/
def Tn (Pr : Nat → Prop) (B : Nat) : Nat → Prop := fun b => B ≤ b ∧ ¬ Pr b
/-- a substitution in memory, to be written: what it holds lies in blocks of K. -/
structure SubW (w : World) (K Pr : Nat → Prop) (B sb : Nat) (n : Int) (St : List TT) (rv : Value) (xs : List Value) : Prop where
  sbc : w.heap[sb]? = some (.cells #[.int .i64 n, rv] SubY (0, 0))
  row : w.ownsRow B TT24 4 rv St.length xs
  kids : KidsT w K St xs
  nsb : ¬ Pr sb
  nrv : ∀ b, rv.ownBlock = some b → ¬ Pr b
  lo : B ≤ sb
  kb : ∀ b, Pr b → b < w.heap.size
  kp : ∀ b, K b → Pr b
theorem SubW.slt {w : World} {K Pr : Nat → Prop} {B sb : Nat} {n : Int} {St : List TT} {rv : Value} {xs : List Value} (h : SubW w K Pr B sb n St rv xs) : sb < w.heap.size := (Array.getElem?_eq_some_iff.1 h.sbc).1
theorem SubW.frm {w w' : World} {K Pr R : Nat → Prop} {B sb : Nat} {n : Int} {St : List TT} {rv : Value} {xs : List Value} (h : SubW w K Pr B sb n St rv xs) (f : Frm w w' R) (h1 : ∀ b, K b → ¬ R b) (h2 : ¬ R sb) (h3 : ∀ b, rv.ownBlock = some b → ¬ R b) : SubW w' K Pr B sb n St rv xs :=
  ⟨(f.block sb h.slt h2).trans h.sbc, own_frm h.row f h3, h.kids.move (fun b hb hk => ⟨f.block b hb (h1 b hk), hk⟩) f.size, h.nsb, h.nrv, h.lo, fun b hk => Nat.lt_of_lt_of_le (h.kb b hk) f.size, h.kp⟩
theorem SubW.later {w w' : World} {K Pr : Nat → Prop} {B sb : Nat} {n : Int} {St : List TT} {rv : Value} {xs : List Value} (h : SubW w K Pr B sb n St rv xs) (hb : Below w.heap.size w w') : SubW w' K Pr B sb n St rv xs :=
  h.frm (Frm.of_below hb (Nat.le_refl _) (fun _ => False)) (fun _ _ h => h) (fun h => h) (fun _ _ h => h)
theorem SubW.rne {w : World} {K Pr : Nat → Prop} {B sb : Nat} {n : Int} {St : List TT} {rv : Value} {xs : List Value} (h : SubW w K Pr B sb n St rv xs) : ∀ b, rv.ownBlock = some b → b ≠ sb := fun b hb e => by
  obtain ⟨cur, hc⟩ := own_type h.row hb
  rw [e, h.sbc] at hc
  exact obj_ne hc (by decide)
/-- to be read. -/
theorem SubW.trow {w : World} {K Pr : Nat → Prop} {B sb : Nat} {n : Int} {St : List TT} {rv : Value} {xs : List Value} (h : SubW w K Pr B sb n St rv xs) : ∃ A c, rv = .slice A St.length c ∧ (St.length = 0 ∨ ∃ g, A = some ⟨g, 0, none⟩ ∧ g < w.heap.size ∧ okTL w K St g 0) := by
  rcases h.row.2 with ⟨q1, q2⟩ | ⟨g, cap, cur, q1, q2, q3, q4, q5, q6, q7⟩
  · exact ⟨none, 0, by rw [q1, q2], .inl q2⟩
  · refine ⟨_, _, q1, .inr ⟨g, rfl, (Array.getElem?_eq_some_iff.1 q3).1, ?_⟩⟩
    refine KidsT.row h.kids (fun j hj => ?_)
    rw [Nat.zero_add]
    have hown := h.row
    rw [q1] at hown
    exact (hown.cellAt j (by rw [← hown.1]; exact hj)).trans (List.getElem?_eq_getElem hj)
theorem okTL_weak {w : World} {P P' : Nat → Prop} (hp : ∀ b, P b → P' b) {l : List TT} {b o : Nat} (h : okTL w P l b o) : okTL w P' l b o := by
  by_cases hl : l.length = 0
  · have := List.eq_nil_of_length_eq_zero hl
    subst this
    rw [okTL]; trivial
  · have hx : TRow w P' (some ⟨b, o, none⟩) l ∨ True := .inr trivial
    clear hx
    revert b o
    refine TT.rec_1 (motive_1 := fun v => ∀ b o, okT w P v b o → okT w P' v b o) (motive_2 := fun l => ∀ {b o}, okTL w P l b o → okTL w P' l b o) ?_ ?_ ?_ l
    · intro k nm vr args ih b o h
      rw [okT] at h ⊢
      obtain ⟨c0, c1, c2, A, c, c3, h4⟩ := h
      refine ⟨c0, c1, c2, A, c, c3, ?_⟩
      rcases h4 with h4 | ⟨b', o', h4, h5, h6, h7⟩
      · exact .inl h4
      · exact .inr ⟨b', o', h4, h5, hp _ h6, ih h7⟩
    · intro b o h; rw [okTL]; trivial
    · intro v l iv il b o h
      rw [okTL] at h ⊢
      exact ⟨iv _ _ h.1, il h.2⟩
theorem SubW.read {w : World} {K Pr : Nat → Prop} {B sb : Nat} {n : Int} {St : List TT} {rv : Value} {xs : List Value} (h : SubW w K Pr B sb n St rv xs) : SubR w sb n St := by
  obtain ⟨A, c, h1, h2⟩ := h.trow
  refine ⟨A, c, by rw [← h1]; exact h.sbc, ?_⟩
  rcases h2 with h2 | ⟨g, h2, h3, h4⟩
  · exact .inl h2
  · exact .inr ⟨g, 0, h2, h3, trivial, okTL_weak (fun _ _ => trivial) h4⟩
/-- one more place that holds nothing. -/
theorem SubW.push {w wa w4 : World} {K Pr : Nat → Prop} {B sb : Nat} {n : Int} {St : List TT} {rv v' : Value} {xs : List Value} (h : SubW w K Pr B sb n St rv xs) (hB : B ≤ w.heap.size) (hw : Below w.heap.size w wa) (own4 : w4.ownsRow B TT24 4 v' (St.length + 1) (xs ++ kidT zeroT none 0)) (gr4 : wa.grownBy w4 rv.ownBlock) (at4 : v'.ownBlock = rv.ownBlock ∨ v'.ownBlock = some wa.heap.size) :
    SubW (w4.setCell ⟨sb, 1, none⟩ v') K Pr B sb n (St ++ [zeroT]) v' (xs ++ kidT zeroT none 0) ∧ Frm w (w4.setCell ⟨sb, 1, none⟩ v') (fun b => b = sb ∨ rv.ownBlock = some b) := by
  have hv : ∀ b, rv.ownBlock = some b → B ≤ b ∧ b < w.heap.size := fun b hb => h.row.lt b hb
  have hs := hw.size
  have h4s := gr4.size
  have hsb := h.slt
  have hne := h.rne
  have hvk : ∀ b, v'.ownBlock = some b → ¬ Pr b ∧ b ≠ sb := fun b hb => by
    rcases at4 with e | e
    · rw [e] at hb; exact ⟨h.nrv b hb, hne b hb⟩
    · rw [e] at hb; injection hb with hb
      exact ⟨fun hk => by have := h.kb b hk; omega, by omega⟩
  have f1 : Frm w w4 (fun b => rv.ownBlock = some b) := (Frm.of_below hw (Nat.le_refl _) _).trans (Frm.of_grown gr4 (fun k hk => hk))
  have f2 : Frm w4 (w4.setCell ⟨sb, 1, none⟩ v') (· = sb) := frm_set (R := (· = sb)) 1 v' rfl
  have f3 : Frm w (w4.setCell ⟨sb, 1, none⟩ v') (fun b => b = sb ∨ rv.ownBlock = some b) := (f1.mono (fun k _ hk => .inr hk)).trans' f2 (fun i _ hi => .inl hi)
  have hk4 : ∀ b, K b → ¬ (b = sb ∨ rv.ownBlock = some b) := fun b hk hh => by
    rcases hh with e | e
    · exact h.nsb (e ▸ h.kp b hk)
    · exact h.nrv b e (h.kp b hk)
  have c4 : w4.heap[sb]? = some (.cells #[.int .i64 n, rv] SubY (0, 0)) := (f1.block sb hsb (fun e => hne sb e rfl)).trans h.sbc
  refine ⟨⟨by simp [World.setCell, Array.getElem?_modify, c4], ?_, ?_, h.nsb, fun b hb => (hvk b hb).1, h.lo, fun b hk => Nat.lt_of_lt_of_le (h.kb b hk) f3.size, h.kp⟩, f3⟩
  · rw [List.length_append, List.length_singleton]
    exact own_frm own4 f2 (fun b hb e => (hvk b hb).2 e)
  · refine KidsT.snoc (.inl rfl) ?_
    exact h.kids.move (fun b hb hk => ⟨f3.block b hb (hk4 b hk), hk⟩) f3.size
/-- four cells of a row. -/
def setK (xs : List Value) (x : Nat) (t : TT) (A : Option Addr) (c : Nat) : List Value := (((xs.set (x * 4) (.int .i64 t.k)).set (x * 4 + 1) (.string t.nm)).set (x * 4 + 2) (.int .i64 t.vr)).set (x * 4 + 3) (.slice A t.args.length c)
theorem KidsT.put {w : World} {P : Nat → Prop} {t : TT} {A : Option Addr} {c : Nat} (hr : TRow w P A t.args) : ∀ {l : List TT} {xs : List Value} {x : Nat}, x < l.length → KidsT w P l xs → KidsT w P (l.set x t) (setK xs x t A c)
  | v :: l, xs, 0, _, ⟨A', c', ys, h1, h3, h4⟩ => by
    subst h1
    exact ⟨A, c, ys, by simp [setK, kidT], hr, h4⟩
  | v :: l, xs, x + 1, hx, ⟨A', c', ys, h1, h3, h4⟩ => by
    subst h1
    refine ⟨A', c', setK ys x t A c, ?_, h3, KidsT.put hr (by simpa using hx) h4⟩
    unfold setK kidT
    rw [show (x + 1) * 4 = x * 4 + 4 by omega]
    simp [List.set_cons_succ]
theorem own_set {w : World} {B e s n g : Nat} {v : Value} {xs : List Value} (h : w.ownsRow B e s v n xs) (hg : v.ownBlock = some g) (i : Nat) (y : Value) : (w.setCell ⟨g, i, none⟩ y).ownsRow B e s v n (xs.set i y) := by
  refine ⟨by rw [List.length_set]; exact h.1, ?_⟩
  rcases h.2 with ⟨rfl, _⟩ | ⟨g', cap, cur, rfl, e2, e3, e4, e5, e6, e7⟩
  · cases hg
  · simp only [Value.ownBlock] at hg
    injection hg with hg
    subst hg
    refine .inr ⟨g', cap, cur.setIfInBounds i y, rfl, e2, by simp [World.setCell, Array.getElem?_modify, e3], e4, e5, by simpa using e6, ?_⟩
    rw [Array.toList_setIfInBounds, List.take_set, e7]
/-- v stands for t now. -/
theorem SubW.put {w : World} {K Pr : Nat → Prop} {B sb g cap : Nat} {n : Int} {St : List TT} {rv : Value} {xs : List Value} {t : TT} {A : Option Addr} {c : Nat} (h : SubW w K Pr B sb n St rv xs) (x : Nat) (hx : x < St.length) (hr : TRow w K A t.args) (hg : rv = .slice (some ⟨g, 0, none⟩) St.length cap) (p : Nat) (hp : p = x * 4) :
    SubW ((((w.setCell ⟨g, p, none⟩ (.int .i64 t.k)).setCell ⟨g, p + 1, none⟩ (.string t.nm)).setCell ⟨g, p + 2, none⟩ (.int .i64 t.vr)).setCell ⟨g, p + 3, none⟩ (.slice A t.args.length c)) K Pr B sb n (St.set x t) rv (setK xs x t A c) ∧ Frm w ((((w.setCell ⟨g, p, none⟩ (.int .i64 t.k)).setCell ⟨g, p + 1, none⟩ (.string t.nm)).setCell ⟨g, p + 2, none⟩ (.int .i64 t.vr)).setCell ⟨g, p + 3, none⟩ (.slice A t.args.length c)) (fun b => rv.ownBlock = some b) := by
  subst hp
  have hob : rv.ownBlock = some g := by rw [hg]; rfl
  have f : Frm w ((((w.setCell ⟨g, x * 4, none⟩ (.int .i64 t.k)).setCell ⟨g, x * 4 + 1, none⟩ (.string t.nm)).setCell ⟨g, x * 4 + 2, none⟩ (.int .i64 t.vr)).setCell ⟨g, x * 4 + 3, none⟩ (.slice A t.args.length c)) (fun b => rv.ownBlock = some b) :=
    (frm_set (R := (fun b => rv.ownBlock = some b)) _ _ hob).trans ((frm_set _ _ hob).trans ((frm_set _ _ hob).trans (frm_set _ _ hob)))
  have hk : ∀ b, K b → ¬ rv.ownBlock = some b := fun b hk e => h.nrv b e (h.kp b hk)
  refine ⟨⟨(f.block sb h.slt (fun e => h.rne sb e rfl)).trans h.sbc, ?_, ?_, h.nsb, h.nrv, h.lo, fun b hk => Nat.lt_of_lt_of_le (h.kb b hk) f.size, h.kp⟩, f⟩
  · rw [List.length_set]
    exact own_set (own_set (own_set (own_set h.row hob _ _) hob _ _) hob _ _) hob _ _
  · exact KidsT.put (hr.move (fun b hb hp => ⟨f.block b hb (hk b hp), hp⟩) f.size) hx (h.kids.move (fun b hb hp => ⟨f.block b hb (hk b hp), hp⟩) f.size)
/-- the one that unifies, and its substitution. -/
structure UM (w : World) (K Pr : Nat → Prop) (B ub sb : Nat) (n : Int) (u : US) (rv sv : Value) (xs : List Value) : Prop where
  sub : SubW w K Pr B sb n u.st rv xs
  ubc : w.heap[ub]? = some (.cells #[.pointer (some ⟨sb, 0, none⟩), sv] UniY (0, 0))
  srow : w.ownsRow B 3 1 sv u.set.length (u.set.map (fun x => Value.int .i64 x))
  nub : ¬ Pr ub
  nsv : ∀ b, sv.ownBlock = some b → ¬ Pr b
  lou : B ≤ ub
theorem UM.ult {w : World} {K Pr : Nat → Prop} {B ub sb : Nat} {n : Int} {u : US} {rv sv : Value} {xs : List Value} (h : UM w K Pr B ub sb n u rv sv xs) : ub < w.heap.size := (Array.getElem?_eq_some_iff.1 h.ubc).1
theorem UM.later {w w' : World} {K Pr : Nat → Prop} {B ub sb : Nat} {n : Int} {u : US} {rv sv : Value} {xs : List Value} (h : UM w K Pr B ub sb n u rv sv xs) (hb : Below w.heap.size w w') : UM w' K Pr B ub sb n u rv sv xs :=
  ⟨h.sub.later hb, (hb.block ub h.ult).trans h.ubc, own_bl h.srow hb, h.nub, h.nsv, h.lou⟩
theorem UM.uread {w : World} {K Pr : Nat → Prop} {B ub sb : Nat} {n : Int} {u : US} {rv sv : Value} {xs : List Value} (h : UM w K Pr B ub sb n u rv sv xs) : UniR w ub sb n u.st := ⟨⟨_, h.ubc⟩, h.sub.read⟩
/-- all these blocks are different: by their elements. -/
theorem UM.apart {w : World} {K Pr : Nat → Prop} {B ub sb : Nat} {n : Int} {u : US} {rv sv : Value} {xs : List Value} (h : UM w K Pr B ub sb n u rv sv xs) : sb ≠ ub ∧ (∀ b, rv.ownBlock = some b → b ≠ ub ∧ sv.ownBlock ≠ some b) ∧ ∀ b, sv.ownBlock = some b → b ≠ ub ∧ b ≠ sb := by
  refine ⟨fun e => ?_, fun b hb => ⟨fun e => ?_, fun e => ?_⟩, fun b hb => ⟨fun e => ?_, fun e => ?_⟩⟩
  · have h1 := h.sub.sbc; rw [e, h.ubc] at h1; exact obj_ne h1 (by decide)
  · obtain ⟨cur, hc⟩ := own_type h.sub.row hb; rw [e, h.ubc] at hc; exact obj_ne hc (by decide)
  · obtain ⟨cur, hc⟩ := own_type h.sub.row hb; obtain ⟨cur', hc'⟩ := own_type h.srow e; rw [hc] at hc'; exact obj_ne hc' (by decide)
  · obtain ⟨cur, hc⟩ := own_type h.srow hb; rw [e, h.ubc] at hc; exact obj_ne hc (by decide)
  · obtain ⟨cur, hc⟩ := own_type h.srow hb; rw [e, h.sub.sbc] at hc; exact obj_ne hc (by decide)
theorem UM.tn {w : World} {K Pr : Nat → Prop} {B ub sb : Nat} {n : Int} {u : US} {rv sv : Value} {xs : List Value} (h : UM w K Pr B ub sb n u rv sv xs) : Tn Pr B sb ∧ Tn Pr B ub ∧ (∀ b, rv.ownBlock = some b → Tn Pr B b) ∧ ∀ b, sv.ownBlock = some b → Tn Pr B b :=
  ⟨⟨h.sub.lo, h.sub.nsb⟩, ⟨h.lou, h.nub⟩, fun b hb => ⟨(h.sub.row.lt b hb).1, h.sub.nrv b hb⟩, fun b hb => ⟨(h.srow.lt b hb).1, h.nsv b hb⟩⟩
theorem UM.push {w wa w4 : World} {K Pr : Nat → Prop} {B ub sb : Nat} {n : Int} {u : US} {rv sv v' : Value} {xs : List Value} (h : UM w K Pr B ub sb n u rv sv xs) (hB : B ≤ w.heap.size) (hw : Below w.heap.size w wa) (own4 : w4.ownsRow B TT24 4 v' (u.st.length + 1) (xs ++ kidT zeroT none 0)) (gr4 : wa.grownBy w4 rv.ownBlock) (at4 : v'.ownBlock = rv.ownBlock ∨ v'.ownBlock = some wa.heap.size) :
    UM (w4.setCell ⟨sb, 1, none⟩ v') K Pr B ub sb n ⟨u.st ++ [zeroT], u.set⟩ v' sv (xs ++ kidT zeroT none 0) ∧ Frm w (w4.setCell ⟨sb, 1, none⟩ v') (fun b => b = sb ∨ rv.ownBlock = some b) := by
  obtain ⟨h1, f⟩ := h.sub.push hB hw own4 gr4 at4
  obtain ⟨a1, a2, a3⟩ := h.apart
  refine ⟨⟨h1, (f.block ub h.ult (fun e => ?_)).trans h.ubc, own_frm h.srow f (fun b hb e => ?_), h.nub, h.nsv, h.lou⟩, f⟩
  · rcases e with e | e
    · exact a1 e.symm
    · exact (a2 ub e).1 rfl
  · rcases e with e | e
    · exact (a3 b hb).2 e
    · exact (a2 b e).2 hb
theorem UM.fine {w w' : World} {K Pr : Nat → Prop} {B ub sb : Nat} {n : Int} {u : US} {rv sv : Value} {xs : List Value} (h : UM w K Pr B ub sb n u rv sv xs) (f : Frm w w' (fun b => b = sb ∨ rv.ownBlock = some b)) : Frm w w' (Tn Pr B) := f.mono (fun b hb e => by
  rcases e with e | e
  · exact e ▸ h.tn.1
  · exact h.tn.2.2.1 b e)
theorem UM.put {w : World} {K Pr : Nat → Prop} {B ub sb g cap : Nat} {n : Int} {u : US} {rv sv : Value} {xs : List Value} {t : TT} {A : Option Addr} {c : Nat} (h : UM w K Pr B ub sb n u rv sv xs) (x : Nat) (hx : x < u.st.length) (hr : TRow w K A t.args) (hg : rv = .slice (some ⟨g, 0, none⟩) u.st.length cap) (p : Nat) (hp : p = x * 4) :
    UM ((((w.setCell ⟨g, p, none⟩ (.int .i64 t.k)).setCell ⟨g, p + 1, none⟩ (.string t.nm)).setCell ⟨g, p + 2, none⟩ (.int .i64 t.vr)).setCell ⟨g, p + 3, none⟩ (.slice A t.args.length c)) K Pr B ub sb n ⟨u.st.set x t, u.set⟩ rv sv (setK xs x t A c) ∧ Frm w ((((w.setCell ⟨g, p, none⟩ (.int .i64 t.k)).setCell ⟨g, p + 1, none⟩ (.string t.nm)).setCell ⟨g, p + 2, none⟩ (.int .i64 t.vr)).setCell ⟨g, p + 3, none⟩ (.slice A t.args.length c)) (fun b => rv.ownBlock = some b) := by
  obtain ⟨h1, f⟩ := h.sub.put x hx hr hg p hp
  obtain ⟨a1, a2, a3⟩ := h.apart
  exact ⟨⟨h1, (f.block ub h.ult (fun e => (a2 ub e).1 rfl)).trans h.ubc, own_frm h.srow f (fun b hb e => (a2 b e).2 hb), h.nub, h.nsv, h.lou⟩, f⟩
theorem UM.fine2 {w w' : World} {K Pr : Nat → Prop} {B ub sb : Nat} {n : Int} {u : US} {rv sv : Value} {xs : List Value} (h : UM w K Pr B ub sb n u rv sv xs) (f : Frm w w' (fun b => rv.ownBlock = some b)) : Frm w w' (Tn Pr B) := f.mono (fun b hb e => h.tn.2.2.1 b e)
theorem UM.note {w wa w4 : World} {K Pr : Nat → Prop} {B ub sb : Nat} {n v : Int} {u : US} {rv sv v' : Value} {xs : List Value} (h : UM w K Pr B ub sb n u rv sv xs) (hw : Below w.heap.size w wa) (own4 : w4.ownsRow B 3 1 v' (u.set.length + 1) (u.set.map (fun x => Value.int .i64 x) ++ [.int .i64 v])) (gr4 : wa.grownBy w4 sv.ownBlock) (at4 : v'.ownBlock = sv.ownBlock ∨ v'.ownBlock = some wa.heap.size) :
    UM (w4.setCell ⟨ub, 1, none⟩ v') K Pr B ub sb n ⟨u.st, u.set ++ [v]⟩ rv v' xs ∧ Frm w (w4.setCell ⟨ub, 1, none⟩ v') (Tn Pr B) := by
  obtain ⟨a1, a2, a3⟩ := h.apart
  have hs := hw.size
  have hul := h.ult
  have f1 : Frm w w4 (fun b => sv.ownBlock = some b) := (Frm.of_below hw (Nat.le_refl _) _).trans (Frm.of_grown gr4 (fun k hk => hk))
  have f2 : Frm w4 (w4.setCell ⟨ub, 1, none⟩ v') (· = ub) := frm_set (R := (· = ub)) 1 v' rfl
  have f3 : Frm w (w4.setCell ⟨ub, 1, none⟩ v') (fun b => b = ub ∨ sv.ownBlock = some b) := (f1.mono (fun k _ hk => .inr hk)).trans' f2 (fun i _ hi => .inl hi)
  have c4 : w4.heap[ub]? = some (.cells #[.pointer (some ⟨sb, 0, none⟩), sv] UniY (0, 0)) := (f1.block ub hul (fun e => (a3 ub e).1 rfl)).trans h.ubc
  have hvk : ∀ b, v'.ownBlock = some b → ¬ Pr b ∧ b ≠ ub := fun b hb => by
    rcases at4 with e | e
    · rw [e] at hb; exact ⟨h.nsv b hb, (a3 b hb).1⟩
    · rw [e] at hb; injection hb with hb
      exact ⟨fun hk => by have := h.sub.kb b hk; omega, by omega⟩
  refine ⟨⟨h.sub.frm f3 (fun b hk e => ?_) (fun e => ?_) (fun b hb e => ?_), by simp [World.setCell, Array.getElem?_modify, c4], ?_, h.nub, fun b hb => (hvk b hb).1, h.lou⟩, f3.mono (fun b hb e => ?_)⟩
  · rcases e with e | e
    · exact h.nub (e ▸ h.sub.kp b hk)
    · exact h.nsv b e (h.sub.kp b hk)
  · rcases e with e | e
    · exact a1 e
    · exact (a3 sb e).2 rfl
  · rcases e with e | e
    · exact (a2 b hb).1 e
    · exact (a2 b hb).2 e
  · show World.ownsRow _ B _ 1 v' (u.set ++ [v]).length ((u.set ++ [v]).map _)
    rw [List.length_append, List.length_singleton, List.map_append]
    exact own_frm own4 f2 (fun b hb e => (hvk b hb).2 e)
  · rcases e with e | e
    · exact e ▸ h.tn.2.1
    · exact h.tn.2.2.2 b e
/-- a type that is kept. -/
theorem TRow.tn {w w' : World} {K Pr : Nat → Prop} {B : Nat} {A : Option Addr} {l : List TT} (h : TRow w K A l) (hp : ∀ b, K b → Pr b) (f : Frm w w' (Tn Pr B)) : TRow w' K A l := h.move (fun b hb hk => ⟨f.block b hb (fun e => e.2 (hp b hk)), hk⟩) f.size
theorem TIn.tn {w w' : World} {K Pr : Nat → Prop} {B : Nat} {V : TT} {v : Value} (h : TIn w K V v) (hp : ∀ b, K b → Pr b) (f : Frm w w' (Tn Pr B)) : TIn w' K V v := by
  obtain ⟨A, c, h1, h2⟩ := h
  exact ⟨A, c, h1, h2.tn hp f⟩
/-- more blocks are kept. -/
theorem UM.more {w : World} {K Pr Pr' : Nat → Prop} {B ub sb : Nat} {n : Int} {u : US} {rv sv : Value} {xs : List Value} (h : UM w K Pr B ub sb n u rv sv xs) (h1 : ∀ b, Pr b → Pr' b) (h2 : ∀ b, Pr' b → b < w.heap.size) (h3 : ¬ Pr' sb ∧ ¬ Pr' ub ∧ (∀ b, rv.ownBlock = some b → ¬ Pr' b) ∧ ∀ b, sv.ownBlock = some b → ¬ Pr' b) : UM w K Pr' B ub sb n u rv sv xs :=
  ⟨⟨h.sub.sbc, h.sub.row, h.sub.kids, h3.1, h3.2.2.1, h.sub.lo, h2, fun b hb => h1 b (h.sub.kp b hb)⟩, h.ubc, h.srow, h3.2.1, h3.2.2.2, h.lou⟩
theorem UM.less {w : World} {K Pr Pr' : Nat → Prop} {B ub sb : Nat} {n : Int} {u : US} {rv sv : Value} {xs : List Value} (h : UM w K Pr' B ub sb n u rv sv xs) (h1 : ∀ b, Pr b → Pr' b) (h2 : ∀ b, K b → Pr b) : UM w K Pr B ub sb n u rv sv xs :=
  ⟨⟨h.sub.sbc, h.sub.row, h.sub.kids, fun e => h.sub.nsb (h1 _ e), fun b hb e => h.sub.nrv b hb (h1 b e), h.sub.lo, fun b hb => h.sub.kb b (h1 b hb), h2⟩, h.ubc, h.srow, fun e => h.nub (h1 _ e), fun b hb e => h.nsv b hb (h1 b e), h.lou⟩
end Go.Proofs.YtifopogkbjhkjaaGreatDoor
