import Derived.Test.YtifopogkbjhkjaaGreatDoorVt
import Derived.Test.YtifopogkbjhkjaaGreatDoorMc
import Derived.Deep.LoopGhost
namespace Go.Proofs.YtifopogkbjhkjaaGreatDoor
open Go.ChangeShapes Go.WideShapes Go.ChangeAt Go.RowKit Go.WideMaps
set_option linter.unusedVariables false
set_option linter.unusedSimpArgs false
/-- a free variable's place. -/
def zeroT : TT := .mk 0 ⟨#[]⟩ 0 []
/-- what a variable stands for; kind 0: nothing. -/
def stA (St : List TT) (x : Int) : TT := if 0 ≤ x then St.getD x.toNat zeroT else zeroT
/-- a variable that stands for something. -/
def bnd (St : List TT) (t : TT) : Prop := t.k = 7 ∧ (stA St t.vr).k ≠ 0
instance (St : List TT) (t : TT) : Decidable (bnd St t) := by unfold bnd; infer_instance
/-- x stands in t. -/
def Vin (x : Int) (t : TT) : Prop := x ∈ varsT t []
/-- all that is held is as it may be, and no variable stands for itself through others. -/
structure StOk (St : List TT) (rk : Int → Nat) : Prop where
  len : St.length ≤ 2000
  shp : ∀ x, (stA St x).k ≠ 0 → shp (stA St x) = true
  rank : ∀ x y, (stA St x).k ≠ 0 → Vin y (stA St x) → rk y < rk x
mutual
/-- one more than the highest rank of what stands in a type. -/
def rkT (rk : Int → Nat) : TT → Nat
  | .mk k _ vr args => max (if k = 7 then rk vr + 1 else 0) (rkL rk args)
def rkL (rk : Int → Nat) : List TT → Nat
  | [] => 0
  | a :: r => max (rkT rk a) (rkL rk r)
end
theorem rkT_eq (rk : Int → Nat) (V : TT) : rkT rk V = max (if V.k = 7 then rk V.vr + 1 else 0) (rkL rk V.args) := by cases V; rw [rkT]; rfl
theorem rkL_mem (rk : Int → Nat) : ∀ {l : List TT} {a : TT}, a ∈ l → rkT rk a ≤ rkL rk l
  | b :: l, a, h => by
    rw [rkL]
    rcases List.mem_cons.1 h with rfl | h
    · omega
    · have := rkL_mem rk h; omega
theorem rkT_arg (rk : Int → Nat) {V a : TT} (h : a ∈ V.args) : rkT rk a ≤ rkT rk V := by
  rw [rkT_eq rk V]; have := rkL_mem rk h; omega
mutual
/-- the variables of a type without those of before: by membership. -/
theorem varsT_mem : ∀ (V : TT) (l : List Int) (x : Int), x ∈ varsT V l ↔ x ∈ l ∨ Vin x V
  | .mk k nm vr args, l, x => by
    unfold Vin
    rw [varsT_eq, varsT_eq]
    show x ∈ varsL args (if k = 7 then addV l vr else l) ↔ x ∈ l ∨ x ∈ varsL args (if k = 7 then addV [] vr else [])
    rw [varsL_mem args _ x, varsL_mem args (if k = 7 then addV [] vr else []) x]
    by_cases h7 : k = 7
    · rw [if_pos h7, if_pos h7]
      have e1 : x ∈ addV l vr ↔ x ∈ l ∨ x = vr := by
        unfold addV; split
        · rename_i h; exact ⟨.inl, fun h2 => h2.elim id (fun e => e ▸ h)⟩
        · simp
      have e2 : x ∈ addV [] vr ↔ x = vr := by simp [addV]
      rw [e1, e2, or_assoc]
    · rw [if_neg h7, if_neg h7]; simp
theorem varsL_mem : ∀ (args : List TT) (l : List Int) (x : Int), x ∈ varsL args l ↔ x ∈ l ∨ ∃ a ∈ args, Vin x a
  | [], l, x => by rw [varsL]; simp
  | a :: r, l, x => by
    rw [varsL, varsL_mem r _ x, varsT_mem a l x, or_assoc]
    simp
end
theorem vin_eq (x : Int) (V : TT) : Vin x V ↔ (V.k = 7 ∧ x = V.vr) ∨ ∃ a ∈ V.args, Vin x a := by
  unfold Vin
  rw [varsT_eq, varsL_mem]
  by_cases h7 : V.k = 7
  · rw [if_pos h7]
    simp [addV, h7, Vin]
  · rw [if_neg h7]; simp [h7, Vin]
mutual
theorem rkT_le (rk : Int → Nat) (n : Nat) : ∀ V : TT, (∀ x, Vin x V → rk x < n) → rkT rk V ≤ n
  | .mk k nm vr args, h => by
    rw [rkT_eq]
    have h1 := rkL_le rk n args (fun a ha x hx => h x ((vin_eq _ _).2 (.inr ⟨a, ha, hx⟩)))
    have h2 : (if k = 7 then rk vr + 1 else 0) ≤ n := by
      split
      · rename_i h7; have := h vr ((vin_eq _ _).2 (.inl ⟨h7, rfl⟩)); omega
      · omega
    show max (if k = 7 then rk vr + 1 else 0) (rkL rk args) ≤ n
    omega
theorem rkL_le (rk : Int → Nat) (n : Nat) : ∀ l : List TT, (∀ a ∈ l, ∀ x, Vin x a → rk x < n) → rkL rk l ≤ n
  | [], _ => by rw [rkL]; omega
  | a :: r, h => by
    rw [rkL]
    have h1 := rkT_le rk n a (h a (by simp))
    have h2 := rkL_le rk n r (fun b hb => h b (List.mem_cons_of_mem _ hb))
    omega
end
/-- what a bound variable stands for ranks lower. -/
theorem rk_step {St : List TT} {rk : Int → Nat} (h : StOk St rk) {t : TT} (hb : bnd St t) : rkT rk (stA St t.vr) < rkT rk t := by
  have h1 := rkT_le rk (rk t.vr) (stA St t.vr) (fun x hx => h.rank t.vr x hb.2 hx)
  rw [rkT_eq rk t, if_pos hb.1]; omega
/-- the variable v, that stands for nothing, is met in what t stands for. -/
inductive Occ (St : List TT) (v : Int) : TT → Prop
  | here {t : TT} : t.k = 7 → ¬ bnd St t → t.vr = v → Occ St v t
  | step {t : TT} : bnd St t → Occ St v (stA St t.vr) → Occ St v t
  | arg {t a : TT} : t.k ≠ 7 → a ∈ t.args → Occ St v a → Occ St v t
theorem occ_vin {St : List TT} {v : Int} {t : TT} (hsh : shp t = true) (h : Occ St v t) : ∃ y, Vin y t ∧ Occ St v (varT y) := by
  revert hsh
  induction h with
  | @here t h7 hb hv =>
    intro hsh
    exact ⟨t.vr, (vin_eq _ _).2 (.inl ⟨h7, rfl⟩), .here rfl (fun h => hb ⟨h7, h.2⟩) hv⟩
  | @step t hb ho _ =>
    intro hsh
    exact ⟨t.vr, (vin_eq _ _).2 (.inl ⟨hb.1, rfl⟩), .step ⟨rfl, hb.2⟩ ho⟩
  | @arg t a h7 ha ho ih =>
    intro hsh
    rw [shp_eq, Bool.and_eq_true] at hsh
    obtain ⟨y, hy, hoy⟩ := ih ((shpL_all _).1 hsh.2 a ha)
    exact ⟨y, (vin_eq _ _).2 (.inr ⟨a, ha, hy⟩), hoy⟩
theorem vin_occ {St : List TT} {v : Int} : ∀ (n : Nat) (t : TT) (y : Int), nodes t ≤ n → shp t = true → Vin y t → Occ St v (varT y) → Occ St v t := by
  intro n
  induction n with
  | zero => intro t y hn; have := nodes_eq t; omega
  | succ n ih =>
    intro t y hn hsh hy ho
    rcases (vin_eq _ _).1 hy with ⟨h7, rfl⟩ | ⟨a, ha, hya⟩
    · cases ho with
      | here _ hb hv => exact .here h7 (fun h => hb ⟨rfl, h.2⟩) hv
      | step hb ho => exact .step ⟨h7, hb.2⟩ ho
      | arg h7' ha _ => exact absurd rfl h7'
    · have h7 : t.k ≠ 7 := fun h7 => by have := (shp_var hsh h7).1; rw [this] at ha; cases ha
      rw [shp_eq, Bool.and_eq_true] at hsh
      have hlt : nodes a ≤ n := by
        have h1 := nodes_eq t
        have h2 : nodes a ≤ nodesL t.args := by
          clear hn h1 hy hya h7 hsh ih ho
          generalize t.args = l at ha
          induction l with
          | nil => cases ha
          | cons b r ih =>
            rw [nodesL]
            rcases List.mem_cons.1 ha with rfl | h
            · omega
            · have := ih h; omega
        omega
      exact .arg h7 ha (ih a y hlt ((shpL_all _).1 hsh.2 a ha) hya ho)
/-- v, that stood for nothing, stands for t: v does not occur in it. -/
theorem stand_ok {St St' : List TT} {rk : Int → Nat} {v : Int} {t : TT} (h : StOk St rk) (hl : St'.length ≤ 2000) (hsh : shp t = true) (hv : (stA St v).k = 0) (hno : ¬ Occ St v t)
    (h1 : stA St' v = t) (h2 : ∀ x, x ≠ v → stA St' x = stA St x) : ∃ rk', StOk St' rk' := by
  classical
  refine ⟨fun x => if Occ St v (varT x) then rk x + (rkT rk t + 1) else rk x, hl, fun x hx => ?_, fun x y hx hy => ?_⟩
  · by_cases e : x = v
    · rw [e, h1]; exact hsh
    · rw [h2 x e] at hx ⊢; exact h.shp x hx
  · by_cases e : x = v
    · subst e
      rw [h1] at hy
      have hov : Occ St x (varT x) := .here rfl (fun hb => hb.2 hv) rfl
      have hny : ¬ Occ St x (varT y) := fun ho => hno (vin_occ _ t y (Nat.le_refl _) hsh hy ho)
      rw [if_neg hny, if_pos hov]
      have : rk y < rkT rk t := by
        clear hov hny h1 h2 hx hno
        revert hy
        refine TT.rec (motive_1 := fun t => Vin y t → rk y < rkT rk t) (motive_2 := fun l => (∃ a ∈ l, Vin y a) → rk y < rkL rk l) ?_ ?_ ?_ t
        · intro k nm vr args ih hy
          rw [rkT_eq]
          rcases (vin_eq _ _).1 hy with ⟨h7, hyv⟩ | hy
          · have h7 : k = 7 := h7
            have hyv : y = vr := hyv
            show rk y < max (if k = 7 then rk vr + 1 else 0) _
            rw [if_pos h7, hyv]; omega
          · have := ih hy
            show rk y < max _ (rkL rk args)
            omega
        · rintro ⟨a, ha, -⟩; cases ha
        · intro a l ia il ⟨b, hb, hy⟩
          rw [rkL]
          rcases List.mem_cons.1 hb with rfl | hb
          · have := ia hy; omega
          · have := il ⟨b, hb, hy⟩; omega
      omega
    · rw [h2 x e] at hx hy
      have hlt := h.rank x y hx hy
      by_cases hoy : Occ St v (varT y)
      · have hox : Occ St v (varT x) := .step ⟨rfl, hx⟩ (vin_occ _ _ y (Nat.le_refl _) (h.shp x hx) hy hoy)
        rw [if_pos hoy, if_pos hox]; omega
      · rw [if_neg hoy]
        split <;> omega
end Go.Proofs.YtifopogkbjhkjaaGreatDoor
namespace Go.Proofs.YtifopogkbjhkjaaGreatDoor
open DR
open Go.ChangeShapes Go.WideShapes Go.ChangeAt Go.RowKit Go.WideMaps
set_option linter.unusedVariables false
set_option linter.unusedSimpArgs false
abbrev SubY : TypeId := 65
/-- a substitution in memory, to be read. -/
def SubP (w : World) (P : Nat → Prop) (S : Nat) (n : Int) (St : List TT) : Prop := ∃ A c, w.heap[S]? = some (.cells #[.int .i64 n, .slice A St.length c] SubY (0, 0)) ∧ TRow w P A St
abbrev SubR (w : World) (S : Nat) (n : Int) (St : List TT) : Prop := SubP w any0 S n St
theorem SubP.later {w w' : World} {P : Nat → Prop} {S : Nat} {n : Int} {St : List TT} (h : SubP w P S n St) (hb : Below w.heap.size w w') : SubP w' P S n St := by
  obtain ⟨A, c, h1, h2⟩ := h
  exact ⟨A, c, (hb.block S (Array.getElem?_eq_some_iff.1 h1).1).trans h1, h2.later hb⟩
theorem SubP.low {w : World} {P : Nat → Prop} {S : Nat} {n : Int} {St : List TT} (h : SubP w P S n St) : SubP w (· < w.heap.size) S n St := by
  obtain ⟨A, c, h1, h2⟩ := h
  exact ⟨A, c, h1, h2.weak fun b hb _ => hb⟩
/-- what is left of a type when its variable is followed. -/
inductive Res (St : List TT) : TT → TT → Prop
  | stop {t : TT} : ¬ bnd St t → Res St t t
  | step {t T : TT} : bnd St t → Res St (stA St t.vr) T → Res St t T
theorem tv_inj {V : TT} {A A' : Option Addr} {c c' : Nat} (h : tv V A c = tv V A' c') : A = A' ∧ c = c' := by
  unfold tv at h
  simp at h
  exact h
theorem sub_cell {w : World} {S : Nat} {a b : Value} {t : TypeId} {fr : Nat × Nat} (h : w.heap[S]? = some (.cells #[a, b] t fr)) : w.cell? ⟨S, 0, none⟩ = some a ∧ w.cell? ⟨S, 1, none⟩ = some b := by
  refine ⟨?_, ?_⟩ <;> simp [World.cell?, h]
theorem stA_at {St : List TT} {x : Nat} (h : x < St.length) : stA St x = St[x] := by
  unfold stA
  rw [if_pos (by omega), Int.toNat_natCast, List.getD_eq_getElem?_getD, List.getElem?_eq_getElem h]; rfl
theorem stA_out {St : List TT} {x : Nat} (h : ¬ x < St.length) : (stA St x).k = 0 := by
  unfold stA
  rw [if_pos (by omega), Int.toNat_natCast, List.getD_eq_getElem?_getD, List.getElem?_eq_none (by omega)]; rfl
/-- the types behind a slice: what they hold lies in blocks of P. -/
def TRowQ (w : World) (P : Nat → Prop) (A : Option Addr) (l : List TT) : Prop := l.length = 0 ∨ ∃ b o, A = some ⟨b, o, none⟩ ∧ b < w.heap.size ∧ okTL w P l b o
theorem TRowQ.at {w : World} {P : Nat → Prop} {A : Option Addr} {l : List TT} (h : TRowQ w P A l) (hl : 0 < l.length) : ∃ b o, A = some ⟨b, o, none⟩ ∧ b < w.heap.size ∧ ∀ W, Below w.heap.size w W → ∀ i (hi : i < l.length), ∃ A' c', W.cell? ⟨b, o + i * 4, none⟩ = some (.int .i64 l[i].k) ∧ W.cell? ⟨b, o + i * 4 + 1, none⟩ = some (.string l[i].nm) ∧ W.cell? ⟨b, o + i * 4 + 2, none⟩ = some (.int .i64 l[i].vr) ∧ W.cell? ⟨b, o + i * 4 + 3, none⟩ = some (.slice A' l[i].args.length c') ∧ TIn W P l[i] (tv l[i] A' c') := by
  rcases h with h | ⟨b, o, h1, h2, h4⟩
  · omega
  refine ⟨b, o, h1, h2, fun W hW i hi => ?_⟩
  obtain ⟨c0, c1, c2, A', c', c3, hr⟩ := (okT_eq _ _ _ _ _).1 (okTL_at h4 i hi)
  exact ⟨A', c', (hW.cell (p := ⟨b, _, none⟩) h2).trans c0, (hW.cell (p := ⟨b, _, none⟩) h2).trans c1, (hW.cell (p := ⟨b, _, none⟩) h2).trans c2, (hW.cell (p := ⟨b, _, none⟩) h2).trans c3, A', c', rfl, hr.later hW⟩
def SubQ (w : World) (P : Nat → Prop) (S : Nat) (n : Int) (St : List TT) : Prop := ∃ A c, w.heap[S]? = some (.cells #[.int .i64 n, .slice A St.length c] SubY (0, 0)) ∧ TRowQ w P A St
set_option maxRecDepth 100000 in
set_option maxHeartbeats 4000000 in
theorem resolve_anyQ {P : Nat → Prop} {St : List TT} {m : TT → Nat} (hm : ∀ t, bnd St t → m (stA St t.vr) < m t) (hv : ∀ t, bnd St t → (stA St t.vr).k = 7 → 0 ≤ (stA St t.vr).vr) {V : TT} {A : Option Addr} {c sb : Nat} {n : Int} {w : World} (h0 : V.k = 7 → 0 ≤ V.vr) (hV : TRow w P A V.args) (hs : SubQ w P sb n St) :
    Calls Tryz.prog 47 #[.pointer (some ⟨sb, 0, none⟩), tv V A c] w fun e w' => ∃ T A' c', e = .returned (tv T A' c') ∧ TRow w P A' T.args ∧ Res St V T ∧ (T.k = 7 → 0 ≤ T.vr) ∧ Below w.heap.size w w' := by
  unfold tv
  obtain ⟨SA, sc, hs1, hrow⟩ := hs
  have hsl := (Array.getElem?_eq_some_iff.1 hs1).1
  obtain ⟨wB, hwB⟩ : ∃ z, z = (w.alloc (.cells #[.int .i64 V.k, .string V.nm, .int .i64 V.vr, .slice A V.args.length c] 24)).alloc (.cells #[.int .i64 0, .string ⟨#[]⟩, .int .i64 0, .slice none 0 0] 24) := ⟨_, rfl⟩
  have BX := two_box (w := w) (.cells #[.int .i64 V.k, .string V.nm, .int .i64 V.vr, .slice A V.args.length c] 24) (.cells #[.int .i64 0, .string ⟨#[]⟩, .int .i64 0, .slice none 0 0] 24)
  have HB : Hid (Below w.heap.size w wB) := Lib.hid (by rw [hwB]; exact bt (below_alloc w _) (below_alloc _ _))
  have HZ := Lib.hid (show wB.heap.size = w.heap.size + 2 by rw [hwB]; simp)
  rw [← hwB] at BX
  have HX0 := Lib.hid BX.1
  have HY0 := Lib.hid BX.2
  have HSB := Lib.hid ((HB.out.block sb hsl).trans hs1)
  have HSL := Lib.hid hsl
  have HWB := Lib.hid hwB
  have HROW := Lib.hid hrow
  have HV := Lib.hid hV
  have H0 := Lib.hid h0
  have HM := Lib.hid hm
  have HVS := Lib.hid hv
  clear BX hwB hs1 hrow hsl hV h0 hm hv
  go_enter Tryz.func47, Tryz.ntmps47
  go_wp2
  try rw [← HWB.out]
  go_loopg [] (m V) (fun gk wr => ∃ (C : TT) (AC : Option Addr) (cc : Nat), Hid (m C ≤ gk) ∧ Hid (wr.heap[w.heap.size]? = some (.cells #[.int .i64 C.k, .string C.nm, .int .i64 C.vr, .slice AC C.args.length cc] 24 (0, 0))) ∧ Hid (Frm wB wr (· = w.heap.size)) ∧ Hid (TRow w P AC C.args) ∧ Hid (∀ T, Res St C T → Res St V T) ∧ Hid (C.k = 7 → 0 ≤ C.vr))
  case atStart => exact ⟨V, A, c, Lib.hid (Nat.le_refl _), HX0, Lib.hid (Frm.refl _ _), HV, Lib.hid (fun _ h => h), H0⟩
  case round =>
    obtain ⟨C, AC, cc, HG, HX, HF, HR, HRS, HC0⟩ := hrel
    have hz := HZ.out
    have hBr : Below w.heap.size w wr := HB.out.trans (HF.out.below (fun q hq => by have : q = w.heap.size := hq; omega) (by omega))
    have HY := Lib.hid ((HF.out.block (w.heap.size + 1) (by omega) (by show ¬ w.heap.size + 1 = w.heap.size; omega)).trans HY0.out)
    have HS := Lib.hid (sub_cell ((HF.out.block sb (by have := HSL.out; omega) (by have := HSL.out; show ¬ sb = w.heap.size; omega)).trans HSB.out)).2
    have HSZ := Lib.hid (show w.heap.size + 2 ≤ wr.heap.size by have := HF.out.size; omega)
    have HBR := Lib.hid hBr
    have FIN : Hid (¬ bnd St C → ∀ w', w' = ((((wr.setCell ⟨w.heap.size + 1, 0, none⟩ (.int .i64 C.k)).setCell ⟨w.heap.size + 1, 1, none⟩ (.string C.nm)).setCell ⟨w.heap.size + 1, 2, none⟩ (.int .i64 C.vr)).setCell ⟨w.heap.size + 1, 3, none⟩ (.slice AC C.args.length cc)).drew → Below w.heap.size w w') := Lib.hid (by
      rintro hnb w' rfl
      exact (hBr.trans ((frm4 wr (w.heap.size + 1) _ _ _ _).below (B := w.heap.size) (fun q hq => by have : q = w.heap.size + 1 := hq; omega) (by have := HSZ.out; omega))).drew)
    obtain ⟨y0, y1, y2, y3⟩ := cells4 HY.out
    obtain ⟨k0, k1, k2, k3⟩ := froz4 HY.out
    obtain ⟨x0, x1, x2, x3⟩ := cells4 HX.out
    obtain ⟨t0, t1, t2, t3⟩ := cells4 (cells_all (.int .i64 C.k) (.string C.nm) (.int .i64 C.vr) (.slice AC C.args.length cc) HY.out)
    clear hz hBr HB HX0 HY0 HWB HV H0 HSB
    by_cases h7 : C.k = 7
    · have q7 : (C.k == 7) = true := by rw [h7]; rfl
      obtain ⟨x, hx⟩ : ∃ x : Nat, C.vr = x := ⟨C.vr.toNat, by have := HC0.out h7; omega⟩
      have H7 := Lib.hid h7
      have HXV := Lib.hid hx
      rw [hx] at HX x2 t0 t1 t2 t3 FIN
      clear h7 hx
      by_cases hlt : x < St.length
      · have hlti : (x : Int) < (St.length : Int) := by omega
        obtain ⟨b, o, rfl, hb, hr⟩ := HROW.out.at (by omega)
        obtain ⟨A', c', e0, e1, e2, e3, A2, c2, htv, hin⟩ := hr w (Below.refl _ _) x hlt
        obtain ⟨rfl, rfl⟩ := tv_inj htv
        obtain ⟨E, hE⟩ : ∃ E, E = St[x] := ⟨_, rfl⟩
        have HST := Lib.hid (show stA St C.vr = E by rw [HXV.out, stA_at hlt, hE])
        rw [← hE] at e0 e1 e2 e3 hin
        have E0 := Lib.hid ((HBR.out.cell (p := ⟨b, _, none⟩) hb).trans e0)
        have E1 := Lib.hid ((HBR.out.cell (p := ⟨b, _, none⟩) hb).trans e1)
        have E2 := Lib.hid ((HBR.out.cell (p := ⟨b, _, none⟩) hb).trans e2)
        have E3 := Lib.hid ((HBR.out.cell (p := ⟨b, _, none⟩) hb).trans e3)
        have HIN := Lib.hid hin
        clear hr htv hin e0 e1 e2 e3 hE
        by_cases hk : E.k = 0
        · have HK := Lib.hid hk
          have qk : (E.k == 0) = true := by rw [hk]; rfl
          have qk2 : (E.k != 0) = false := by rw [hk]; rfl
          clear hk
          have NB : Hid (¬ bnd St C) := Lib.hid (fun h => h.2 (by rw [HST.out]; exact HK.out))
          go_wp2_with fail
          refine wp_region_held_drew (S := fun w' => w'.heap[w.heap.size]? = some (.cells #[.int .i64 C.k, .string C.nm, .int .i64 (x : Int), .slice AC C.args.length cc] 24 (0, 0)) ∧ w'.cell? ⟨sb, 1, none⟩ = some (.slice (some ⟨b, o, none⟩) St.length sc) ∧ w'.cell? ⟨b, o + x * 4, none⟩ = some (.int .i64 E.k)) (by kernel_rfl) ?_ (fun hHeld => ?_)
          · exact ⟨HX.out, HS.out, E0.out⟩
          refine WHt 0 ⟨some 5, .fieldAddr 24 (.tmp 3) 0, 0, _, #[], none⟩ (v := ?va0) rfl (by kernel_rfl) (fun _ _ _ h => h) (Or.inl ⟨by rfl, ?hya0⟩) (by assumption) ?_
          case hya0 => (intro wz hSw; (try dsimp only at hSw); obtain ⟨z0, z1, z2, z3⟩ := cells4 hSw.1; have z4 := hSw.2.1; have z5 := hSw.2.2; go_simp; try with_reducible rfl)
          (try simp only [putz])
          refine WHt 1 ⟨some 6, .load 3 (.tmp 5), 3, _, #[⟨0, .data⟩], none⟩ (v := ?va1) rfl (by kernel_rfl) (fun _ _ _ h => h) (Or.inl ⟨by rfl, ?hya1⟩) (by assumption) ?_
          case hya1 => (intro wz hSw; (try dsimp only at hSw); obtain ⟨z0, z1, z2, z3⟩ := cells4 hSw.1; have z4 := hSw.2.1; have z5 := hSw.2.2; go_simp; try with_reducible rfl)
          (try simp only [putz])
          refine WHt 2 ⟨some 7, .binOp .eql 3 (.tmp 6) (.const (.int .i64 7)) 3, 4, _, #[⟨1, .data⟩], none⟩ (v := ?va2) rfl (by kernel_rfl) (fun _ _ _ h => h) (Or.inl ⟨by rfl, ?hya2⟩) (by assumption) ?_
          case hya2 => (intro wz hSw; (try dsimp only at hSw); obtain ⟨z0, z1, z2, z3⟩ := cells4 hSw.1; have z4 := hSw.2.1; have z5 := hSw.2.2; go_simp; try with_reducible rfl)
          (try simp only [putz])
          refine WHt 3 ⟨some 8, .move (.tmp 7), 4, _, #[⟨2, .data⟩], none⟩ (v := ?va3) rfl (by kernel_rfl) (fun _ _ _ h => h) (Or.inl ⟨by rfl, ?hya3⟩) (by assumption) ?_
          case hya3 => (intro wz hSw; (try dsimp only at hSw); obtain ⟨z0, z1, z2, z3⟩ := cells4 hSw.1; have z4 := hSw.2.1; have z5 := hSw.2.2; go_simp; try with_reducible rfl)
          (try simp only [putz])
          refine WHt 4 ⟨some 9, .fieldAddr 24 (.tmp 3) 2, 0, _, #[⟨3, .guard⟩], some (3, true)⟩ (v := ?va4) rfl (by kernel_rfl) (fun _ _ _ h => h) (Or.inl ⟨by rfl, ?hya4⟩) (by assumption) ?_
          case hya4 => (intro wz hSw; (try dsimp only at hSw); obtain ⟨z0, z1, z2, z3⟩ := cells4 hSw.1; have z4 := hSw.2.1; have z5 := hSw.2.2; go_simp; try with_reducible rfl)
          (try simp only [putz])
          refine WHt 5 ⟨some 10, .load 3 (.tmp 9), 3, _, #[⟨4, .data⟩, ⟨3, .guard⟩], some (3, true)⟩ (v := ?va5) rfl (by kernel_rfl) (fun _ _ _ h => h) (Or.inl ⟨by rfl, ?hya5⟩) (by assumption) ?_
          case hya5 => (intro wz hSw; (try dsimp only at hSw); obtain ⟨z0, z1, z2, z3⟩ := cells4 hSw.1; have z4 := hSw.2.1; have z5 := hSw.2.2; go_simp; try with_reducible rfl)
          (try simp only [putz])
          refine WHt 6 ⟨some 11, .move (.tmp 0), 31, _, #[⟨3, .guard⟩], some (3, true)⟩ (v := ?va6) rfl (by kernel_rfl) (fun _ _ _ h => h) (Or.inl ⟨by rfl, ?hya6⟩) (by assumption) ?_
          case hya6 => (intro wz hSw; (try dsimp only at hSw); obtain ⟨z0, z1, z2, z3⟩ := cells4 hSw.1; have z4 := hSw.2.1; have z5 := hSw.2.2; go_simp; try with_reducible rfl)
          (try simp only [putz])
          refine WHt 7 ⟨some 12, .nilCheck (.tmp 11), 0, _, #[⟨6, .data⟩, ⟨3, .guard⟩], some (3, true)⟩ (v := ?va7) rfl (by kernel_rfl) (fun _ _ _ h => h) (Or.inl ⟨by rfl, ?hya7⟩) (by assumption) ?_
          case hya7 => (intro wz hSw; (try dsimp only at hSw); obtain ⟨z0, z1, z2, z3⟩ := cells4 hSw.1; have z4 := hSw.2.1; have z5 := hSw.2.2; go_simp; try with_reducible rfl)
          (try simp only [putz])
          refine WHt 8 ⟨some 13, .fieldAddr 65 (.tmp 12) 1, 0, _, #[⟨7, .data⟩, ⟨3, .guard⟩], some (3, true)⟩ (v := ?va8) rfl (by kernel_rfl) (fun _ _ _ h => h) (Or.inl ⟨by rfl, ?hya8⟩) (by assumption) ?_
          case hya8 => (intro wz hSw; (try dsimp only at hSw); obtain ⟨z0, z1, z2, z3⟩ := cells4 hSw.1; have z4 := hSw.2.1; have z5 := hSw.2.2; go_simp; try with_reducible rfl)
          (try simp only [putz])
          refine WHt 9 ⟨some 14, .load 22 (.tmp 13), 22, _, #[⟨8, .data⟩, ⟨3, .guard⟩], some (3, true)⟩ (v := ?va9) rfl (by kernel_rfl) (fun _ _ _ h => h) (Or.inl ⟨by rfl, ?hya9⟩) (by assumption) ?_
          case hya9 => (intro wz hSw; (try dsimp only at hSw); obtain ⟨z0, z1, z2, z3⟩ := cells4 hSw.1; have z4 := hSw.2.1; have z5 := hSw.2.2; go_simp; try with_reducible rfl)
          (try simp only [putz])
          refine WHt 10 ⟨some 15, .call { callee := .builtin .len, args := #[.tmp 14], argTypes := #[22] }, 3, _, #[⟨9, .data⟩, ⟨3, .guard⟩], some (3, true)⟩ (v := ?va10) rfl (by kernel_rfl) (fun _ _ _ h => h) (Or.inl ⟨by rfl, ?hya10⟩) (by assumption) ?_
          case hya10 => (intro wz hSw; (try dsimp only at hSw); obtain ⟨z0, z1, z2, z3⟩ := cells4 hSw.1; have z4 := hSw.2.1; have z5 := hSw.2.2; go_simp; try with_reducible rfl)
          (try simp only [putz])
          refine WHt 11 ⟨some 16, .binOp .lss 3 (.tmp 10) (.tmp 15) 3, 4, _, #[⟨5, .data⟩, ⟨10, .data⟩, ⟨3, .guard⟩], some (3, true)⟩ (v := ?va11) rfl (by kernel_rfl) (fun _ _ _ h => h) (Or.inl ⟨by rfl, ?hya11⟩) (by assumption) ?_
          case hya11 => (intro wz hSw; (try dsimp only at hSw); obtain ⟨z0, z1, z2, z3⟩ := cells4 hSw.1; have z4 := hSw.2.1; have z5 := hSw.2.2; go_simp; try with_reducible rfl)
          (try simp only [putz])
          refine WHt 12 ⟨some 17, .pick (.tmp 8) (.tmp 16) (.const (.bool false)), 4, _, #[⟨3, .data⟩, ⟨11, .data⟩], none⟩ (v := ?va12) rfl (by kernel_rfl) (fun _ _ _ h => h) (Or.inl ⟨by rfl, ?hya12⟩) (by assumption) ?_
          case hya12 => (intro wz hSw; (try dsimp only at hSw); obtain ⟨z0, z1, z2, z3⟩ := cells4 hSw.1; have z4 := hSw.2.1; have z5 := hSw.2.2; go_simp; try with_reducible rfl)
          (try simp only [putz])
          refine WHt 13 ⟨some 18, .move (.tmp 17), 4, _, #[⟨12, .data⟩, ⟨3, .chain⟩], none⟩ (v := ?va13) rfl (by kernel_rfl) (fun _ _ _ h => h) (Or.inl ⟨by rfl, ?hya13⟩) (by assumption) ?_
          case hya13 => (intro wz hSw; (try dsimp only at hSw); obtain ⟨z0, z1, z2, z3⟩ := cells4 hSw.1; have z4 := hSw.2.1; have z5 := hSw.2.2; go_simp; try with_reducible rfl)
          (try simp only [putz])
          refine WHt 14 ⟨some 19, .move (.tmp 0), 31, _, #[⟨13, .guard⟩], some (13, true)⟩ (v := ?va14) rfl (by kernel_rfl) (fun _ _ _ h => h) (Or.inl ⟨by rfl, ?hya14⟩) (by assumption) ?_
          case hya14 => (intro wz hSw; (try dsimp only at hSw); obtain ⟨z0, z1, z2, z3⟩ := cells4 hSw.1; have z4 := hSw.2.1; have z5 := hSw.2.2; go_simp; try with_reducible rfl)
          (try simp only [putz])
          refine WHt 15 ⟨some 20, .nilCheck (.tmp 19), 0, _, #[⟨14, .data⟩, ⟨13, .guard⟩], some (13, true)⟩ (v := ?va15) rfl (by kernel_rfl) (fun _ _ _ h => h) (Or.inl ⟨by rfl, ?hya15⟩) (by assumption) ?_
          case hya15 => (intro wz hSw; (try dsimp only at hSw); obtain ⟨z0, z1, z2, z3⟩ := cells4 hSw.1; have z4 := hSw.2.1; have z5 := hSw.2.2; go_simp; try with_reducible rfl)
          (try simp only [putz])
          refine WHt 16 ⟨some 21, .fieldAddr 65 (.tmp 20) 1, 0, _, #[⟨15, .data⟩, ⟨13, .guard⟩], some (13, true)⟩ (v := ?va16) rfl (by kernel_rfl) (fun _ _ _ h => h) (Or.inl ⟨by rfl, ?hya16⟩) (by assumption) ?_
          case hya16 => (intro wz hSw; (try dsimp only at hSw); obtain ⟨z0, z1, z2, z3⟩ := cells4 hSw.1; have z4 := hSw.2.1; have z5 := hSw.2.2; go_simp; try with_reducible rfl)
          (try simp only [putz])
          refine WHt 17 ⟨some 22, .load 22 (.tmp 21), 22, _, #[⟨16, .data⟩, ⟨13, .guard⟩], some (13, true)⟩ (v := ?va17) rfl (by kernel_rfl) (fun _ _ _ h => h) (Or.inl ⟨by rfl, ?hya17⟩) (by assumption) ?_
          case hya17 => (intro wz hSw; (try dsimp only at hSw); obtain ⟨z0, z1, z2, z3⟩ := cells4 hSw.1; have z4 := hSw.2.1; have z5 := hSw.2.2; go_simp; try with_reducible rfl)
          (try simp only [putz])
          refine WHt 18 ⟨some 23, .fieldAddr 24 (.tmp 3) 2, 0, _, #[⟨13, .guard⟩], some (13, true)⟩ (v := ?va18) rfl (by kernel_rfl) (fun _ _ _ h => h) (Or.inl ⟨by rfl, ?hya18⟩) (by assumption) ?_
          case hya18 => (intro wz hSw; (try dsimp only at hSw); obtain ⟨z0, z1, z2, z3⟩ := cells4 hSw.1; have z4 := hSw.2.1; have z5 := hSw.2.2; go_simp; try with_reducible rfl)
          (try simp only [putz])
          refine WHt 19 ⟨some 24, .load 3 (.tmp 23), 3, _, #[⟨18, .data⟩, ⟨13, .guard⟩], some (13, true)⟩ (v := ?va19) rfl (by kernel_rfl) (fun _ _ _ h => h) (Or.inl ⟨by rfl, ?hya19⟩) (by assumption) ?_
          case hya19 => (intro wz hSw; (try dsimp only at hSw); obtain ⟨z0, z1, z2, z3⟩ := cells4 hSw.1; have z4 := hSw.2.1; have z5 := hSw.2.2; go_simp; try with_reducible rfl)
          (try simp only [putz])
          refine WHt 20 ⟨some 25, .indexAddr 22 (.tmp 22) (.tmp 24), 0, _, #[⟨17, .data⟩, ⟨19, .data⟩, ⟨13, .guard⟩], some (13, true)⟩ (v := ?va20) rfl (by kernel_rfl) (fun _ _ _ h => h) (Or.inl ⟨by rfl, ?hya20⟩) (by assumption) ?_
          case hya20 => (intro wz hSw; (try dsimp only at hSw); obtain ⟨z0, z1, z2, z3⟩ := cells4 hSw.1; have z4 := hSw.2.1; have z5 := hSw.2.2; go_simp; try with_reducible rfl)
          (try simp only [putz])
          refine WHt 21 ⟨some 26, .fieldAddr 24 (.tmp 25) 0, 0, _, #[⟨20, .data⟩, ⟨13, .guard⟩], some (13, true)⟩ (v := ?va21) rfl (by kernel_rfl) (fun _ _ _ h => h) (Or.inl ⟨by rfl, ?hya21⟩) (by assumption) ?_
          case hya21 => (intro wz hSw; (try dsimp only at hSw); obtain ⟨z0, z1, z2, z3⟩ := cells4 hSw.1; have z4 := hSw.2.1; have z5 := hSw.2.2; go_simp; try with_reducible rfl)
          (try simp only [putz])
          refine WHt 22 ⟨some 27, .load 3 (.tmp 26), 3, _, #[⟨21, .data⟩, ⟨13, .guard⟩], some (13, true)⟩ (v := ?va22) rfl (by kernel_rfl) (fun _ _ _ h => h) (Or.inl ⟨by rfl, ?hya22⟩) (by assumption) ?_
          case hya22 => (intro wz hSw; (try dsimp only at hSw); obtain ⟨z0, z1, z2, z3⟩ := cells4 hSw.1; have z4 := hSw.2.1; have z5 := hSw.2.2; go_simp; try with_reducible rfl)
          (try simp only [putz])
          refine WHt 23 ⟨some 28, .binOp .neq 3 (.tmp 27) (.const (.int .i64 0)) 3, 4, _, #[⟨22, .data⟩, ⟨13, .guard⟩], some (13, true)⟩ (v := ?va23) rfl (by kernel_rfl) (fun _ _ _ h => h) (Or.inl ⟨by rfl, ?hya23⟩) (by assumption) ?_
          case hya23 => (intro wz hSw; (try dsimp only at hSw); obtain ⟨z0, z1, z2, z3⟩ := cells4 hSw.1; have z4 := hSw.2.1; have z5 := hSw.2.2; go_simp; try with_reducible rfl)
          (try simp only [putz])
          refine WHt 24 ⟨some 29, .pick (.tmp 18) (.tmp 28) (.const (.bool false)), 4, _, #[⟨13, .data⟩, ⟨23, .data⟩], none⟩ (v := ?va24) rfl (by kernel_rfl) (fun _ _ _ h => h) (Or.inl ⟨by rfl, ?hya24⟩) (by assumption) ?_
          case hya24 => (intro wz hSw; (try dsimp only at hSw); obtain ⟨z0, z1, z2, z3⟩ := cells4 hSw.1; have z4 := hSw.2.1; have z5 := hSw.2.2; go_simp; try with_reducible rfl)
          (try simp only [putz])
          refine wpAnyH_done (by kernel_rfl) ?_ _
          go_wp2
          (try simp only [Exit.inBlock, Exit.then])
          refine bodyPost_ret (by simp [results, Tryz.results47, go_sem, t0, t1, t2, t3]; try rfl) rfl ?_
          exact ⟨C, AC, cc, by rw [HXV.out], HR.out, HRS.out _ (.stop NB.out), HC0.out, FIN.out NB.out _ rfl⟩
        · have HK := Lib.hid hk
          have qk : (E.k == 0) = false := beq_eq_false_iff_ne.2 hk
          have qk2 : (E.k != 0) = true := by simp [bne, qk]
          clear hk
          have BN : Hid (bnd St C) := Lib.hid ⟨H7.out, by rw [HST.out]; exact HK.out⟩
          obtain ⟨f0, f1, f2, f3⟩ := froz4 HX.out
          go_wp2_with fail
          refine wp_region_held_drew (S := fun w' => w'.heap[w.heap.size]? = some (.cells #[.int .i64 C.k, .string C.nm, .int .i64 (x : Int), .slice AC C.args.length cc] 24 (0, 0)) ∧ w'.cell? ⟨sb, 1, none⟩ = some (.slice (some ⟨b, o, none⟩) St.length sc) ∧ w'.cell? ⟨b, o + x * 4, none⟩ = some (.int .i64 E.k)) (by kernel_rfl) ?_ (fun hHeld => ?_)
          · exact ⟨HX.out, HS.out, E0.out⟩
          refine WHt 0 ⟨some 5, .fieldAddr 24 (.tmp 3) 0, 0, _, #[], none⟩ (v := ?vb0) rfl (by kernel_rfl) (fun _ _ _ h => h) (Or.inl ⟨by rfl, ?hyb0⟩) (by assumption) ?_
          case hyb0 => (intro wz hSw; (try dsimp only at hSw); obtain ⟨z0, z1, z2, z3⟩ := cells4 hSw.1; have z4 := hSw.2.1; have z5 := hSw.2.2; go_simp; try with_reducible rfl)
          (try simp only [putz])
          refine WHt 1 ⟨some 6, .load 3 (.tmp 5), 3, _, #[⟨0, .data⟩], none⟩ (v := ?vb1) rfl (by kernel_rfl) (fun _ _ _ h => h) (Or.inl ⟨by rfl, ?hyb1⟩) (by assumption) ?_
          case hyb1 => (intro wz hSw; (try dsimp only at hSw); obtain ⟨z0, z1, z2, z3⟩ := cells4 hSw.1; have z4 := hSw.2.1; have z5 := hSw.2.2; go_simp; try with_reducible rfl)
          (try simp only [putz])
          refine WHt 2 ⟨some 7, .binOp .eql 3 (.tmp 6) (.const (.int .i64 7)) 3, 4, _, #[⟨1, .data⟩], none⟩ (v := ?vb2) rfl (by kernel_rfl) (fun _ _ _ h => h) (Or.inl ⟨by rfl, ?hyb2⟩) (by assumption) ?_
          case hyb2 => (intro wz hSw; (try dsimp only at hSw); obtain ⟨z0, z1, z2, z3⟩ := cells4 hSw.1; have z4 := hSw.2.1; have z5 := hSw.2.2; go_simp; try with_reducible rfl)
          (try simp only [putz])
          refine WHt 3 ⟨some 8, .move (.tmp 7), 4, _, #[⟨2, .data⟩], none⟩ (v := ?vb3) rfl (by kernel_rfl) (fun _ _ _ h => h) (Or.inl ⟨by rfl, ?hyb3⟩) (by assumption) ?_
          case hyb3 => (intro wz hSw; (try dsimp only at hSw); obtain ⟨z0, z1, z2, z3⟩ := cells4 hSw.1; have z4 := hSw.2.1; have z5 := hSw.2.2; go_simp; try with_reducible rfl)
          (try simp only [putz])
          refine WHt 4 ⟨some 9, .fieldAddr 24 (.tmp 3) 2, 0, _, #[⟨3, .guard⟩], some (3, true)⟩ (v := ?vb4) rfl (by kernel_rfl) (fun _ _ _ h => h) (Or.inl ⟨by rfl, ?hyb4⟩) (by assumption) ?_
          case hyb4 => (intro wz hSw; (try dsimp only at hSw); obtain ⟨z0, z1, z2, z3⟩ := cells4 hSw.1; have z4 := hSw.2.1; have z5 := hSw.2.2; go_simp; try with_reducible rfl)
          (try simp only [putz])
          refine WHt 5 ⟨some 10, .load 3 (.tmp 9), 3, _, #[⟨4, .data⟩, ⟨3, .guard⟩], some (3, true)⟩ (v := ?vb5) rfl (by kernel_rfl) (fun _ _ _ h => h) (Or.inl ⟨by rfl, ?hyb5⟩) (by assumption) ?_
          case hyb5 => (intro wz hSw; (try dsimp only at hSw); obtain ⟨z0, z1, z2, z3⟩ := cells4 hSw.1; have z4 := hSw.2.1; have z5 := hSw.2.2; go_simp; try with_reducible rfl)
          (try simp only [putz])
          refine WHt 6 ⟨some 11, .move (.tmp 0), 31, _, #[⟨3, .guard⟩], some (3, true)⟩ (v := ?vb6) rfl (by kernel_rfl) (fun _ _ _ h => h) (Or.inl ⟨by rfl, ?hyb6⟩) (by assumption) ?_
          case hyb6 => (intro wz hSw; (try dsimp only at hSw); obtain ⟨z0, z1, z2, z3⟩ := cells4 hSw.1; have z4 := hSw.2.1; have z5 := hSw.2.2; go_simp; try with_reducible rfl)
          (try simp only [putz])
          refine WHt 7 ⟨some 12, .nilCheck (.tmp 11), 0, _, #[⟨6, .data⟩, ⟨3, .guard⟩], some (3, true)⟩ (v := ?vb7) rfl (by kernel_rfl) (fun _ _ _ h => h) (Or.inl ⟨by rfl, ?hyb7⟩) (by assumption) ?_
          case hyb7 => (intro wz hSw; (try dsimp only at hSw); obtain ⟨z0, z1, z2, z3⟩ := cells4 hSw.1; have z4 := hSw.2.1; have z5 := hSw.2.2; go_simp; try with_reducible rfl)
          (try simp only [putz])
          refine WHt 8 ⟨some 13, .fieldAddr 65 (.tmp 12) 1, 0, _, #[⟨7, .data⟩, ⟨3, .guard⟩], some (3, true)⟩ (v := ?vb8) rfl (by kernel_rfl) (fun _ _ _ h => h) (Or.inl ⟨by rfl, ?hyb8⟩) (by assumption) ?_
          case hyb8 => (intro wz hSw; (try dsimp only at hSw); obtain ⟨z0, z1, z2, z3⟩ := cells4 hSw.1; have z4 := hSw.2.1; have z5 := hSw.2.2; go_simp; try with_reducible rfl)
          (try simp only [putz])
          refine WHt 9 ⟨some 14, .load 22 (.tmp 13), 22, _, #[⟨8, .data⟩, ⟨3, .guard⟩], some (3, true)⟩ (v := ?vb9) rfl (by kernel_rfl) (fun _ _ _ h => h) (Or.inl ⟨by rfl, ?hyb9⟩) (by assumption) ?_
          case hyb9 => (intro wz hSw; (try dsimp only at hSw); obtain ⟨z0, z1, z2, z3⟩ := cells4 hSw.1; have z4 := hSw.2.1; have z5 := hSw.2.2; go_simp; try with_reducible rfl)
          (try simp only [putz])
          refine WHt 10 ⟨some 15, .call { callee := .builtin .len, args := #[.tmp 14], argTypes := #[22] }, 3, _, #[⟨9, .data⟩, ⟨3, .guard⟩], some (3, true)⟩ (v := ?vb10) rfl (by kernel_rfl) (fun _ _ _ h => h) (Or.inl ⟨by rfl, ?hyb10⟩) (by assumption) ?_
          case hyb10 => (intro wz hSw; (try dsimp only at hSw); obtain ⟨z0, z1, z2, z3⟩ := cells4 hSw.1; have z4 := hSw.2.1; have z5 := hSw.2.2; go_simp; try with_reducible rfl)
          (try simp only [putz])
          refine WHt 11 ⟨some 16, .binOp .lss 3 (.tmp 10) (.tmp 15) 3, 4, _, #[⟨5, .data⟩, ⟨10, .data⟩, ⟨3, .guard⟩], some (3, true)⟩ (v := ?vb11) rfl (by kernel_rfl) (fun _ _ _ h => h) (Or.inl ⟨by rfl, ?hyb11⟩) (by assumption) ?_
          case hyb11 => (intro wz hSw; (try dsimp only at hSw); obtain ⟨z0, z1, z2, z3⟩ := cells4 hSw.1; have z4 := hSw.2.1; have z5 := hSw.2.2; go_simp; try with_reducible rfl)
          (try simp only [putz])
          refine WHt 12 ⟨some 17, .pick (.tmp 8) (.tmp 16) (.const (.bool false)), 4, _, #[⟨3, .data⟩, ⟨11, .data⟩], none⟩ (v := ?vb12) rfl (by kernel_rfl) (fun _ _ _ h => h) (Or.inl ⟨by rfl, ?hyb12⟩) (by assumption) ?_
          case hyb12 => (intro wz hSw; (try dsimp only at hSw); obtain ⟨z0, z1, z2, z3⟩ := cells4 hSw.1; have z4 := hSw.2.1; have z5 := hSw.2.2; go_simp; try with_reducible rfl)
          (try simp only [putz])
          refine WHt 13 ⟨some 18, .move (.tmp 17), 4, _, #[⟨12, .data⟩, ⟨3, .chain⟩], none⟩ (v := ?vb13) rfl (by kernel_rfl) (fun _ _ _ h => h) (Or.inl ⟨by rfl, ?hyb13⟩) (by assumption) ?_
          case hyb13 => (intro wz hSw; (try dsimp only at hSw); obtain ⟨z0, z1, z2, z3⟩ := cells4 hSw.1; have z4 := hSw.2.1; have z5 := hSw.2.2; go_simp; try with_reducible rfl)
          (try simp only [putz])
          refine WHt 14 ⟨some 19, .move (.tmp 0), 31, _, #[⟨13, .guard⟩], some (13, true)⟩ (v := ?vb14) rfl (by kernel_rfl) (fun _ _ _ h => h) (Or.inl ⟨by rfl, ?hyb14⟩) (by assumption) ?_
          case hyb14 => (intro wz hSw; (try dsimp only at hSw); obtain ⟨z0, z1, z2, z3⟩ := cells4 hSw.1; have z4 := hSw.2.1; have z5 := hSw.2.2; go_simp; try with_reducible rfl)
          (try simp only [putz])
          refine WHt 15 ⟨some 20, .nilCheck (.tmp 19), 0, _, #[⟨14, .data⟩, ⟨13, .guard⟩], some (13, true)⟩ (v := ?vb15) rfl (by kernel_rfl) (fun _ _ _ h => h) (Or.inl ⟨by rfl, ?hyb15⟩) (by assumption) ?_
          case hyb15 => (intro wz hSw; (try dsimp only at hSw); obtain ⟨z0, z1, z2, z3⟩ := cells4 hSw.1; have z4 := hSw.2.1; have z5 := hSw.2.2; go_simp; try with_reducible rfl)
          (try simp only [putz])
          refine WHt 16 ⟨some 21, .fieldAddr 65 (.tmp 20) 1, 0, _, #[⟨15, .data⟩, ⟨13, .guard⟩], some (13, true)⟩ (v := ?vb16) rfl (by kernel_rfl) (fun _ _ _ h => h) (Or.inl ⟨by rfl, ?hyb16⟩) (by assumption) ?_
          case hyb16 => (intro wz hSw; (try dsimp only at hSw); obtain ⟨z0, z1, z2, z3⟩ := cells4 hSw.1; have z4 := hSw.2.1; have z5 := hSw.2.2; go_simp; try with_reducible rfl)
          (try simp only [putz])
          refine WHt 17 ⟨some 22, .load 22 (.tmp 21), 22, _, #[⟨16, .data⟩, ⟨13, .guard⟩], some (13, true)⟩ (v := ?vb17) rfl (by kernel_rfl) (fun _ _ _ h => h) (Or.inl ⟨by rfl, ?hyb17⟩) (by assumption) ?_
          case hyb17 => (intro wz hSw; (try dsimp only at hSw); obtain ⟨z0, z1, z2, z3⟩ := cells4 hSw.1; have z4 := hSw.2.1; have z5 := hSw.2.2; go_simp; try with_reducible rfl)
          (try simp only [putz])
          refine WHt 18 ⟨some 23, .fieldAddr 24 (.tmp 3) 2, 0, _, #[⟨13, .guard⟩], some (13, true)⟩ (v := ?vb18) rfl (by kernel_rfl) (fun _ _ _ h => h) (Or.inl ⟨by rfl, ?hyb18⟩) (by assumption) ?_
          case hyb18 => (intro wz hSw; (try dsimp only at hSw); obtain ⟨z0, z1, z2, z3⟩ := cells4 hSw.1; have z4 := hSw.2.1; have z5 := hSw.2.2; go_simp; try with_reducible rfl)
          (try simp only [putz])
          refine WHt 19 ⟨some 24, .load 3 (.tmp 23), 3, _, #[⟨18, .data⟩, ⟨13, .guard⟩], some (13, true)⟩ (v := ?vb19) rfl (by kernel_rfl) (fun _ _ _ h => h) (Or.inl ⟨by rfl, ?hyb19⟩) (by assumption) ?_
          case hyb19 => (intro wz hSw; (try dsimp only at hSw); obtain ⟨z0, z1, z2, z3⟩ := cells4 hSw.1; have z4 := hSw.2.1; have z5 := hSw.2.2; go_simp; try with_reducible rfl)
          (try simp only [putz])
          refine WHt 20 ⟨some 25, .indexAddr 22 (.tmp 22) (.tmp 24), 0, _, #[⟨17, .data⟩, ⟨19, .data⟩, ⟨13, .guard⟩], some (13, true)⟩ (v := ?vb20) rfl (by kernel_rfl) (fun _ _ _ h => h) (Or.inl ⟨by rfl, ?hyb20⟩) (by assumption) ?_
          case hyb20 => (intro wz hSw; (try dsimp only at hSw); obtain ⟨z0, z1, z2, z3⟩ := cells4 hSw.1; have z4 := hSw.2.1; have z5 := hSw.2.2; go_simp; try with_reducible rfl)
          (try simp only [putz])
          refine WHt 21 ⟨some 26, .fieldAddr 24 (.tmp 25) 0, 0, _, #[⟨20, .data⟩, ⟨13, .guard⟩], some (13, true)⟩ (v := ?vb21) rfl (by kernel_rfl) (fun _ _ _ h => h) (Or.inl ⟨by rfl, ?hyb21⟩) (by assumption) ?_
          case hyb21 => (intro wz hSw; (try dsimp only at hSw); obtain ⟨z0, z1, z2, z3⟩ := cells4 hSw.1; have z4 := hSw.2.1; have z5 := hSw.2.2; go_simp; try with_reducible rfl)
          (try simp only [putz])
          refine WHt 22 ⟨some 27, .load 3 (.tmp 26), 3, _, #[⟨21, .data⟩, ⟨13, .guard⟩], some (13, true)⟩ (v := ?vb22) rfl (by kernel_rfl) (fun _ _ _ h => h) (Or.inl ⟨by rfl, ?hyb22⟩) (by assumption) ?_
          case hyb22 => (intro wz hSw; (try dsimp only at hSw); obtain ⟨z0, z1, z2, z3⟩ := cells4 hSw.1; have z4 := hSw.2.1; have z5 := hSw.2.2; go_simp; try with_reducible rfl)
          (try simp only [putz])
          refine WHt 23 ⟨some 28, .binOp .neq 3 (.tmp 27) (.const (.int .i64 0)) 3, 4, _, #[⟨22, .data⟩, ⟨13, .guard⟩], some (13, true)⟩ (v := ?vb23) rfl (by kernel_rfl) (fun _ _ _ h => h) (Or.inl ⟨by rfl, ?hyb23⟩) (by assumption) ?_
          case hyb23 => (intro wz hSw; (try dsimp only at hSw); obtain ⟨z0, z1, z2, z3⟩ := cells4 hSw.1; have z4 := hSw.2.1; have z5 := hSw.2.2; go_simp; try with_reducible rfl)
          (try simp only [putz])
          refine WHt 24 ⟨some 29, .pick (.tmp 18) (.tmp 28) (.const (.bool false)), 4, _, #[⟨13, .data⟩, ⟨23, .data⟩], none⟩ (v := ?vb24) rfl (by kernel_rfl) (fun _ _ _ h => h) (Or.inl ⟨by rfl, ?hyb24⟩) (by assumption) ?_
          case hyb24 => (intro wz hSw; (try dsimp only at hSw); obtain ⟨z0, z1, z2, z3⟩ := cells4 hSw.1; have z4 := hSw.2.1; have z5 := hSw.2.2; go_simp; try with_reducible rfl)
          (try simp only [putz])
          refine wpAnyH_done (by kernel_rfl) ?_ _
          go_wp2_with fail
          refine wp_region_D [8] (fun w' => (w'.heap[w.heap.size]? = some (.cells #[.int .i64 C.k, .string C.nm, .int .i64 (x : Int), .slice AC C.args.length cc] 24 (0, 0)) ∧ w'.cell? ⟨sb, 1, none⟩ = some (.slice (some ⟨b, o, none⟩) St.length sc)) ∧ w'.cell? ⟨b, o + x * 4, none⟩ = some (.int .i64 E.k) ∧ w'.cell? ⟨b, o + x * 4 + 1, none⟩ = some (.string E.nm) ∧ w'.cell? ⟨b, o + x * 4 + 2, none⟩ = some (.int .i64 E.vr) ∧ w'.cell? ⟨b, o + x * 4 + 3, none⟩ = some (.slice A' E.args.length c')) (by kernel_rfl) (⟨⟨HX.out, HS.out⟩, E0.out, E1.out, E2.out, E3.out⟩) (fun hHeld => ?_)
          refine WDs 0 ⟨some 30, .move (.tmp 0), 31, _, #[], none⟩ ?vc0 ?hyc0 hHeld ?_
          case hyc0 => (intro wz hSw; (try dsimp only at hSw); obtain ⟨z0, z1, z2, z3⟩ := cells4 hSw.1.1; have z4 := hSw.1.2; have z5 := hSw.2.1; have z6 := hSw.2.2.1; have z7 := hSw.2.2.2.1; have z8 := hSw.2.2.2.2; go_simp; try with_reducible rfl)
          (try simp only [putz])
          refine WDs 1 ⟨some 31, .nilCheck (.tmp 30), 0, _, #[⟨0, .data⟩], none⟩ ?vc1 ?hyc1 hHeld ?_
          case hyc1 => (intro wz hSw; (try dsimp only at hSw); obtain ⟨z0, z1, z2, z3⟩ := cells4 hSw.1.1; have z4 := hSw.1.2; have z5 := hSw.2.1; have z6 := hSw.2.2.1; have z7 := hSw.2.2.2.1; have z8 := hSw.2.2.2.2; go_simp; try with_reducible rfl)
          (try simp only [putz])
          refine WDs 2 ⟨some 32, .fieldAddr 65 (.tmp 31) 1, 0, _, #[⟨1, .data⟩], none⟩ ?vc2 ?hyc2 hHeld ?_
          case hyc2 => (intro wz hSw; (try dsimp only at hSw); obtain ⟨z0, z1, z2, z3⟩ := cells4 hSw.1.1; have z4 := hSw.1.2; have z5 := hSw.2.1; have z6 := hSw.2.2.1; have z7 := hSw.2.2.2.1; have z8 := hSw.2.2.2.2; go_simp; try with_reducible rfl)
          (try simp only [putz])
          refine WDs 3 ⟨some 33, .load 22 (.tmp 32), 22, _, #[⟨2, .data⟩], none⟩ ?vc3 ?hyc3 hHeld ?_
          case hyc3 => (intro wz hSw; (try dsimp only at hSw); obtain ⟨z0, z1, z2, z3⟩ := cells4 hSw.1.1; have z4 := hSw.1.2; have z5 := hSw.2.1; have z6 := hSw.2.2.1; have z7 := hSw.2.2.2.1; have z8 := hSw.2.2.2.2; go_simp; try with_reducible rfl)
          (try simp only [putz])
          refine WDs 4 ⟨some 34, .fieldAddr 24 (.tmp 3) 2, 0, _, #[], none⟩ ?vc4 ?hyc4 hHeld ?_
          case hyc4 => (intro wz hSw; (try dsimp only at hSw); obtain ⟨z0, z1, z2, z3⟩ := cells4 hSw.1.1; have z4 := hSw.1.2; have z5 := hSw.2.1; have z6 := hSw.2.2.1; have z7 := hSw.2.2.2.1; have z8 := hSw.2.2.2.2; go_simp; try with_reducible rfl)
          (try simp only [putz])
          refine WDs 5 ⟨some 35, .load 3 (.tmp 34), 3, _, #[⟨4, .data⟩], none⟩ ?vc5 ?hyc5 hHeld ?_
          case hyc5 => (intro wz hSw; (try dsimp only at hSw); obtain ⟨z0, z1, z2, z3⟩ := cells4 hSw.1.1; have z4 := hSw.1.2; have z5 := hSw.2.1; have z6 := hSw.2.2.1; have z7 := hSw.2.2.2.1; have z8 := hSw.2.2.2.2; go_simp; try with_reducible rfl)
          (try simp only [putz])
          refine WDs 6 ⟨some 36, .indexAddr 22 (.tmp 33) (.tmp 35), 0, _, #[⟨3, .data⟩, ⟨5, .data⟩], none⟩ ?vc6 ?hyc6 hHeld ?_
          case hyc6 => (intro wz hSw; (try dsimp only at hSw); obtain ⟨z0, z1, z2, z3⟩ := cells4 hSw.1.1; have z4 := hSw.1.2; have z5 := hSw.2.1; have z6 := hSw.2.2.1; have z7 := hSw.2.2.2.1; have z8 := hSw.2.2.2.2; go_simp; try with_reducible rfl)
          (try simp only [putz])
          refine WDs 7 ⟨some 37, .load 24 (.tmp 36), 24, _, #[⟨6, .data⟩], none⟩ ?vc7 ?hyc7 hHeld ?_
          case hyc7 => (intro wz hSw; (try dsimp only at hSw); obtain ⟨z0, z1, z2, z3⟩ := cells4 hSw.1.1; have z4 := hSw.1.2; have z5 := hSw.2.1; have z6 := hSw.2.2.1; have z7 := hSw.2.2.2.1; have z8 := hSw.2.2.2.2; go_simp; try with_reducible rfl)
          (try simp only [putz])
          refine WD_ready (rs := [8]) (by kernel_rfl) (by simp) ?_
          refine AllD.last (o := _) rfl (by kernel_rfl) (fun K hK => ?_) AllD.nil
          rw [if_pos (by rfl)]
          go_simp
          refine hK.out _ _ ?_
          clear hK K
          (try simp only [putz])
          refine WD_done (by kernel_rfl) ?_ _
          go_wp2
          go_roundg (m E)
          case measure => exact Nat.lt_of_lt_of_le (by have := HM.out C BN.out; rw [HST.out] at this; exact this) HG.out
          case rel => exact ⟨E, A', c', Lib.hid (Nat.le_refl _), Lib.hid (cells_all (.int .i64 E.k) (.string E.nm) (.int .i64 E.vr) (.slice A' E.args.length c') HX.out), Lib.hid (HF.out.trans (have f := frm4 wr w.heap.size (.int .i64 E.k) (.string E.nm) (.int .i64 E.vr) (.slice A' E.args.length c'); ⟨f.os, f.tape, f.output, f.size, f.block⟩)), HIN, Lib.hid (fun T hT => HRS.out T (.step BN.out (by rw [HST.out]; exact hT))), Lib.hid (fun h => by have := HVS.out C BN.out; rw [HST.out] at this; exact this h)⟩
      · have hge : ¬ (x : Int) < (St.length : Int) := by omega
        have NB : Hid (¬ bnd St C) := Lib.hid (fun h => h.2 (by rw [HXV.out]; exact stA_out hlt))
        go_wp2_with fail
        refine wp_region_held_drew (S := fun w' => w'.heap[w.heap.size]? = some (.cells #[.int .i64 C.k, .string C.nm, .int .i64 (x : Int), .slice AC C.args.length cc] 24 (0, 0)) ∧ w'.cell? ⟨sb, 1, none⟩ = some (.slice SA St.length sc)) (by kernel_rfl) ?_ (fun hHeld => ?_)
        · exact ⟨HX.out, HS.out⟩
        refine WHt 0 ⟨some 5, .fieldAddr 24 (.tmp 3) 0, 0, _, #[], none⟩ (v := ?vd0) rfl (by kernel_rfl) (fun _ _ _ h => h) (Or.inl ⟨by rfl, ?hyd0⟩) (by assumption) ?_
        case hyd0 => (intro wz hSw; (try dsimp only at hSw); obtain ⟨z0, z1, z2, z3⟩ := cells4 hSw.1; have z4 := hSw.2; go_simp; try with_reducible rfl)
        (try simp only [putz])
        refine WHt 1 ⟨some 6, .load 3 (.tmp 5), 3, _, #[⟨0, .data⟩], none⟩ (v := ?vd1) rfl (by kernel_rfl) (fun _ _ _ h => h) (Or.inl ⟨by rfl, ?hyd1⟩) (by assumption) ?_
        case hyd1 => (intro wz hSw; (try dsimp only at hSw); obtain ⟨z0, z1, z2, z3⟩ := cells4 hSw.1; have z4 := hSw.2; go_simp; try with_reducible rfl)
        (try simp only [putz])
        refine WHt 2 ⟨some 7, .binOp .eql 3 (.tmp 6) (.const (.int .i64 7)) 3, 4, _, #[⟨1, .data⟩], none⟩ (v := ?vd2) rfl (by kernel_rfl) (fun _ _ _ h => h) (Or.inl ⟨by rfl, ?hyd2⟩) (by assumption) ?_
        case hyd2 => (intro wz hSw; (try dsimp only at hSw); obtain ⟨z0, z1, z2, z3⟩ := cells4 hSw.1; have z4 := hSw.2; go_simp; try with_reducible rfl)
        (try simp only [putz])
        refine WHt 3 ⟨some 8, .move (.tmp 7), 4, _, #[⟨2, .data⟩], none⟩ (v := ?vd3) rfl (by kernel_rfl) (fun _ _ _ h => h) (Or.inl ⟨by rfl, ?hyd3⟩) (by assumption) ?_
        case hyd3 => (intro wz hSw; (try dsimp only at hSw); obtain ⟨z0, z1, z2, z3⟩ := cells4 hSw.1; have z4 := hSw.2; go_simp; try with_reducible rfl)
        (try simp only [putz])
        refine WHt 4 ⟨some 9, .fieldAddr 24 (.tmp 3) 2, 0, _, #[⟨3, .guard⟩], some (3, true)⟩ (v := ?vd4) rfl (by kernel_rfl) (fun _ _ _ h => h) (Or.inl ⟨by rfl, ?hyd4⟩) (by assumption) ?_
        case hyd4 => (intro wz hSw; (try dsimp only at hSw); obtain ⟨z0, z1, z2, z3⟩ := cells4 hSw.1; have z4 := hSw.2; go_simp; try with_reducible rfl)
        (try simp only [putz])
        refine WHt 5 ⟨some 10, .load 3 (.tmp 9), 3, _, #[⟨4, .data⟩, ⟨3, .guard⟩], some (3, true)⟩ (v := ?vd5) rfl (by kernel_rfl) (fun _ _ _ h => h) (Or.inl ⟨by rfl, ?hyd5⟩) (by assumption) ?_
        case hyd5 => (intro wz hSw; (try dsimp only at hSw); obtain ⟨z0, z1, z2, z3⟩ := cells4 hSw.1; have z4 := hSw.2; go_simp; try with_reducible rfl)
        (try simp only [putz])
        refine WHt 6 ⟨some 11, .move (.tmp 0), 31, _, #[⟨3, .guard⟩], some (3, true)⟩ (v := ?vd6) rfl (by kernel_rfl) (fun _ _ _ h => h) (Or.inl ⟨by rfl, ?hyd6⟩) (by assumption) ?_
        case hyd6 => (intro wz hSw; (try dsimp only at hSw); obtain ⟨z0, z1, z2, z3⟩ := cells4 hSw.1; have z4 := hSw.2; go_simp; try with_reducible rfl)
        (try simp only [putz])
        refine WHt 7 ⟨some 12, .nilCheck (.tmp 11), 0, _, #[⟨6, .data⟩, ⟨3, .guard⟩], some (3, true)⟩ (v := ?vd7) rfl (by kernel_rfl) (fun _ _ _ h => h) (Or.inl ⟨by rfl, ?hyd7⟩) (by assumption) ?_
        case hyd7 => (intro wz hSw; (try dsimp only at hSw); obtain ⟨z0, z1, z2, z3⟩ := cells4 hSw.1; have z4 := hSw.2; go_simp; try with_reducible rfl)
        (try simp only [putz])
        refine WHt 8 ⟨some 13, .fieldAddr 65 (.tmp 12) 1, 0, _, #[⟨7, .data⟩, ⟨3, .guard⟩], some (3, true)⟩ (v := ?vd8) rfl (by kernel_rfl) (fun _ _ _ h => h) (Or.inl ⟨by rfl, ?hyd8⟩) (by assumption) ?_
        case hyd8 => (intro wz hSw; (try dsimp only at hSw); obtain ⟨z0, z1, z2, z3⟩ := cells4 hSw.1; have z4 := hSw.2; go_simp; try with_reducible rfl)
        (try simp only [putz])
        refine WHt 9 ⟨some 14, .load 22 (.tmp 13), 22, _, #[⟨8, .data⟩, ⟨3, .guard⟩], some (3, true)⟩ (v := ?vd9) rfl (by kernel_rfl) (fun _ _ _ h => h) (Or.inl ⟨by rfl, ?hyd9⟩) (by assumption) ?_
        case hyd9 => (intro wz hSw; (try dsimp only at hSw); obtain ⟨z0, z1, z2, z3⟩ := cells4 hSw.1; have z4 := hSw.2; go_simp; try with_reducible rfl)
        (try simp only [putz])
        refine WHt 10 ⟨some 15, .call { callee := .builtin .len, args := #[.tmp 14], argTypes := #[22] }, 3, _, #[⟨9, .data⟩, ⟨3, .guard⟩], some (3, true)⟩ (v := ?vd10) rfl (by kernel_rfl) (fun _ _ _ h => h) (Or.inl ⟨by rfl, ?hyd10⟩) (by assumption) ?_
        case hyd10 => (intro wz hSw; (try dsimp only at hSw); obtain ⟨z0, z1, z2, z3⟩ := cells4 hSw.1; have z4 := hSw.2; go_simp; try with_reducible rfl)
        (try simp only [putz])
        refine WHt 11 ⟨some 16, .binOp .lss 3 (.tmp 10) (.tmp 15) 3, 4, _, #[⟨5, .data⟩, ⟨10, .data⟩, ⟨3, .guard⟩], some (3, true)⟩ (v := ?vd11) rfl (by kernel_rfl) (fun _ _ _ h => h) (Or.inl ⟨by rfl, ?hyd11⟩) (by assumption) ?_
        case hyd11 => (intro wz hSw; (try dsimp only at hSw); obtain ⟨z0, z1, z2, z3⟩ := cells4 hSw.1; have z4 := hSw.2; go_simp; try with_reducible rfl)
        (try simp only [putz])
        refine WHt 12 ⟨some 17, .pick (.tmp 8) (.tmp 16) (.const (.bool false)), 4, _, #[⟨3, .data⟩, ⟨11, .data⟩], none⟩ (v := ?vd12) rfl (by kernel_rfl) (fun _ _ _ h => h) (Or.inl ⟨by rfl, ?hyd12⟩) (by assumption) ?_
        case hyd12 => (intro wz hSw; (try dsimp only at hSw); obtain ⟨z0, z1, z2, z3⟩ := cells4 hSw.1; have z4 := hSw.2; go_simp; try with_reducible rfl)
        (try simp only [putz])
        refine WHt 13 ⟨some 18, .move (.tmp 17), 4, _, #[⟨12, .data⟩, ⟨3, .chain⟩], none⟩ (v := ?vd13) rfl (by kernel_rfl) (fun _ _ _ h => h) (Or.inl ⟨by rfl, ?hyd13⟩) (by assumption) ?_
        case hyd13 => (intro wz hSw; (try dsimp only at hSw); obtain ⟨z0, z1, z2, z3⟩ := cells4 hSw.1; have z4 := hSw.2; go_simp; try with_reducible rfl)
        (try simp only [putz])
        refine WHt 14 ⟨some 19, .move (.tmp 0), 31, _, #[⟨13, .guard⟩], some (13, true)⟩ (v := undef) rfl (by kernel_rfl) (fun _ _ _ h => h) (Or.inr ⟨by rfl, rfl⟩) (by assumption) ?_
        (try simp only [putz])
        refine WHt 15 ⟨some 20, .nilCheck (.tmp 19), 0, _, #[⟨14, .data⟩, ⟨13, .guard⟩], some (13, true)⟩ (v := undef) rfl (by kernel_rfl) (fun _ _ _ h => h) (Or.inr ⟨by rfl, rfl⟩) (by assumption) ?_
        (try simp only [putz])
        refine WHt 16 ⟨some 21, .fieldAddr 65 (.tmp 20) 1, 0, _, #[⟨15, .data⟩, ⟨13, .guard⟩], some (13, true)⟩ (v := undef) rfl (by kernel_rfl) (fun _ _ _ h => h) (Or.inr ⟨by rfl, rfl⟩) (by assumption) ?_
        (try simp only [putz])
        refine WHt 17 ⟨some 22, .load 22 (.tmp 21), 22, _, #[⟨16, .data⟩, ⟨13, .guard⟩], some (13, true)⟩ (v := undef) rfl (by kernel_rfl) (fun _ _ _ h => h) (Or.inr ⟨by rfl, rfl⟩) (by assumption) ?_
        (try simp only [putz])
        refine WHt 18 ⟨some 23, .fieldAddr 24 (.tmp 3) 2, 0, _, #[⟨13, .guard⟩], some (13, true)⟩ (v := undef) rfl (by kernel_rfl) (fun _ _ _ h => h) (Or.inr ⟨by rfl, rfl⟩) (by assumption) ?_
        (try simp only [putz])
        refine WHt 19 ⟨some 24, .load 3 (.tmp 23), 3, _, #[⟨18, .data⟩, ⟨13, .guard⟩], some (13, true)⟩ (v := undef) rfl (by kernel_rfl) (fun _ _ _ h => h) (Or.inr ⟨by rfl, rfl⟩) (by assumption) ?_
        (try simp only [putz])
        refine WHt 20 ⟨some 25, .indexAddr 22 (.tmp 22) (.tmp 24), 0, _, #[⟨17, .data⟩, ⟨19, .data⟩, ⟨13, .guard⟩], some (13, true)⟩ (v := undef) rfl (by kernel_rfl) (fun _ _ _ h => h) (Or.inr ⟨by rfl, rfl⟩) (by assumption) ?_
        (try simp only [putz])
        refine WHt 21 ⟨some 26, .fieldAddr 24 (.tmp 25) 0, 0, _, #[⟨20, .data⟩, ⟨13, .guard⟩], some (13, true)⟩ (v := undef) rfl (by kernel_rfl) (fun _ _ _ h => h) (Or.inr ⟨by rfl, rfl⟩) (by assumption) ?_
        (try simp only [putz])
        refine WHt 22 ⟨some 27, .load 3 (.tmp 26), 3, _, #[⟨21, .data⟩, ⟨13, .guard⟩], some (13, true)⟩ (v := undef) rfl (by kernel_rfl) (fun _ _ _ h => h) (Or.inr ⟨by rfl, rfl⟩) (by assumption) ?_
        (try simp only [putz])
        refine WHt 23 ⟨some 28, .binOp .neq 3 (.tmp 27) (.const (.int .i64 0)) 3, 4, _, #[⟨22, .data⟩, ⟨13, .guard⟩], some (13, true)⟩ (v := undef) rfl (by kernel_rfl) (fun _ _ _ h => h) (Or.inr ⟨by rfl, rfl⟩) (by assumption) ?_
        (try simp only [putz])
        refine WHt 24 ⟨some 29, .pick (.tmp 18) (.tmp 28) (.const (.bool false)), 4, _, #[⟨13, .data⟩, ⟨23, .data⟩], none⟩ (v := ?vd24) rfl (by kernel_rfl) (fun _ _ _ h => h) (Or.inl ⟨by rfl, ?hyd24⟩) (by assumption) ?_
        case hyd24 => (intro wz hSw; (try dsimp only at hSw); obtain ⟨z0, z1, z2, z3⟩ := cells4 hSw.1; have z4 := hSw.2; go_simp; try with_reducible rfl)
        (try simp only [putz])
        refine wpAnyH_done (by kernel_rfl) ?_ _
        go_wp2
        (try simp only [Exit.inBlock, Exit.then])
        refine bodyPost_ret (by simp [results, Tryz.results47, go_sem, t0, t1, t2, t3]; try rfl) rfl ?_
        exact ⟨C, AC, cc, by rw [HXV.out], HR.out, HRS.out _ (.stop NB.out), HC0.out, FIN.out NB.out _ rfl⟩
    · have q7 : (C.k == 7) = false := beq_eq_false_iff_ne.2 h7
      have NB : Hid (¬ bnd St C) := Lib.hid (fun h => h7 h.1)
      clear h7
      go_wp2_with fail
      refine wp_region_held_drew (S := fun w' => w'.heap[w.heap.size]? = some (.cells #[.int .i64 C.k, .string C.nm, .int .i64 C.vr, .slice AC C.args.length cc] 24 (0, 0)) ∧ w'.cell? ⟨sb, 1, none⟩ = some (.slice SA St.length sc)) (by kernel_rfl) ?_ (fun hHeld => ?_)
      · exact ⟨HX.out, HS.out⟩
      refine WHt 0 ⟨some 5, .fieldAddr 24 (.tmp 3) 0, 0, _, #[], none⟩ (v := ?ve0) rfl (by kernel_rfl) (fun _ _ _ h => h) (Or.inl ⟨by rfl, ?hye0⟩) (by assumption) ?_
      case hye0 => (intro wz hSw; (try dsimp only at hSw); obtain ⟨z0, z1, z2, z3⟩ := cells4 hSw.1; have z4 := hSw.2; go_simp; try with_reducible rfl)
      (try simp only [putz])
      refine WHt 1 ⟨some 6, .load 3 (.tmp 5), 3, _, #[⟨0, .data⟩], none⟩ (v := ?ve1) rfl (by kernel_rfl) (fun _ _ _ h => h) (Or.inl ⟨by rfl, ?hye1⟩) (by assumption) ?_
      case hye1 => (intro wz hSw; (try dsimp only at hSw); obtain ⟨z0, z1, z2, z3⟩ := cells4 hSw.1; have z4 := hSw.2; go_simp; try with_reducible rfl)
      (try simp only [putz])
      refine WHt 2 ⟨some 7, .binOp .eql 3 (.tmp 6) (.const (.int .i64 7)) 3, 4, _, #[⟨1, .data⟩], none⟩ (v := ?ve2) rfl (by kernel_rfl) (fun _ _ _ h => h) (Or.inl ⟨by rfl, ?hye2⟩) (by assumption) ?_
      case hye2 => (intro wz hSw; (try dsimp only at hSw); obtain ⟨z0, z1, z2, z3⟩ := cells4 hSw.1; have z4 := hSw.2; go_simp; try with_reducible rfl)
      (try simp only [putz])
      refine WHt 3 ⟨some 8, .move (.tmp 7), 4, _, #[⟨2, .data⟩], none⟩ (v := ?ve3) rfl (by kernel_rfl) (fun _ _ _ h => h) (Or.inl ⟨by rfl, ?hye3⟩) (by assumption) ?_
      case hye3 => (intro wz hSw; (try dsimp only at hSw); obtain ⟨z0, z1, z2, z3⟩ := cells4 hSw.1; have z4 := hSw.2; go_simp; try with_reducible rfl)
      (try simp only [putz])
      refine WHt 4 ⟨some 9, .fieldAddr 24 (.tmp 3) 2, 0, _, #[⟨3, .guard⟩], some (3, true)⟩ (v := undef) rfl (by kernel_rfl) (fun _ _ _ h => h) (Or.inr ⟨by rfl, rfl⟩) (by assumption) ?_
      (try simp only [putz])
      refine WHt 5 ⟨some 10, .load 3 (.tmp 9), 3, _, #[⟨4, .data⟩, ⟨3, .guard⟩], some (3, true)⟩ (v := undef) rfl (by kernel_rfl) (fun _ _ _ h => h) (Or.inr ⟨by rfl, rfl⟩) (by assumption) ?_
      (try simp only [putz])
      refine WHt 6 ⟨some 11, .move (.tmp 0), 31, _, #[⟨3, .guard⟩], some (3, true)⟩ (v := undef) rfl (by kernel_rfl) (fun _ _ _ h => h) (Or.inr ⟨by rfl, rfl⟩) (by assumption) ?_
      (try simp only [putz])
      refine WHt 7 ⟨some 12, .nilCheck (.tmp 11), 0, _, #[⟨6, .data⟩, ⟨3, .guard⟩], some (3, true)⟩ (v := undef) rfl (by kernel_rfl) (fun _ _ _ h => h) (Or.inr ⟨by rfl, rfl⟩) (by assumption) ?_
      (try simp only [putz])
      refine WHt 8 ⟨some 13, .fieldAddr 65 (.tmp 12) 1, 0, _, #[⟨7, .data⟩, ⟨3, .guard⟩], some (3, true)⟩ (v := undef) rfl (by kernel_rfl) (fun _ _ _ h => h) (Or.inr ⟨by rfl, rfl⟩) (by assumption) ?_
      (try simp only [putz])
      refine WHt 9 ⟨some 14, .load 22 (.tmp 13), 22, _, #[⟨8, .data⟩, ⟨3, .guard⟩], some (3, true)⟩ (v := undef) rfl (by kernel_rfl) (fun _ _ _ h => h) (Or.inr ⟨by rfl, rfl⟩) (by assumption) ?_
      (try simp only [putz])
      refine WHt 10 ⟨some 15, .call { callee := .builtin .len, args := #[.tmp 14], argTypes := #[22] }, 3, _, #[⟨9, .data⟩, ⟨3, .guard⟩], some (3, true)⟩ (v := undef) rfl (by kernel_rfl) (fun _ _ _ h => h) (Or.inr ⟨by rfl, rfl⟩) (by assumption) ?_
      (try simp only [putz])
      refine WHt 11 ⟨some 16, .binOp .lss 3 (.tmp 10) (.tmp 15) 3, 4, _, #[⟨5, .data⟩, ⟨10, .data⟩, ⟨3, .guard⟩], some (3, true)⟩ (v := undef) rfl (by kernel_rfl) (fun _ _ _ h => h) (Or.inr ⟨by rfl, rfl⟩) (by assumption) ?_
      (try simp only [putz])
      refine WHt 12 ⟨some 17, .pick (.tmp 8) (.tmp 16) (.const (.bool false)), 4, _, #[⟨3, .data⟩, ⟨11, .data⟩], none⟩ (v := ?ve12) rfl (by kernel_rfl) (fun _ _ _ h => h) (Or.inl ⟨by rfl, ?hye12⟩) (by assumption) ?_
      case hye12 => (intro wz hSw; (try dsimp only at hSw); obtain ⟨z0, z1, z2, z3⟩ := cells4 hSw.1; have z4 := hSw.2; go_simp; try with_reducible rfl)
      (try simp only [putz])
      refine WHt 13 ⟨some 18, .move (.tmp 17), 4, _, #[⟨12, .data⟩, ⟨3, .chain⟩], none⟩ (v := ?ve13) rfl (by kernel_rfl) (fun _ _ _ h => h) (Or.inl ⟨by rfl, ?hye13⟩) (by assumption) ?_
      case hye13 => (intro wz hSw; (try dsimp only at hSw); obtain ⟨z0, z1, z2, z3⟩ := cells4 hSw.1; have z4 := hSw.2; go_simp; try with_reducible rfl)
      (try simp only [putz])
      refine WHt 14 ⟨some 19, .move (.tmp 0), 31, _, #[⟨13, .guard⟩], some (13, true)⟩ (v := undef) rfl (by kernel_rfl) (fun _ _ _ h => h) (Or.inr ⟨by rfl, rfl⟩) (by assumption) ?_
      (try simp only [putz])
      refine WHt 15 ⟨some 20, .nilCheck (.tmp 19), 0, _, #[⟨14, .data⟩, ⟨13, .guard⟩], some (13, true)⟩ (v := undef) rfl (by kernel_rfl) (fun _ _ _ h => h) (Or.inr ⟨by rfl, rfl⟩) (by assumption) ?_
      (try simp only [putz])
      refine WHt 16 ⟨some 21, .fieldAddr 65 (.tmp 20) 1, 0, _, #[⟨15, .data⟩, ⟨13, .guard⟩], some (13, true)⟩ (v := undef) rfl (by kernel_rfl) (fun _ _ _ h => h) (Or.inr ⟨by rfl, rfl⟩) (by assumption) ?_
      (try simp only [putz])
      refine WHt 17 ⟨some 22, .load 22 (.tmp 21), 22, _, #[⟨16, .data⟩, ⟨13, .guard⟩], some (13, true)⟩ (v := undef) rfl (by kernel_rfl) (fun _ _ _ h => h) (Or.inr ⟨by rfl, rfl⟩) (by assumption) ?_
      (try simp only [putz])
      refine WHt 18 ⟨some 23, .fieldAddr 24 (.tmp 3) 2, 0, _, #[⟨13, .guard⟩], some (13, true)⟩ (v := undef) rfl (by kernel_rfl) (fun _ _ _ h => h) (Or.inr ⟨by rfl, rfl⟩) (by assumption) ?_
      (try simp only [putz])
      refine WHt 19 ⟨some 24, .load 3 (.tmp 23), 3, _, #[⟨18, .data⟩, ⟨13, .guard⟩], some (13, true)⟩ (v := undef) rfl (by kernel_rfl) (fun _ _ _ h => h) (Or.inr ⟨by rfl, rfl⟩) (by assumption) ?_
      (try simp only [putz])
      refine WHt 20 ⟨some 25, .indexAddr 22 (.tmp 22) (.tmp 24), 0, _, #[⟨17, .data⟩, ⟨19, .data⟩, ⟨13, .guard⟩], some (13, true)⟩ (v := undef) rfl (by kernel_rfl) (fun _ _ _ h => h) (Or.inr ⟨by rfl, rfl⟩) (by assumption) ?_
      (try simp only [putz])
      refine WHt 21 ⟨some 26, .fieldAddr 24 (.tmp 25) 0, 0, _, #[⟨20, .data⟩, ⟨13, .guard⟩], some (13, true)⟩ (v := undef) rfl (by kernel_rfl) (fun _ _ _ h => h) (Or.inr ⟨by rfl, rfl⟩) (by assumption) ?_
      (try simp only [putz])
      refine WHt 22 ⟨some 27, .load 3 (.tmp 26), 3, _, #[⟨21, .data⟩, ⟨13, .guard⟩], some (13, true)⟩ (v := undef) rfl (by kernel_rfl) (fun _ _ _ h => h) (Or.inr ⟨by rfl, rfl⟩) (by assumption) ?_
      (try simp only [putz])
      refine WHt 23 ⟨some 28, .binOp .neq 3 (.tmp 27) (.const (.int .i64 0)) 3, 4, _, #[⟨22, .data⟩, ⟨13, .guard⟩], some (13, true)⟩ (v := undef) rfl (by kernel_rfl) (fun _ _ _ h => h) (Or.inr ⟨by rfl, rfl⟩) (by assumption) ?_
      (try simp only [putz])
      refine WHt 24 ⟨some 29, .pick (.tmp 18) (.tmp 28) (.const (.bool false)), 4, _, #[⟨13, .data⟩, ⟨23, .data⟩], none⟩ (v := ?ve24) rfl (by kernel_rfl) (fun _ _ _ h => h) (Or.inl ⟨by rfl, ?hye24⟩) (by assumption) ?_
      case hye24 => (intro wz hSw; (try dsimp only at hSw); obtain ⟨z0, z1, z2, z3⟩ := cells4 hSw.1; have z4 := hSw.2; go_simp; try with_reducible rfl)
      (try simp only [putz])
      refine wpAnyH_done (by kernel_rfl) ?_ _
      go_wp2
      (try simp only [Exit.inBlock, Exit.then])
      refine bodyPost_ret (by simp [results, Tryz.results47, go_sem, t0, t1, t2, t3]; try rfl) rfl ?_
      exact ⟨C, AC, cc, rfl, HR.out, HRS.out _ (.stop NB.out), HC0.out, FIN.out NB.out _ rfl⟩

theorem SubP.q {w : World} {P : Nat → Prop} {S : Nat} {n : Int} {St : List TT} (h : SubP w P S n St) : SubQ w P S n St := by
  obtain ⟨A, c, h1, h2⟩ := h
  refine ⟨A, c, h1, ?_⟩
  rcases h2 with h2 | ⟨b, o, e, hb, _, hk⟩
  · exact .inl h2
  · exact .inr ⟨b, o, e, hb, hk⟩
theorem resolve_any {P : Nat → Prop} {St : List TT} {m : TT → Nat} (hm : ∀ t, bnd St t → m (stA St t.vr) < m t) (hv : ∀ t, bnd St t → (stA St t.vr).k = 7 → 0 ≤ (stA St t.vr).vr) {V : TT} {A : Option Addr} {c sb : Nat} {n : Int} {w : World} (h0 : V.k = 7 → 0 ≤ V.vr) (hV : TRow w P A V.args) (hs : SubP w P sb n St) :
    Calls Tryz.prog 47 #[.pointer (some ⟨sb, 0, none⟩), tv V A c] w fun e w' => ∃ T A' c', e = .returned (tv T A' c') ∧ TRow w P A' T.args ∧ Res St V T ∧ (T.k = 7 → 0 ≤ T.vr) ∧ Below w.heap.size w w' :=
  resolve_anyQ hm hv h0 hV hs.q
end Go.Proofs.YtifopogkbjhkjaaGreatDoor
