import Derived.Test.YtdkfimejabanlaaDoorVt
namespace Go.Proofs.YtdkfimejabanlaaDoor
open Go.ChangeShapes Go.WideShapes Go.ChangeAt Go.RowKit Go.WideMaps
set_option linter.unusedVariables false
set_option linter.unusedSimpArgs false
/-- a free variable's place. -/
def zeroT : TT := .mk 0 ⟨#[]⟩ 0 []
/-- what a variable stands for; kind 0: nothing. -/
def stA (St : List TT) (x : Int) : TT := if 0 ≤ x then St.getD x.toNat zeroT else zeroT
/-- a variable that stands for something. -/
def bnd (St : List TT) (t : TT) : Prop := t.k = 7 ∧ (stA St t.vr).k ≠ 0
instance (St : List TT) (t : TT) : Decidable (bnd St t) := by unfold bnd; infer_instance
/-- x stands in t. -/
def Vin (x : Int) (t : TT) : Prop := x ∈ varsT t []
/-- all that is held is as it may be, and no variable stands for itself through others. -/
structure StOk (St : List TT) (rk : Int → Nat) : Prop where
  len : St.length ≤ 2000
  shp : ∀ x, (stA St x).k ≠ 0 → shp (stA St x) = true
  rank : ∀ x y, (stA St x).k ≠ 0 → Vin y (stA St x) → rk y < rk x
mutual
/-- one more than the highest rank of what stands in a type. -/
def rkT (rk : Int → Nat) : TT → Nat
  | .mk k _ vr args => max (if k = 7 then rk vr + 1 else 0) (rkL rk args)
def rkL (rk : Int → Nat) : List TT → Nat
  | [] => 0
  | a :: r => max (rkT rk a) (rkL rk r)
end
theorem rkT_eq (rk : Int → Nat) (V : TT) : rkT rk V = max (if V.k = 7 then rk V.vr + 1 else 0) (rkL rk V.args) := by cases V; rw [rkT]; rfl
theorem rkL_mem (rk : Int → Nat) : ∀ {l : List TT} {a : TT}, a ∈ l → rkT rk a ≤ rkL rk l
  | b :: l, a, h => by
    rw [rkL]
    rcases List.mem_cons.1 h with rfl | h
    · omega
    · have := rkL_mem rk h; omega
theorem rkT_arg (rk : Int → Nat) {V a : TT} (h : a ∈ V.args) : rkT rk a ≤ rkT rk V := by
  rw [rkT_eq rk V]; have := rkL_mem rk h; omega
mutual
/-- the variables of a type without those of before: by membership. -/
theorem varsT_mem : ∀ (V : TT) (l : List Int) (x : Int), x ∈ varsT V l ↔ x ∈ l ∨ Vin x V
  | .mk k nm vr args, l, x => by
    unfold Vin
    rw [varsT_eq, varsT_eq]
    show x ∈ varsL args (if k = 7 then addV l vr else l) ↔ x ∈ l ∨ x ∈ varsL args (if k = 7 then addV [] vr else [])
    rw [varsL_mem args _ x, varsL_mem args (if k = 7 then addV [] vr else []) x]
    by_cases h7 : k = 7
    · rw [if_pos h7, if_pos h7]
      have e1 : x ∈ addV l vr ↔ x ∈ l ∨ x = vr := by
        unfold addV; split
        · rename_i h; exact ⟨.inl, fun h2 => h2.elim id (fun e => e ▸ h)⟩
        · simp
      have e2 : x ∈ addV [] vr ↔ x = vr := by simp [addV]
      rw [e1, e2, or_assoc]
    · rw [if_neg h7, if_neg h7]; simp
theorem varsL_mem : ∀ (args : List TT) (l : List Int) (x : Int), x ∈ varsL args l ↔ x ∈ l ∨ ∃ a ∈ args, Vin x a
  | [], l, x => by rw [varsL]; simp
  | a :: r, l, x => by
    rw [varsL, varsL_mem r _ x, varsT_mem a l x, or_assoc]
    simp
end
theorem vin_eq (x : Int) (V : TT) : Vin x V ↔ (V.k = 7 ∧ x = V.vr) ∨ ∃ a ∈ V.args, Vin x a := by
  unfold Vin
  rw [varsT_eq, varsL_mem]
  by_cases h7 : V.k = 7
  · rw [if_pos h7]
    simp [addV, h7, Vin]
  · rw [if_neg h7]; simp [h7, Vin]
mutual
theorem rkT_le (rk : Int → Nat) (n : Nat) : ∀ V : TT, (∀ x, Vin x V → rk x < n) → rkT rk V ≤ n
  | .mk k nm vr args, h => by
    rw [rkT_eq]
    have h1 := rkL_le rk n args (fun a ha x hx => h x ((vin_eq _ _).2 (.inr ⟨a, ha, hx⟩)))
    have h2 : (if k = 7 then rk vr + 1 else 0) ≤ n := by
      split
      · rename_i h7; have := h vr ((vin_eq _ _).2 (.inl ⟨h7, rfl⟩)); omega
      · omega
    show max (if k = 7 then rk vr + 1 else 0) (rkL rk args) ≤ n
    omega
theorem rkL_le (rk : Int → Nat) (n : Nat) : ∀ l : List TT, (∀ a ∈ l, ∀ x, Vin x a → rk x < n) → rkL rk l ≤ n
  | [], _ => by rw [rkL]; omega
  | a :: r, h => by
    rw [rkL]
    have h1 := rkT_le rk n a (h a (by simp))
    have h2 := rkL_le rk n r (fun b hb => h b (List.mem_cons_of_mem _ hb))
    omega
end
/-- what a bound variable stands for ranks lower. -/
theorem rk_step {St : List TT} {rk : Int → Nat} (h : StOk St rk) {t : TT} (hb : bnd St t) : rkT rk (stA St t.vr) < rkT rk t := by
  have h1 := rkT_le rk (rk t.vr) (stA St t.vr) (fun x hx => h.rank t.vr x hb.2 hx)
  rw [rkT_eq rk t, if_pos hb.1]; omega
/-- the variable v, that stands for nothing, is met in what t stands for. -/
inductive Occ (St : List TT) (v : Int) : TT → Prop
  | here {t : TT} : t.k = 7 → ¬ bnd St t → t.vr = v → Occ St v t
  | step {t : TT} : bnd St t → Occ St v (stA St t.vr) → Occ St v t
  | arg {t a : TT} : t.k ≠ 7 → a ∈ t.args → Occ St v a → Occ St v t
theorem occ_vin {St : List TT} {v : Int} {t : TT} (hsh : shp t = true) (h : Occ St v t) : ∃ y, Vin y t ∧ Occ St v (varT y) := by
  revert hsh
  induction h with
  | @here t h7 hb hv =>
    intro hsh
    exact ⟨t.vr, (vin_eq _ _).2 (.inl ⟨h7, rfl⟩), .here rfl (fun h => hb ⟨h7, h.2⟩) hv⟩
  | @step t hb ho _ =>
    intro hsh
    exact ⟨t.vr, (vin_eq _ _).2 (.inl ⟨hb.1, rfl⟩), .step ⟨rfl, hb.2⟩ ho⟩
  | @arg t a h7 ha ho ih =>
    intro hsh
    rw [shp_eq, Bool.and_eq_true] at hsh
    obtain ⟨y, hy, hoy⟩ := ih ((shpL_all _).1 hsh.2 a ha)
    exact ⟨y, (vin_eq _ _).2 (.inr ⟨a, ha, hy⟩), hoy⟩
theorem vin_occ {St : List TT} {v : Int} : ∀ (n : Nat) (t : TT) (y : Int), nodes t ≤ n → shp t = true → Vin y t → Occ St v (varT y) → Occ St v t := by
  intro n
  induction n with
  | zero => intro t y hn; have := nodes_eq t; omega
  | succ n ih =>
    intro t y hn hsh hy ho
    rcases (vin_eq _ _).1 hy with ⟨h7, rfl⟩ | ⟨a, ha, hya⟩
    · cases ho with
      | here _ hb hv => exact .here h7 (fun h => hb ⟨rfl, h.2⟩) hv
      | step hb ho => exact .step ⟨h7, hb.2⟩ ho
      | arg h7' ha _ => exact absurd rfl h7'
    · have h7 : t.k ≠ 7 := fun h7 => by have := (shp_var hsh h7).1; rw [this] at ha; cases ha
      rw [shp_eq, Bool.and_eq_true] at hsh
      have hlt : nodes a ≤ n := by
        have h1 := nodes_eq t
        have h2 : nodes a ≤ nodesL t.args := by
          clear hn h1 hy hya h7 hsh ih ho
          generalize t.args = l at ha
          induction l with
          | nil => cases ha
          | cons b r ih =>
            rw [nodesL]
            rcases List.mem_cons.1 ha with rfl | h
            · omega
            · have := ih h; omega
        omega
      exact .arg h7 ha (ih a y hlt ((shpL_all _).1 hsh.2 a ha) hya ho)
/-- v, that stood for nothing, stands for t: v does not occur in it. -/
theorem stand_ok {St St' : List TT} {rk : Int → Nat} {v : Int} {t : TT} (h : StOk St rk) (hl : St'.length ≤ 2000) (hsh : shp t = true) (hv : (stA St v).k = 0) (hno : ¬ Occ St v t)
    (h1 : stA St' v = t) (h2 : ∀ x, x ≠ v → stA St' x = stA St x) : ∃ rk', StOk St' rk' := by
  classical
  refine ⟨fun x => if Occ St v (varT x) then rk x + (rkT rk t + 1) else rk x, hl, fun x hx => ?_, fun x y hx hy => ?_⟩
  · by_cases e : x = v
    · rw [e, h1]; exact hsh
    · rw [h2 x e] at hx ⊢; exact h.shp x hx
  · by_cases e : x = v
    · subst e
      rw [h1] at hy
      have hov : Occ St x (varT x) := .here rfl (fun hb => hb.2 hv) rfl
      have hny : ¬ Occ St x (varT y) := fun ho => hno (vin_occ _ t y (Nat.le_refl _) hsh hy ho)
      rw [if_neg hny, if_pos hov]
      have : rk y < rkT rk t := by
        clear hov hny h1 h2 hx hno
        revert hy
        refine TT.rec (motive_1 := fun t => Vin y t → rk y < rkT rk t) (motive_2 := fun l => (∃ a ∈ l, Vin y a) → rk y < rkL rk l) ?_ ?_ ?_ t
        · intro k nm vr args ih hy
          rw [rkT_eq]
          rcases (vin_eq _ _).1 hy with ⟨h7, hyv⟩ | hy
          · have h7 : k = 7 := h7
            have hyv : y = vr := hyv
            show rk y < max (if k = 7 then rk vr + 1 else 0) _
            rw [if_pos h7, hyv]; omega
          · have := ih hy
            show rk y < max _ (rkL rk args)
            omega
        · rintro ⟨a, ha, -⟩; cases ha
        · intro a l ia il ⟨b, hb, hy⟩
          rw [rkL]
          rcases List.mem_cons.1 hb with rfl | hb
          · have := ia hy; omega
          · have := il ⟨b, hb, hy⟩; omega
      omega
    · rw [h2 x e] at hx hy
      have hlt := h.rank x y hx hy
      by_cases hoy : Occ St v (varT y)
      · have hox : Occ St v (varT x) := .step ⟨rfl, hx⟩ (vin_occ _ _ y (Nat.le_refl _) (h.shp x hx) hy hoy)
        rw [if_pos hoy, if_pos hox]; omega
      · rw [if_neg hoy]
        split <;> omega
end Go.Proofs.YtdkfimejabanlaaDoor
