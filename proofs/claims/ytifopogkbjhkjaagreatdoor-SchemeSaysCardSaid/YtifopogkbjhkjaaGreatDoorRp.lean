import Derived.Test.YtifopogkbjhkjaaGreatDoorSf
import Derived.Test.YtifopogkbjhkjaaGreatDoorVt
namespace Go.Proofs.YtifopogkbjhkjaaGreatDoor
open Go.ChangeShapes Go.WideShapes Go.ChangeAt Go.RowKit Go.WideMaps
set_option linter.unusedVariables false
set_option linter.unusedSimpArgs false
/-- a type whose variables are called otherwise. -/
def renT (f : Int → Option Int) : TT → TT
  | .mk k nm vr args => if k = 7 ∧ (f vr).isSome = true then varT ((f vr).getD 0) else .mk k nm vr (renL f args)
where renL (f : Int → Option Int) : List TT → List TT
  | [] => []
  | a :: l => renT f a :: renL f l
theorem renL_map (f : Int → Option Int) : ∀ l : List TT, renT.renL f l = l.map (renT f)
  | [] => by rw [renT.renL]; rfl
  | a :: l => by rw [renT.renL, renL_map f l]; rfl
theorem renT_var {f : Int → Option Int} {V : TT} {y : Int} (h : V.k = 7) (hy : f V.vr = some y) : renT f V = varT y := by
  cases V with | mk k nm vr args => rw [renT]; rw [if_pos ⟨h, by rw [show f vr = some y from hy]; rfl⟩, show f vr = some y from hy]; rfl
theorem renT_not {f : Int → Option Int} {V : TT} (h : ¬ (V.k = 7 ∧ (f V.vr).isSome = true)) : renT f V = .mk V.k V.nm V.vr (V.args.map (renT f)) := by
  cases V with | mk k nm vr args => rw [renT]; have h2 : ¬ (k = 7 ∧ (f vr).isSome = true) := h; rw [if_neg h2, renL_map]; rfl
theorem addV_sub {l : List Int} {x : Int} : ∀ y ∈ l, y ∈ addV l x := fun y hy => by
  unfold addV; split
  · exact hy
  · exact List.mem_append_left _ hy
theorem addV_mem {l : List Int} {x : Int} : x ∈ addV l x := by
  unfold addV; split
  · assumption
  · simp
mutual
theorem varsT_sub : ∀ (V : TT) (l : List Int), ∀ y ∈ l, y ∈ varsT V l
  | .mk k nm vr args, l, y, hy => by
    rw [varsT_eq]
    refine varsL_sub args _ y ?_
    show y ∈ (if k = 7 then addV l vr else l)
    split
    · exact addV_sub y hy
    · exact hy
theorem varsL_sub : ∀ (args : List TT) (l : List Int), ∀ y ∈ l, y ∈ varsL args l
  | [], l, y, hy => by rw [varsL]; exact hy
  | a :: r, l, y, hy => by rw [varsL]; exact varsL_sub r _ y (varsT_sub a l y hy)
end
theorem mem_map_inj {g : Int → Int} {l : List Int} {x : Int} (hi : ∀ y ∈ l, g y = g x → y = x) : g x ∈ l.map g ↔ x ∈ l := by
  rw [List.mem_map]
  exact ⟨fun ⟨y, hy, e⟩ => hi y hy e ▸ hy, fun h => ⟨x, h, rfl⟩⟩
theorem addV_map {g : Int → Int} {l : List Int} {x : Int} (hi : ∀ y ∈ l, g y = g x → y = x) : addV (l.map g) (g x) = (addV l x).map g := by
  unfold addV
  by_cases h : x ∈ l
  · rw [if_pos h, if_pos ((mem_map_inj hi).2 h)]
  · rw [if_neg h, if_neg (fun e => h ((mem_map_inj hi).1 e)), List.map_append]; rfl
theorem posV_map {g : Int → Int} : ∀ {l : List Int} {x : Int}, (∀ y ∈ l, g y = g x → y = x) → posV (l.map g) (g x) = posV l x
  | [], x, _ => rfl
  | a :: r, x, hi => by
    simp only [List.map_cons, posV]
    by_cases h : a = x
    · rw [if_pos h, if_pos (by rw [h])]
    · rw [if_neg h, if_neg (fun e => h (hi a (by simp) e)), posV_map (fun y hy => hi y (List.mem_cons_of_mem _ hy))]
/-- a type whose variables are called otherwise, unlike ones unlike. -/
def RenOk (f : Int → Option Int) (g : Int → Int) (P : Int → Prop) : Prop := (∀ x, P x → (f x).getD x = g x) ∧ ∀ x y, P x → P y → g x = g y → x = y
theorem renT_7 {f : Int → Option Int} {g : Int → Int} {P : Int → Prop} (hr : RenOk f g P) {V : TT} (h : shp V = true) (h7 : V.k = 7) (hp : P V.vr) : renT f V = varT (g V.vr) := by
  obtain ⟨ha, hn⟩ := shp_var h h7
  have hg := hr.1 _ hp
  cases hf : f V.vr with
  | some y => rw [renT_var h7 hf]; rw [hf] at hg; exact congrArg varT hg
  | none =>
    rw [renT_not (by rw [hf]; simp), h7, hn, ha, ← hg, hf]; rfl
mutual
theorem ren_txt {f : Int → Option Int} {g : Int → Int} {P : Int → Prop} (hr : RenOk f g P) : ∀ (V : TT) (l : List Int), shp V = true → (∀ x ∈ varsT V l, P x) → txt (renT f V) (l.map g) = txt V l ∧ varsT (renT f V) (l.map g) = (varsT V l).map g
  | .mk k nm vr args, l, h, hp => by
    by_cases h7 : k = 7
    · obtain ⟨ha, hn⟩ := shp_var h h7
      have ha : args = [] := ha
      have hn : nm = ⟨#[]⟩ := hn
      subst h7 ha hn
      have hv : varsT (.mk 7 ⟨#[]⟩ vr []) l = addV l vr := by rw [varsT_eq]; show varsL [] (if (7 : Int) = 7 then addV l vr else l) = _; rw [if_pos rfl, varsL]
      rw [hv] at hp ⊢
      have hi : ∀ y ∈ l, g y = g vr → y = vr := fun y hy e => hr.2 y vr (hp y (addV_sub y hy)) (hp vr addV_mem) e
      rw [renT_7 hr h rfl (hp vr addV_mem)]
      refine ⟨?_, ?_⟩
      · rw [txt_eq, txt_eq]
        show letT (posV (addV (l.map g) (g vr)) (g vr) + 1) = letT (posV (addV l vr) vr + 1)
        rw [addV_map hi, posV_map (fun y hy e => hr.2 y vr (hp y hy) (hp vr addV_mem) e)]
      · rw [varsT_eq]
        show varsL [] (if (7 : Int) = 7 then addV (l.map g) (g vr) else _) = _
        rw [if_pos rfl, varsL]; exact addV_map hi
    · have hv : varsT (.mk k nm vr args) l = varsL args l := by rw [varsT_eq]; show varsL args (if k = 7 then _ else l) = _; rw [if_neg h7]
      rw [hv] at hp ⊢
      rw [shp_eq, Bool.and_eq_true] at h
      have hL := ren_txtL hr args l h.2 hp
      rw [renT_not (V := .mk k nm vr args) (fun e => h7 e.1)]
      refine ⟨?_, ?_⟩
      · rw [txt_eq, txt_eq]
        show (if k = 1 then _ else if k = 2 then _ else if k = 3 then _ else if k = 4 then nm else if k = 5 then _ ++ txtL true _ (args.map (renT f)) (l.map g) ++ _ else if k = 6 then _ ++ txtL true _ (args.map (renT f)) (l.map g) ++ _ else _) = (if k = 1 then _ else if k = 2 then _ else if k = 3 then _ else if k = 4 then nm else if k = 5 then _ ++ txtL true _ args l ++ _ else if k = 6 then _ ++ txtL true _ args l ++ _ else _)
        rw [(hL true _).1, (hL true _).1]
        have hk := head_var h.1
        have hk1 : 1 ≤ k := hk.2.2.1
        have hk7 : k ≤ 7 := hk.2.2.2.1
        repeat' split
        all_goals first | rfl | omega
      · rw [varsT_eq]
        show varsL (args.map (renT f)) (if k = 7 then _ else l.map g) = _
        rw [if_neg h7]; exact (hL true ⟨#[]⟩).2
theorem ren_txtL {f : Int → Option Int} {g : Int → Int} {P : Int → Prop} (hr : RenOk f g P) : ∀ (args : List TT) (l : List Int), shpL args = true → (∀ x ∈ varsL args l, P x) → ∀ (first : Bool) (btw : ByteArray), txtL first btw (args.map (renT f)) (l.map g) = txtL first btw args l ∧ varsL (args.map (renT f)) (l.map g) = (varsL args l).map g
  | [], l, _, _, first, btw => by simp [txtL, varsL]
  | a :: r, l, h, hp, first, btw => by
    rw [shpL, Bool.and_eq_true] at h
    rw [varsL] at hp
    have h1 := ren_txt hr a l h.1 (fun x hx => hp x (varsL_sub r _ x hx))
    have h2 := ren_txtL hr r (varsT a l) h.2 hp false btw
    simp only [List.map_cons, txtL, varsL]
    rw [h1.1, h1.2, h2.1, h2.2]
    exact ⟨rfl, rfl⟩
end
/-- the text stays. -/
theorem ren_show {f : Int → Option Int} {g : Int → Int} {P : Int → Prop} (hr : RenOk f g P) {V : TT} (h : shp V = true) (hp : ∀ x ∈ varsOf V, P x) : showT (renT f V) = showT V ∧ varsOf (renT f V) = (varsOf V).map g := ren_txt hr V [] h hp
end Go.Proofs.YtifopogkbjhkjaaGreatDoor
