import Derived.Test.YtdkfimejabanlaaDoorYu
import Derived.Test.YtdkfimejabanlaaDoorSf
namespace Go.Proofs.YtdkfimejabanlaaDoor
open DR
open Go.ChangeShapes Go.WideShapes Go.ChangeAt Go.RowKit Go.WideMaps
set_option linter.unusedVariables false
set_option linter.unusedSimpArgs false
theorem uniL_comm {f : US → TT → TT → Int × US} (hf : ∀ u a b, f u a b = f u b a) : ∀ (l r : List TT) (u : US), uniL f l r u = uniL f r l u
  | [], [], u => rfl
  | [], _ :: _, u => rfl
  | _ :: _, [], u => rfl
  | a :: l, b :: r, u => by
    rw [uniL, uniL, hf u b a]
    split
    · exact uniL_comm hf l r _
    · rfl
/-- which of two types comes first decides nothing. -/
theorem uniF_comm : ∀ (d : Nat) (u : US) (a b : TT), uniF d u a b = uniF d u b a
  | 0, u, a, b => rfl
  | d + 1, u, a, b => by
    rw [uniF, uniF]
    by_cases h5 : 500 < fsz u.st a ∨ 500 < fsz u.st b
    · rw [if_pos h5, if_pos h5.symm]
    have h5' : ¬ (500 < fsz u.st b ∨ 500 < fsz u.st a) := fun h => h5 h.symm
    rw [if_neg h5, if_neg h5']
    by_cases a7 : (resF u.st a).k = 7
    · by_cases b7 : (resF u.st b).k = 7
      · rw [if_pos a7, if_pos b7, if_pos b7, if_pos a7]
        by_cases h1 : (resF u.st b).vr < (resF u.st a).vr
        · have h2 : ¬ (resF u.st a).vr < (resF u.st b).vr := by omega
          rw [if_pos h1, if_neg h2, if_pos h1]
        · rw [if_neg h1]
          by_cases h2 : (resF u.st a).vr < (resF u.st b).vr
          · rw [if_pos h2, if_pos h2]
          · rw [if_neg h2, if_neg h2, if_neg h1]
      · rw [if_pos a7, if_neg b7, if_neg b7, if_pos a7]
    · by_cases b7 : (resF u.st b).k = 7
      · rw [if_neg a7, if_pos b7, if_pos b7, if_neg a7]
      · rw [if_neg a7, if_neg b7, if_neg b7, if_neg a7]
        by_cases hk : (resF u.st a).k ≠ (resF u.st b).k ∨ (resF u.st a).nm ≠ (resF u.st b).nm
        · have hk' : (resF u.st b).k ≠ (resF u.st a).k ∨ (resF u.st b).nm ≠ (resF u.st a).nm := hk.imp Ne.symm Ne.symm
          rw [if_pos hk, if_pos hk']
        · have hk' : ¬ ((resF u.st b).k ≠ (resF u.st a).k ∨ (resF u.st b).nm ≠ (resF u.st a).nm) := fun h => hk (h.imp Ne.symm Ne.symm)
          rw [if_neg hk, if_neg hk']
          exact uniL_comm (fun u a b => uniF_comm d u a b) _ _ _
theorem uniG_comm (St : List TT) (a b : TT) : uniG St a b = uniG St b a := by
  have hq : uniQ St a b = uniQ St b a := uniF_comm _ _ a b
  unfold uniG
  by_cases h : goodT a = true ∧ goodT b = true
  · rw [if_pos h, if_pos h.symm, hq]
  · rw [if_neg h, if_neg (fun e => h e.symm)]
/-! ### how long a text is -/
theorem txt_nodes : ∀ (d : Nat) (V : TT) (l : List Int), bigT d V = false → shp V = true → (varsT V l).length ≤ 99 → (txt V l).size ≤ 33 * nodes V + 27
  | 0, V, l, hb, _, _ => by cases hb
  | d + 1, V, l, hb, hs, hn => by
    obtain ⟨-, hnm, b3⟩ := bigT_parts hb
    rw [shp_eq, Bool.and_eq_true] at hs
    obtain ⟨a2, a7⟩ := args_two hs.1
    obtain ⟨-, -, k0, k7, -⟩ := head_var hs.1
    have hall := (shpL_all _).1 hs.2
    have hnd := nodes_eq V
    have hL : ∀ (btw : ByteArray), btw.size ≤ 4 → (V.k ≠ 7) → (txtL true btw V.args l).size ≤ 33 * nodesL V.args + 58 ∧ (V.args.length ≤ 1 → (txtL true btw V.args l).size ≤ 33 * nodesL V.args + 27) := by
      intro btw hbt h7
      rw [varsT_eq, if_neg h7] at hn
      match hA : V.args, a2, b3, hall, hn with
      | [], _, _, _, _ => rw [txtL]; exact ⟨Nat.zero_le _, fun _ => Nat.zero_le _⟩
      | [a], _, b3, hall, hn =>
        rw [varsL, varsL] at hn
        have h1 := txt_nodes d a l (b3 a (by simp)) (hall a (by simp)) hn
        rw [txtL, txtL, ByteArray.size_append, ByteArray.size_append, nodesL, nodesL]
        show (0 + _) + 0 ≤ _ ∧ (_ → (0 + _) + 0 ≤ _)
        omega
      | [a, b], _, b3, hall, hn =>
        rw [varsL, varsL, varsL] at hn
        have hg := varsT_ge b (varsT a l)
        have h1 := txt_nodes d a l (b3 a (by simp)) (hall a (by simp)) (by omega)
        have h2 := txt_nodes d b (varsT a l) (b3 b (by simp)) (hall b (by simp)) hn
        rw [txtL, txtL, txtL, ByteArray.size_append, ByteArray.size_append, ByteArray.size_append, ByteArray.size_append, nodesL, nodesL, nodesL]
        refine ⟨?_, fun h => by simp at h⟩
        show (0 + _) + ((btw.size + _) + 0) ≤ _
        omega
      | a :: b :: c :: r, a2, _, _, _ => simp at a2
    rw [txt_eq]
    split
    · show 3 ≤ _; omega
    split
    · show 4 ≤ _; omega
    split
    · show 4 ≤ _; omega
    split
    · omega
    split
    · have := (hL ⟨#[32, 45, 62, 32]⟩ (by show 4 ≤ 4; omega) (by omega)).1
      rw [ByteArray.size_append, ByteArray.size_append]
      show (1 + _) + 1 ≤ _
      omega
    split
    · have h6 : V.k = 6 := by assumption
      have hlen : V.args.length ≤ 1 := by
        have h := (head_var hs.1).2.2.2.2
        rw [h6] at h
        have h : (V.args.length : Int) = 1 := h
        omega
      have := (hL ⟨#[]⟩ (by show 0 ≤ 4; omega) (by omega)).2 hlen
      rw [ByteArray.size_append, ByteArray.size_append]
      show (1 + _) + 5 ≤ _
      omega
    · have h7 : V.k = 7 := by omega
      rw [varsT_eq, if_pos h7, a7 h7, varsL] at hn
      have hmemx : V.vr ∈ addV l V.vr := by unfold addV; split <;> simp_all
      have hpl := posV_lt hmemx
      have := let_size (posV (addV l V.vr) V.vr + 1) (by omega)
      omega

theorem nodes_appG {St : List TT} (h : SInv2 St) : ∀ (d : Nat) (V : TT), bigT (d + 1) V = false → shp V = true → nodes (apvF St V) + 1 ≤ 501 * 2 ^ d := by
  obtain ⟨rk, hr⟩ := h.inv.ok
  intro d
  induction d with
  | zero =>
    intro V hb hs
    obtain ⟨-, -, h3⟩ := bigT_parts hb
    have hargs : V.args = [] := by
      cases hA : V.args with
      | nil => rfl
      | cons a r => have := h3 a (by rw [hA]; simp); cases this
    by_cases h7 : V.k = 7
    · rw [nodes_app hr V hs]
      obtain ⟨x, hx, rfl⟩ := shp_isvar hs h7
      have := h.sz x hx
      omega
    · rw [app_eq hr hs, resF_stop hr (fun e => h7 e.1), hargs]
      show 1 + 0 + 1 ≤ _
      omega
  | succ d ih =>
    intro V hb hs
    obtain ⟨-, -, h3⟩ := bigT_parts hb
    have hp : 2 ^ (d + 1) = 2 * 2 ^ d := by rw [Nat.pow_succ]; omega
    have hp1 : 1 ≤ 2 ^ d := Nat.one_le_pow _ _ (by omega)
    by_cases h7 : V.k = 7
    · rw [nodes_app hr V hs]
      obtain ⟨x, hx, rfl⟩ := shp_isvar hs h7
      have := h.sz x hx
      omega
    · obtain ⟨-, a2, hall⟩ := shp_head hs
      rw [app_eq hr hs, resF_stop hr (fun e => h7 e.1), nodes]
      match hA : V.args, a2, h3, hall with
      | [], _, _, _ => simp [nodesL]; omega
      | [a], _, h3, hall =>
        have h1 := ih a (h3 a (by simp)) (hall a (by simp))
        simp only [List.map_cons, List.map_nil, nodesL]
        omega
      | [a, b], _, h3, hall =>
        have h1 := ih a (h3 a (by simp)) (hall a (by simp))
        have h2 := ih b (h3 b (by simp)) (hall b (by simp))
        simp only [List.map_cons, List.map_nil, nodesL]
        omega
      | a :: b :: c :: r, a2, _, _ => simp at a2
/-! ### how many variables -/
theorem addV_nodup {l : List Int} (h : l.Nodup) (x : Int) : (addV l x).Nodup := by
  unfold addV
  split
  · exact h
  · rename_i hx
    rw [List.nodup_append]
    refine ⟨h, by simp, fun a ha b hb e => ?_⟩
    rw [List.mem_singleton] at hb
    subst e; subst hb; exact hx ha
theorem varsT_nodup (V : TT) : ∀ l : List Int, l.Nodup → (varsT V l).Nodup := by
  refine TT.rec (motive_1 := fun V => ∀ l : List Int, l.Nodup → (varsT V l).Nodup) (motive_2 := fun r => ∀ l : List Int, l.Nodup → (varsL r l).Nodup) ?_ ?_ ?_ V
  · intro k nm vr args ih l h
    rw [varsT]
    refine ih _ ?_
    split
    · exact addV_nodup h _
    · exact h
  · intro l h; rw [varsL]; exact h
  · intro a r ia ir l h
    rw [varsL]; exact ir _ (ia l h)
theorem nodup_le : ∀ (l L : List Int), l.Nodup → (∀ x ∈ l, x ∈ L) → l.length ≤ L.length
  | [], L, _, _ => Nat.zero_le _
  | a :: l, L, h, hs => by
    rw [List.nodup_cons] at h
    have ha := hs a (by simp)
    have h1 := nodup_le l (L.erase a) h.2 (fun x hx => (List.mem_erase_of_ne (fun (e : x = a) => h.1 (by rw [← e]; exact hx))).2 (hs x (List.mem_cons_of_mem _ hx)))
    have h2 := List.length_erase_of_mem ha
    have h3 := List.length_pos_of_mem ha
    rw [List.length_cons]
    omega
/-- all its variables are of L. -/
def VSub (L : List Int) (V : TT) : Prop := ∀ y, Vin y V → y ∈ L
theorem vsub_args {L : List Int} : ∀ V, VSub L V → ∀ a ∈ V.args, VSub L a := fun V h a ha y hy => h y ((vin_eq _ _).2 (.inr ⟨a, ha, hy⟩))
theorem vsub_app {L : List Int} {St : List TT} {rk : Int → Nat} (hst : StOk St rk) (hs : ∀ x, (stA St x).k ≠ 0 → VSub L (stA St x)) : ∀ t, shp t = true → VSub L t → VSub L (apvF St t) := by
  refine res_ind hst ?_
  suffices H : ∀ t, shp t = true → (∀ a ∈ (resF St t).args, VSub L a → VSub L (apvF St a)) → VSub L t → VSub L (apvF St t) from H
  intro t ht ih hv y hy
  have hT : VSub L (resF St t) := res_her hs (resF_res hst t) hv
  rw [app_eq hst ht, vin_eq] at hy
  rcases hy with ⟨h7, e⟩ | ⟨a, ha, hya⟩
  · exact hT y ((vin_eq _ _).2 (.inl ⟨h7, e⟩))
  · obtain ⟨b, hb, rfl⟩ := List.mem_map.1 ha
    exact ih b hb (vsub_args _ hT b hb) y hya
/-- what is shown behind one unification of small types. -/
theorem order_show {a b : TT} (ha : bigT 6 a = false) (hb : bigT 6 b = false) (ga : goodT a = true) (gb : goodT b = true) (he : (uniG [] a b).1 = 0) :
    bigT 506 (apvF (uniG [] a b).2 a) = false ∧ shp (apvF (uniG [] a b).2 a) = true ∧ (varsT (apvF (uniG [] a b).2 a) []).length ≤ 99 ∧ (txt (apvF (uniG [] a b).2 a) []).size ≤ 900000 := by
  have sa := good_shp ga
  have sb := good_shp gb
  have hI := uniG_inv2 sinv2_nil (a := a) (b := b) ⟨_, ha⟩ ⟨_, hb⟩
  obtain ⟨rk, hr⟩ := hI.inv.ok
  have h1 := big_app hI 6 a ha sa
  have h2 := app_shp hr a sa
  have hL : (varsT b (varsT a [])).length ≤ 64 := by
    have e1 := vars_few 5 a [] ha sa
    have e2 := vars_few 5 b (varsT a []) hb sb
    simp only [List.length_nil] at e1
    omega
  have hVa : VSub (varsT b (varsT a [])) a := fun y hy => (varsT_mem b _ y).2 (.inl hy)
  have hVb : VSub (varsT b (varsT a [])) b := fun y hy => (varsT_mem b _ y).2 (.inr hy)
  have h0 : ∀ x, (stA [] x).k ≠ 0 → VSub (varsT b (varsT a [])) (stA [] x) := fun x hx => by
    rw [show stA [] x = zeroT by rw [stA_get]; split <;> simp] at hx; exact absurd rfl hx
  have hS : ∀ x, (stA (uniG [] a b).2 x).k ≠ 0 → VSub (varsT b (varsT a [])) (stA (uniG [] a b).2 x) := by
    have hq := uni_her (Q := VSub (varsT b (varsT a []))) vsub_args (2001 * 502) ⟨[], []⟩ a b sinv_nil.u sa sb h0 hVa hVb
    have hu := undo_same sinv_nil sa sb
    intro x hx
    revert hx he
    unfold uniG
    rw [if_pos ⟨ga, gb⟩]
    split
    · split
      · intro he; cases he
      · intro _ hx; exact hq x hx
    · rename_i hne
      intro he; exact absurd he hne
  have hv := vsub_app hr hS a sa hVa
  have h3 : (varsT (apvF (uniG [] a b).2 a) []).length ≤ 64 := Nat.le_trans (nodup_le _ _ (varsT_nodup _ [] (by simp)) (fun x hx => hv x hx)) hL
  have h4 := nodes_appG hI 5 a ha sa
  have h5 := txt_nodes _ _ [] h1 h2 (by omega)
  exact ⟨h1, h2, by omega, by omega⟩
set_option maxRecDepth 100000 in
set_option maxHeartbeats 2000000 in
theorem show_big {d : Nat} {V : TT} {v : Value} {w : World} (hd : d ≤ 1000) (hbg : bigT d V = false) (hsh : shp V = true) (hvf : (varsT V []).length ≤ 99) (htx : (txt V []).size ≤ 900000) (h : TIn w any0 V v) :
    Calls Tryd.prog 18 #[v] w fun e w' => e = .returned (.string (showT V)) ∧ Below w.heap.size w w' := by
  have hin : TIn w (· < w.heap.size) V v := h.weak (fun b hb _ => hb)
  obtain ⟨A, c, rfl, -⟩ := h
  have CL := Lib.hid (fun W R M (hW : Below w.heap.size w W) (hs : VX w W R M [] ⟨#[]⟩) => write_any d V _ 0 w W R M [] ⟨#[]⟩ hbg hsh (by omega) (by omega) hvf (by show 0 + _ ≤ _; omega) (hin.later hW) hs)
  unfold tv at CL ⊢
  have VN := Lib.hid (vst_new w (w.alloc (.cells #[.int .i64 V.k, .string V.nm, .int .i64 V.vr, .slice A V.args.length c] 27)) (below_alloc w _))
  have hsz : (w.alloc (.cells #[.int .i64 V.k, .string V.nm, .int .i64 V.vr, .slice A V.args.length c] 27)).heap.size = w.heap.size + 1 := by simp
  rw [hsz] at VN
  have HB3 := Lib.hid (bt (below_alloc w (.cells #[.int .i64 V.k, .string V.nm, .int .i64 V.vr, .slice A V.args.length c] 27)) (bt (below_alloc _ (.map #[] 0)) (below_alloc _ (.cells #[.map (some (w.heap.size + 1)), .slice none 0 0, .slice none 0 0] 69))))
  have hmm := @run_makeMap Tryd.prog
  have HX := Lib.hid (show (⟨#[]⟩ : ByteArray) ++ txt V [] = showT V by unfold showT; rw [show (⟨#[]⟩ : ByteArray) = ByteArray.empty from rfl, ByteArray.empty_append])
  obtain ⟨T, hT⟩ : ∃ T, T = showT V := ⟨_, rfl⟩
  rw [← hT] at HX ⊢
  clear hbg hsh hin hsz hvf htx hT
  go_enter Tryd.func18, Tryd.ntmps18
  go_wp2_with fail
  refine (CL.out _ _ _ HB3.out VN.out).mono ?_; rintro e w2 ⟨rfl, s2, k2⟩
  have V2 := Lib.hid (show VX w w2 (w.heap.size + 1 + 1) (w.heap.size + 1) (varsT V []) T by rw [← HX.out]; exact s2.out)
  have BB := Lib.hid V2.out.base
  obtain ⟨A2, c2, z2, own2, hB2, -⟩ := vx_open V2.out
  have hcv := conv_row own2
  clear s2 k2 CL VN own2
  go_wp2
  go_ret
  exact ⟨rfl, BB.out⟩
end Go.Proofs.YtdkfimejabanlaaDoor
