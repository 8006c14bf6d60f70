import Derived.Test.YtifopogkbjhkjaaGreatDoorTm
namespace Go.Proofs.YtifopogkbjhkjaaGreatDoor
open Go.ChangeShapes Go.WideShapes Go.ChangeAt Go.RowKit Go.WideMaps
set_option linter.unusedVariables false
set_option linter.unusedSimpArgs false
mutual
def varsT : TT → List Int → List Int
  | .mk k _ vr args, l => varsL args (if k = 7 then addV l vr else l)
def varsL : List TT → List Int → List Int
  | [], l => l
  | a :: r, l => varsL r (varsT a l)
end
theorem varsT_eq (V : TT) (l : List Int) : varsT V l = varsL V.args (if V.k = 7 then addV l V.vr else l) := by cases V; rw [varsT]; rfl
theorem addV_len (l : List Int) (x : Int) : (addV l x).length ≤ l.length + 1 ∧ l.length ≤ (addV l x).length := by unfold addV; split <;> simp
theorem varsT_len (V : TT) : ∀ l : List Int, (varsT V l).length ≤ l.length + nodes V := by
  refine TT.rec (motive_1 := fun V => ∀ l : List Int, (varsT V l).length ≤ l.length + nodes V) (motive_2 := fun r => ∀ l : List Int, (varsL r l).length ≤ l.length + nodesL r) ?_ ?_ ?_ V
  · intro k nm vr args ih l
    rw [varsT, nodes]
    have h := ih (if k = 7 then addV l vr else l)
    have h2 := addV_len l vr
    split at h <;> (rename_i hk; simp only [hk, if_true, if_false] at h ⊢; omega)
  · intro l; rw [varsL, nodesL]; omega
  · intro a r ia ir l
    rw [varsL, nodesL]
    have h1 := ia l
    have h2 := ir (varsT a l)
    omega
theorem varsL_take (args : List TT) (l : List Int) (k : Nat) (h : k < args.length) : varsL (args.take (k + 1)) l = varsT args[k] (varsL (args.take k) l) := by
  induction args generalizing k l with
  | nil => simp at h
  | cons a r ih =>
    cases k with
    | zero => simp [varsL]
    | succ k =>
      simp only [List.take_succ_cons, varsL, List.getElem_cons_succ]
      exact ih _ k (by simpa using h)
theorem varsL_len (args : List TT) : ∀ (l : List Int), (varsL args l).length ≤ l.length + nodesL args := by
  induction args with
  | nil => intro l; rw [varsL, nodesL]; omega
  | cons a r ih =>
    intro l
    rw [varsL, nodesL]
    have h1 := varsT_len a l
    have h2 := ih (varsT a l)
    omega
theorem TRow.movB {w W : World} {P : Nat → Prop} {B : Nat} {A : Option Addr} {l : List TT} (h : TRow w P A l) (hb : Below B w W) (hP : ∀ b, P b → b < B) : TRow W P A l := h.move (fun b _ hp => ⟨hb.block b (hP b hp), hp⟩) hb.size
theorem TIn.movB {w W : World} {P : Nat → Prop} {B : Nat} {V : TT} {v : Value} (h : TIn w P V v) (hb : Below B w W) (hP : ∀ b, P b → b < B) : TIn W P V v := by
  obtain ⟨A, c, h1, h2⟩ := h
  exact ⟨A, c, h1, h2.movB hb hP⟩
def CcI (w0 wB : World) (R M : Nat) (args : List TT) (l1 : List Int) (ts : List Value) (i : Value) (wr : World) : Prop := ∃ k : Nat, k ≤ args.length ∧ i = .int .i64 k ∧ Hid (VSt w0 wr R M (varsL (args.take k) l1) ts) ∧ Hid (KeepT wB wr)
set_option maxRecDepth 100000 in
set_option maxHeartbeats 8000000 in
theorem collect_big : ∀ (d : Nat) (V : TT) (v : Value) (q : Int) (w0 w : World) (R M : Nat) (l : List Int) (ts : List Value), bigT d V = false → shp V = true → 0 ≤ q → q + d ≤ 1000 → l.length + nodes V ≤ 60000 → TIn w (· < w0.heap.size) V v → VSt w0 w R M l ts →
    Calls Tryz.prog 60 #[.pointer (some ⟨R, 0, none⟩), v, .int .i64 q] w fun e w' => e = .returned (.bool true) ∧ Hid (VSt w0 w' R M (varsT V l) ts) ∧ Hid (KeepT w w') := by
  intro d
  induction d with
  | zero => intro V v q w0 w R M l ts h; cases h
  | succ d ih =>
  intro V v q w0 w R M l ts hbg hsh hq0 hq1 hln ⟨A, c, hv, hA⟩ s
  obtain ⟨hl4, -, b3⟩ := bigT_parts hbg
  rw [shp_eq, Bool.and_eq_true] at hsh
  obtain ⟨v0, v1, -, -, -⟩ := head_var hsh.1
  have hall := (shpL_all _).1 hsh.2
  subst hv
  have HI := Lib.hid ih
  have HBG := Lib.hid b3
  have HSH := Lib.hid hall
  unfold tv
  rw [varsT_eq]
  rw [nodes_eq] at hln
  obtain ⟨args, ha⟩ : ∃ l, l = V.args := ⟨_, rfl⟩
  rw [← ha] at hA HBG HSH hl4 hln ⊢
  have HA := Lib.hid hA
  have hle0 : w0.heap.size ≤ w.heap.size := by obtain ⟨_, _, _, b⟩ := s; exact b.size
  have S1 := Lib.hid (s.below (below_alloc w (.cells #[.int .i64 V.k, .string V.nm, .int .i64 V.vr, .slice A args.length c] 24)))
  have HBX := Lib.hid (box4 w V A c args.length 24)
  have hHW : Hid (w.heap.size < (w.alloc (.cells #[.int .i64 V.k, .string V.nm, .int .i64 V.vr, .slice A args.length c] 24)).heap.size) := Lib.hid (by simp)
  have hBXi : w.heap.size < w.heap.size + 1 := by omega
  have dq : decide (131072 < q) = false := decide_eq_false (by omega)
  have wq : IntKind.i64.wrap (q + 1) = q + 1 := IntWalk.i64_in _ (by omega)
  have MT : Hid (∀ (W : World), VSt w0 W R M l ts → Calls Tryz.prog 71 #[.pointer (some ⟨R, 0, none⟩), .int .i64 V.vr] W fun e w' => e = .returned (.int .i64 ((posV (addV l V.vr) V.vr : Nat) + 1 : Int)) ∧ Hid (VSt w0 w' R M (addV l V.vr) ts) ∧ Hid (KeepT W w')) := Lib.hid (fun W hW => meet_any V.vr v0 v1 (by omega) hW)
  have HAZ : Hid (∀ W, Below w0.heap.size w0 W → TRow W (· < w0.heap.size) A args) := Lib.hid (fun W hW => by
    obtain ⟨_, _, _, b⟩ := s
    exact HA.out.moveP (fun k _ hp => ⟨Nat.lt_of_lt_of_le hp hW.size, (hW.block k hp).trans (b.block k hp).symm, hp⟩))
  have KB := Lib.hid (KeepT.below (below_alloc w (.cells #[.int .i64 V.k, .string V.nm, .int .i64 V.vr, .slice A args.length c] 24)))
  by_cases h7 : V.k = 7
  · have q7 : (V.k == 7) = true := by rw [h7]; rfl
    rw [if_pos h7]
    obtain ⟨LL, hLL⟩ : ∃ z, z = addV l V.vr := ⟨_, rfl⟩
    rw [← hLL]
    have HLL := Lib.hid hLL
    have HLN : Hid (∀ k (h : k < args.length), (varsL (args.take k) LL).length + nodes args[k] ≤ 60000) := Lib.hid (fun k h => by
      have g1 := varsL_len (args.take k) LL
      have g2 := nodesL_take args k h
      have g3 := nodesL_take_le args (k + 1)
      have g4 : LL.length ≤ l.length + 1 := by rw [hLL]; exact (addV_len l V.vr).1
      omega)
    clear h7 hLL hA ih hbg b3 ha hall hsh s
    go_enter Tryz.func60, Tryz.ntmps60
    go_wp2_with fail
    refine (MT.out _ S1.out).mono ?_; rintro e w2 ⟨rfl, s2, k2⟩
    have S2 : Hid (VSt w0 w2 R M LL ts) := Lib.hid (by rw [HLL.out]; exact s2.out)
    have KF := Lib.hid (KB.out.trans k2.out)
    obtain ⟨z0, z1, z2, z3⟩ := cell4 (k2.out _ _ HBX.out)
    clear s2 k2 S1 MT
    go_wp2
    go_loopw [21] (fun i wr => CcI w0 w2 R M args LL ts i wr) (fun i _ => args.length - (intOf i).toNat)
    case atStart => exact ⟨0, by omega, rfl, S2, Lib.hid (KeepT.refl _)⟩
    case round =>
      obtain ⟨k, hk, rfl, SR, KR⟩ := hrel
      clear z0 z1 z2 z3
      by_cases hlt : k < args.length
      · have hlti : (k : Int) < (args.length : Int) := by omega
        have hAr : TRow wr (· < w0.heap.size) A args := by
          have hb : Below w0.heap.size w0 wr := by obtain ⟨_, _, _, b⟩ := SR.out; exact b
          exact HAZ.out wr hb
        obtain ⟨b, o, rfl, hb, hr⟩ := hAr.at (by omega)
        obtain ⟨A', c', x0, x1, x2, x3, hin⟩ := hr wr (Below.refl _ _) k hlt
        have hln2 := HLN.out k hlt
        have CALL : Hid (∀ W, Below wr.heap.size wr W → Calls Tryz.prog 60 #[.pointer (some ⟨R, 0, none⟩), .agg #[.int .i64 args[k].k, .string args[k].nm, .int .i64 args[k].vr, .slice A' args[k].args.length c'], .int .i64 (q + 1)] W fun e w' => e = .returned (.bool true) ∧ Hid (VSt w0 w' R M (varsT args[k] (varsL (args.take k) LL)) ts) ∧ Hid (KeepT W w')) := Lib.hid (fun W hW => HI.out args[k] _ (q + 1) w0 W R M _ ts (HBG.out _ (List.getElem_mem hlt)) (HSH.out _ (List.getElem_mem hlt)) (by omega) (by omega) hln2 (hin.later hW) (SR.out.below hW))
        have HT := Lib.hid (varsL_take args LL k hlt)
        clear hr hin hb HI hln2
        go_wp2_with fail
        refine (CALL.out _ (below_alloc wr _)).mono ?_; rintro e w3 ⟨rfl, s3, k3⟩
        have S3 : Hid (VSt w0 w3 R M (varsL (args.take (k + 1)) LL) ts) := Lib.hid (by rw [HT.out]; exact s3.out)
        have K3 := Lib.hid ((KR.out.trans (KeepT.below (below_alloc wr (.cells #[.int .i64 args[k].k, .string args[k].nm, .int .i64 args[k].vr, .slice A' args[k].args.length c'] 24)))).trans k3.out)
        clear CALL s3 k3 x0 x1 x2 x3
        go_wp2
        go_roundw
        case rel => exact ⟨k + 1, by omega, by go_num, S3, K3⟩
        case measure => simp [intOf]; omega
      · have hge : ¬ (k : Int) < (args.length : Int) := by omega
        have S3 : Hid (VSt w0 wr R M (varsL args LL) ts) := Lib.hid (by have := SR.out; rwa [List.take_of_length_le (by omega)] at this)
        go_wp2
        go_ret
        exact ⟨rfl, S3, Lib.hid (KF.out.trans KR.out)⟩
  · have q7 : (V.k == 7) = false := beq_eq_false_iff_ne.2 h7
    rw [if_neg h7]
    obtain ⟨LL, hLL⟩ : ∃ z, z = l := ⟨_, rfl⟩
    rw [← hLL]
    have HLL := Lib.hid hLL
    have HLN : Hid (∀ k (h : k < args.length), (varsL (args.take k) LL).length + nodes args[k] ≤ 60000) := Lib.hid (fun k h => by
      have g1 := varsL_len (args.take k) LL
      have g2 := nodesL_take args k h
      have g3 := nodesL_take_le args (k + 1)
      have g4 : LL.length ≤ l.length + 1 := by rw [hLL]; omega
      omega)
    rw [← hLL] at S1
    clear h7 hLL hA ih hbg b3 ha hall hsh s MT
    obtain ⟨w2, hw2⟩ : ∃ z, z = w.alloc (.cells #[.int .i64 V.k, .string V.nm, .int .i64 V.vr, .slice A args.length c] 24) := ⟨_, rfl⟩
    have S2 : Hid (VSt w0 w2 R M LL ts) := Lib.hid (by rw [hw2]; exact S1.out)
    have KF : Hid (KeepT w w2) := Lib.hid (by rw [hw2]; exact KB.out)
    have HW2 := Lib.hid hw2
    obtain ⟨z0, z1, z2, z3⟩ := cell4 HBX.out
    clear hw2
    go_enter Tryz.func60, Tryz.ntmps60
    go_wp2
    rw [← HW2.out]
    go_loopw [21] (fun i wr => CcI w0 w2 R M args LL ts i wr) (fun i _ => args.length - (intOf i).toNat)
    case atStart => exact ⟨0, by omega, rfl, S2, Lib.hid (KeepT.refl _)⟩
    case round =>
      obtain ⟨k, hk, rfl, SR, KR⟩ := hrel
      clear z0 z1 z2 z3
      by_cases hlt : k < args.length
      · have hlti : (k : Int) < (args.length : Int) := by omega
        have hAr : TRow wr (· < w0.heap.size) A args := by
          have hb : Below w0.heap.size w0 wr := by obtain ⟨_, _, _, b⟩ := SR.out; exact b
          exact HAZ.out wr hb
        obtain ⟨b, o, rfl, hb, hr⟩ := hAr.at (by omega)
        obtain ⟨A', c', x0, x1, x2, x3, hin⟩ := hr wr (Below.refl _ _) k hlt
        have hln2 := HLN.out k hlt
        have CALL : Hid (∀ W, Below wr.heap.size wr W → Calls Tryz.prog 60 #[.pointer (some ⟨R, 0, none⟩), .agg #[.int .i64 args[k].k, .string args[k].nm, .int .i64 args[k].vr, .slice A' args[k].args.length c'], .int .i64 (q + 1)] W fun e w' => e = .returned (.bool true) ∧ Hid (VSt w0 w' R M (varsT args[k] (varsL (args.take k) LL)) ts) ∧ Hid (KeepT W w')) := Lib.hid (fun W hW => HI.out args[k] _ (q + 1) w0 W R M _ ts (HBG.out _ (List.getElem_mem hlt)) (HSH.out _ (List.getElem_mem hlt)) (by omega) (by omega) hln2 (hin.later hW) (SR.out.below hW))
        have HT := Lib.hid (varsL_take args LL k hlt)
        clear hr hin hb HI hln2
        go_wp2_with fail
        refine (CALL.out _ (below_alloc wr _)).mono ?_; rintro e w3 ⟨rfl, s3, k3⟩
        have S3 : Hid (VSt w0 w3 R M (varsL (args.take (k + 1)) LL) ts) := Lib.hid (by rw [HT.out]; exact s3.out)
        have K3 := Lib.hid ((KR.out.trans (KeepT.below (below_alloc wr (.cells #[.int .i64 args[k].k, .string args[k].nm, .int .i64 args[k].vr, .slice A' args[k].args.length c'] 24)))).trans k3.out)
        clear CALL s3 k3 x0 x1 x2 x3
        go_wp2
        go_roundw
        case rel => exact ⟨k + 1, by omega, by go_num, S3, K3⟩
        case measure => simp [intOf]; omega
      · have hge : ¬ (k : Int) < (args.length : Int) := by omega
        have S3 : Hid (VSt w0 wr R M (varsL args LL) ts) := Lib.hid (by have := SR.out; rwa [List.take_of_length_le (by omega)] at this)
        go_wp2
        go_ret
        exact ⟨rfl, S3, Lib.hid (KF.out.trans KR.out)⟩
theorem collect_any (d : Nat) (V : TT) (v : Value) (q : Int) (w0 w : World) (R M : Nat) (l : List Int) (ts : List Value) (h : bigT d V = false) (_ : d ≤ 7) (h2 : shp V = true) (h3 : 0 ≤ q) (h4 : q + d ≤ 1000) (h5 : l.length + nodes V ≤ 60000) (h6 : TIn w (· < w0.heap.size) V v) (h7 : VSt w0 w R M l ts) :
    Calls Tryz.prog 60 #[.pointer (some ⟨R, 0, none⟩), v, .int .i64 q] w fun e w' => e = .returned (.bool true) ∧ Hid (VSt w0 w' R M (varsT V l) ts) ∧ Hid (KeepT w w') := collect_big d V v q w0 w R M l ts h h2 h3 h4 h5 h6 h7
end Go.Proofs.YtifopogkbjhkjaaGreatDoor
namespace Go.Proofs.YtifopogkbjhkjaaGreatDoor
open Go.ChangeShapes Go.WideShapes Go.ChangeAt Go.RowKit Go.WideMaps
set_option linter.unusedVariables false
set_option linter.unusedSimpArgs false
def varsOf (V : TT) : List Int := varsT V []
theorem idx_nil : idxF [] = fun _ => none := by funext x; simp [idxF]
/-- the visitor, made. -/
theorem vst_new (w w1 : World) (hb : Below w.heap.size w w1) : VSt w ((w1.alloc (.map #[] 0)).alloc (.cells #[.map (some w1.heap.size), .slice none 0 0, .slice none 0 0] 83)) (w1.heap.size + 1) w1.heap.size [] [] := by
  have e : (w1.alloc (.map #[] 0)).heap.size = w1.heap.size + 1 := by simp
  refine ⟨.slice none 0 0, .slice none 0 0, ⟨?_, World.ownsRow_nil _ _ _ _, World.ownsRow_nil _ _ _ _, ?_, by have := hb.size; omega⟩, bt hb (bt (below_alloc w1 _) (below_alloc _ _))⟩
  · have := heap_alloc_new (w1.alloc (.map #[] 0)) (.cells #[.map (some w1.heap.size), .slice none 0 0, .slice none 0 0] 83)
    rw [e] at this; exact this
  · rw [idx_nil]
    exact (mn_made w1).below (below_alloc _ _)
set_option maxRecDepth 100000 in
set_option maxHeartbeats 2000000 in
theorem vars_big {d : Nat} {V : TT} {v : Value} {w : World} (hd : d ≤ 1000) (hnd : nodes V ≤ 60000) (hbg : bigT d V = false) (hsh : shp V = true) (h : TIn w any0 V v) :
    Calls Tryz.prog 34 #[v] w fun e w' => ∃ A c, e = .returned (.slice A (varsOf V).length c) ∧ Hid (w'.ownsRow w.heap.size TI 1 (.slice A (varsOf V).length c) (varsOf V).length (ivs (varsOf V))) ∧ Hid (Below w.heap.size w w') := by
  have hin : TIn w (· < w.heap.size) V v := h.weak (fun b hb _ => hb)
  obtain ⟨A, c, rfl, -⟩ := h
  have CL := Lib.hid (fun W R M (hW : Below w.heap.size w W) (hs : VSt w W R M [] []) => collect_big d V _ 0 w W R M [] [] hbg hsh (by omega) (by omega) (by simp; omega) (hin.later hW) hs)
  unfold tv at CL ⊢
  have VN := Lib.hid (vst_new w (w.alloc (.cells #[.int .i64 V.k, .string V.nm, .int .i64 V.vr, .slice A V.args.length c] 24)) (below_alloc w _))
  have hsz : (w.alloc (.cells #[.int .i64 V.k, .string V.nm, .int .i64 V.vr, .slice A V.args.length c] 24)).heap.size = w.heap.size + 1 := by simp
  rw [hsz] at VN
  have HB3 := Lib.hid (bt (below_alloc w (.cells #[.int .i64 V.k, .string V.nm, .int .i64 V.vr, .slice A V.args.length c] 24)) (bt (below_alloc _ (.map #[] 0)) (below_alloc _ (.cells #[.map (some (w.heap.size + 1)), .slice none 0 0, .slice none 0 0] 83))))
  have hmm := @run_makeMap Tryz.prog
  clear hbg hsh hin hsz
  go_enter Tryz.func34, Tryz.ntmps34
  go_wp2_with fail
  refine (CL.out _ _ _ HB3.out VN.out).mono ?_; rintro e w2 ⟨rfl, s2, k2⟩
  obtain ⟨vv, tvv, vs, bb⟩ := s2.out
  obtain ⟨Av, cv, rfl⟩ := vform vs.vars
  have OW := Lib.hid vs.vars
  have BB := Lib.hid bb
  obtain ⟨c0, c1, -, -⟩ := vs.cells
  clear vs bb CL VN s2 k2
  go_wp2
  go_ret
  exact ⟨_, _, rfl, OW, BB⟩
theorem vars_any {d : Nat} {V : TT} {v : Value} {w : World} (hd : d ≤ 7) (hbg : bigT d V = false) (hsh : shp V = true) (h : TIn w any0 V v) :
    Calls Tryz.prog 34 #[v] w fun e w' => ∃ A c, e = .returned (.slice A (varsOf V).length c) ∧ Hid (w'.ownsRow w.heap.size TI 1 (.slice A (varsOf V).length c) (varsOf V).length (ivs (varsOf V))) ∧ Hid (Below w.heap.size w w') :=
  vars_big (by omega) (by have := small_nodes hbg hd; omega) hbg hsh h
end Go.Proofs.YtifopogkbjhkjaaGreatDoor
