import Derived.Test.YtifopogkbjhkjaaDoorRd
namespace Go.Proofs.YtifopogkbjhkjaaDoor
open DR
open Go.ChangeShapes Go.WideShapes Go.ChangeAt Go.RowKit Go.WideMaps
set_option linter.unusedVariables false
set_option linter.unusedSimpArgs false
theorem frm_bel {w w4 wr : World} {sb : Nat} (h : Below w.heap.size w w4) (hs : w.heap.size ≤ sb) (f : Frm w4 wr (· = sb)) : Below w.heap.size w wr :=
  h.trans (f.below (fun q hq => by have : q = sb := hq; omega) h.size)
/-- an env as asked for. -/
def EnvOk (x : List Int × TT) : Prop := bigT 7 x.2 = false ∧ goodT x.2 = true ∧ x.1 = []
theorem env_step {E : List (List Int × TT)} {k : Nat} (h : k < E.length) (h1 : ∀ x ∈ E.take k, EnvOk x) (h2 : EnvOk E[k]) : ∀ x ∈ E.take (k + 1), EnvOk x := fun x hx => by
  rw [List.take_succ_eq_append_getElem h, List.mem_append, List.mem_singleton] at hx
  rcases hx with hx | hx
  · exact h1 x hx
  · rw [hx]; exact h2
theorem IRow.frm {w w' : World} {sb : Nat} {A : Option Addr} {l : List Int} (h : IRow w A l) (f : Frm w w' (· = sb)) (hn : ∀ b o g, A = some ⟨b, o, g⟩ → b ≠ sb) : IRow w' A l := by
  rcases h with h | ⟨b, o, h1, h2, h3⟩
  · exact .inl h
  · exact .inr ⟨b, o, h1, Nat.lt_of_lt_of_le h2 f.size, fun j hj => (World.cell?_of_block (f.block b h2 (hn b o none h1))).trans (h3 j hj)⟩
theorem notin_ge {L : List Nat} {n b : Nat} (h : ∀ x ∈ L, x < n) (hb : n ≤ b) : b ∉ L := fun hx => by have := h b hx; omega
theorem set4_heap {w : World} {R : Nat} {y0 y1 y2 y3 : Value} (a b c d : Value) (h : w.heap[R]? = some (.cells #[y0, y1, y2, y3] TT24 (0, 0))) : (set4 w R a b c d).heap[R]? = some (.cells #[a, b, c, d] TT24 (0, 0)) := by simp [World.setCell, Array.getElem?_modify, h]
/-- what two openings leave. -/
structure ApJ (wC w' : World) (sb : Nat) (V : TT) (M : Nat) (all : List Int) (X Y : Nat) (f1 f2 : Int → Option Int) (A1 : Option Addr) (c1 : Nat) (A2 : Option Addr) (c2 : Nat) : Prop where
  ok1 : FOk f1 all 20 M
  ok2 : FOk f2 all (20 + M) M
  x : w'.heap[X]? = some (.cells #[.int .i64 (renT f1 V).k, .string (renT f1 V).nm, .int .i64 (renT f1 V).vr, .slice A1 (renT f1 V).args.length c1] TT24 (0, 0))
  y : w'.heap[Y]? = some (.cells #[.int .i64 (renT f2 V).k, .string (renT f2 V).nm, .int .i64 (renT f2 V).vr, .slice A2 (renT f2 V).args.length c2] TT24 (0, 0))
  rx : TRow w' any0 A1 (renT f1 V).args
  ry : TRow w' any0 A2 (renT f2 V).args
  frm : Frm wC w' (· = sb)
/-- what two openings share stands in the env. -/
theorem apart_key {V : TT} {E : List (List Int × TT)} {f1 f2 : Int → Option Int} {M : Nat} {all : List Int} (hall : all = freeS V (takenE E)) (hsh : shp V = true) (h19 : ∀ x ∈ varsOf V, x ≤ 19) (o1 : FOk f1 all 20 M) (o2 : FOk f2 all (20 + M) M) :
    (∀ x ∈ varsOf (renT f1 V), x ∈ varsOf (renT f2 V) → x ∈ takenE E) ∧ showT (renT f1 V) = showT V ∧ showT (renT f2 V) = showT V := by
  have ok : ∀ {f : Int → Option Int} {n : Int}, 20 ≤ n → FOk f all n M → RenOk f (fun x => (f x).getD x) (fun x => x ∈ varsOf V) := fun {f n} hn o => ⟨fun x _ => rfl, fun x y hx hy e => by
    have hx9 := h19 x hx
    have hy9 := h19 y hy
    have e : (f x).getD x = (f y).getD y := e
    cases h1 : f x with
    | none =>
      cases h2 : f y with
      | none => rw [h1, h2] at e; exact e
      | some b => rw [h1, h2] at e; have e : x = b := e; have := o.2.1 y b h2; omega
    | some a =>
      cases h2 : f y with
      | none => rw [h1, h2] at e; have e : a = y := e; have := o.2.1 x a h1; omega
      | some b => rw [h1, h2] at e; have e : a = b := e; subst e; exact o.2.2 x y a h1 h2⟩
  obtain ⟨s1, v1⟩ := ren_show (ok (by omega) o1) hsh (fun x hx => hx)
  obtain ⟨s2, v2⟩ := ren_show (ok (by omega) o2) hsh (fun x hx => hx)
  refine ⟨fun x hx hx2 => ?_, s1, s2⟩
  · rw [v1, List.mem_map] at hx
    rw [v2, List.mem_map] at hx2
    obtain ⟨u, hu, e1⟩ := hx
    obtain ⟨v, hv, e2⟩ := hx2
    have hv9 := h19 v hv
    cases h1 : f1 u with
    | some a =>
      rw [h1] at e1
      have e1 : a = x := e1
      have := o1.2.1 u a h1
      cases h2 : f2 v with
      | none => rw [h2] at e2; have e2 : v = x := e2; omega
      | some b => rw [h2] at e2; have e2 : b = x := e2; have := o2.2.1 v b h2; omega
    | none =>
      rw [h1] at e1
      have e1 : u = x := e1
      subst e1
      have hn : u ∉ all := fun h => by have := (o1.1 u).2 h; rw [h1] at this; cases this
      rw [hall] at hn
      by_cases ht : u ∈ takenE E
      · exact ht
      · exact absurd (freeS_mem.2 ⟨hu, ht⟩) hn
set_option maxRecDepth 100000 in
set_option maxHeartbeats 16000000 in
theorem apart_walk {V : TT} {v : Value} {Ae : Option Addr} {E : List (List Int × TT)} {ce : Nat} {w : World} (hAw : ∀ W, Calls Tryd.prog 7 #[] W fun e W' => e = .returned (.bool true) ∧ Below W.heap.size W W') (h : TIn w any0 V v) (he : SRow w Ae E) (hlen : ∀ x ∈ E, x.1.length ≤ 9223372036854775807) (hLE : E.length ≤ 9223372036854775807) :
    Calls Tryd.prog 3 #[v, .slice Ae E.length ce] w fun e w' => e = .returned (.bool true) ∧ Below w.heap.size w w' := by
  obtain ⟨NE, hNE⟩ : ∃ N, N = E.length := ⟨_, rfl⟩
  rw [← hNE] at hLE ⊢
  have HNE := Lib.hid hNE
  have HE := Lib.hid he
  have HLN := Lib.hid hlen
  clear hNE he hlen
  have HAW := Lib.hid hAw
  have hin := h
  obtain ⟨A, c, rfl, hA⟩ := h
  have CS := Lib.hid (fun W (hW : Below w.heap.size w W) => small_any 7 V _ 64 W most64 (hin.later hW))
  have hx := heap_alloc_new w (.cells #[.int .i64 V.k, .string V.nm, .int .i64 V.vr, .slice A V.args.length c] 24)
  have hsz : (w.alloc (.cells #[.int .i64 V.k, .string V.nm, .int .i64 V.vr, .slice A V.args.length c] 24)).heap.size = w.heap.size + 1 := by simp
  have HB := Lib.hid (below_alloc w (.cells #[.int .i64 V.k, .string V.nm, .int .i64 V.vr, .slice A V.args.length c] 24))
  have HX := Lib.hid hx; have HZ := Lib.hid hsz
  cases hbg : bigT 7 V with
  | true =>
    rw [hbg] at CS
    unfold tv at CS ⊢
    clear hA hin hAw hx hsz hbg
    go_enter Tryd.func3, Tryd.ntmps3
    go_wp2_with fail
    refine (HAW.out _).mono ?_; rintro e w1 ⟨rfl, b1⟩
    have B1 := Lib.hid (bt HB.out b1)
    have z1 := (b1.block w.heap.size (by rw [HZ.out]; omega)).trans HX.out
    obtain ⟨x0, x1, x2, x3⟩ := cell4 z1
    clear b1 z1
    go_wp2_with fail
    refine (CS.out _ B1.out).mono ?_; rintro e w2 ⟨rfl, b2⟩
    have B2 := Lib.hid (bt B1.out b2)
    clear b2
    go_wp2
    go_ret
    exact ⟨rfl, B2.out⟩
  | false =>
    have CG := Lib.hid (fun W (hW : Below w.heap.size w W) => good_any (Nat.le_refl 7) hbg (hin.later hW))
    rw [hbg] at CS
    have HBG := Lib.hid hbg; have HIN := Lib.hid hin; have HA := Lib.hid hA
    cases hg : goodT V with
    | false =>
      rw [hg] at CG
      unfold tv at CS CG ⊢
      clear hA hin hAw hx hsz hbg hg HIN
      go_enter Tryd.func3, Tryd.ntmps3
      go_wp2_with fail
      refine (HAW.out _).mono ?_; rintro e w1 ⟨rfl, b1⟩
      have B1 := Lib.hid (bt HB.out b1)
      have z1 := (b1.block w.heap.size (by rw [HZ.out]; omega)).trans HX.out
      obtain ⟨x0, x1, x2, x3⟩ := cell4 z1
      have Q1 := Lib.hid (show w.heap.size + 1 ≤ w1.heap.size by have := b1.size; rw [HZ.out] at this; exact this)
      have Z1 := Lib.hid z1
      clear b1 z1
      go_wp2_with fail
      refine (CS.out _ B1.out).mono ?_; rintro e w2 ⟨rfl, b2⟩
      have B2 := Lib.hid (bt B1.out b2)
      have z2 := (b2.block w.heap.size (by have := Q1.out; omega)).trans Z1.out
      obtain ⟨y0, y1, y2, y3⟩ := cell4 z2
      clear b2 z2 x0 x1 x2 x3
      go_wp2_with fail
      refine (CG.out _ B2.out).mono ?_; rintro e w3 ⟨rfl, b3⟩
      have B3 := Lib.hid (bt B2.out b3)
      clear b3 y0 y1 y2 y3
      go_wp2
      go_ret
      exact ⟨rfl, B3.out⟩
    | true =>
      rw [hg] at CG
      by_cases h6 : 6 < NE
      · have d6 : decide ((6 : Int) < (NE : Int)) = true := decide_eq_true (by omega)
        unfold tv at CS CG ⊢
        clear hA hin hAw hx hsz hbg hg HIN
        go_enter Tryd.func3, Tryd.ntmps3
        go_wp2_with fail
        refine (HAW.out _).mono ?_; rintro e w1 ⟨rfl, b1⟩
        have B1 := Lib.hid (bt HB.out b1)
        have z1 := (b1.block w.heap.size (by rw [HZ.out]; omega)).trans HX.out
        obtain ⟨x0, x1, x2, x3⟩ := cell4 z1
        have Q1 := Lib.hid (show w.heap.size + 1 ≤ w1.heap.size by have := b1.size; rw [HZ.out] at this; exact this)
        have Z1 := Lib.hid z1
        clear b1 z1
        go_wp2_with fail
        refine (CS.out _ B1.out).mono ?_; rintro e w2 ⟨rfl, b2⟩
        have B2 := Lib.hid (bt B1.out b2)
        have z2 := (b2.block w.heap.size (by have := Q1.out; omega)).trans Z1.out
        have Q2 := Lib.hid (Nat.le_trans Q1.out b2.size)
        have Z2 := Lib.hid z2
        obtain ⟨y0, y1, y2, y3⟩ := cell4 z2
        clear b2 z2 x0 x1 x2 x3
        go_wp2_with fail
        refine (CG.out _ B2.out).mono ?_; rintro e w3 ⟨rfl, b3⟩
        have B3 := Lib.hid (bt B2.out b3)
        have Z3 := Lib.hid ((b3.block w.heap.size (by have := Q2.out; omega)).trans Z2.out)
        have Q3 := Lib.hid (Nat.le_trans Q2.out b3.size)
        clear b3 y0 y1 y2 y3
        go_wp2
        go_ret
        exact ⟨rfl, B3.out⟩
      have d6 : decide ((6 : Int) < (NE : Int)) = false := decide_eq_false (by omega)
      have CV0 := Lib.hid (fun W (hW : Below w.heap.size w W) (hsh : shp V = true) => vars_any (Nat.le_refl 7) hbg hsh (hin.later hW))
      have HG := Lib.hid hg
      unfold tv at CS CG CV0 HIN ⊢
      clear hA hin hAw hx hsz hbg hg
      go_enter Tryd.func3, Tryd.ntmps3
      go_wp2_with fail
      refine (HAW.out _).mono ?_; rintro e w1 ⟨rfl, b1⟩
      have B1 := Lib.hid (bt HB.out b1)
      have z1 := (b1.block w.heap.size (by rw [HZ.out]; omega)).trans HX.out
      obtain ⟨x0, x1, x2, x3⟩ := cell4 z1
      have Q1 := Lib.hid (show w.heap.size + 1 ≤ w1.heap.size by have := b1.size; rw [HZ.out] at this; exact this)
      have Z1 := Lib.hid z1
      clear b1 z1
      go_wp2_with fail
      refine (CS.out _ B1.out).mono ?_; rintro e w2 ⟨rfl, b2⟩
      have B2 := Lib.hid (bt B1.out b2)
      have z2 := (b2.block w.heap.size (by have := Q1.out; omega)).trans Z1.out
      have Q2 := Lib.hid (Nat.le_trans Q1.out b2.size)
      have Z2 := Lib.hid z2
      obtain ⟨y0, y1, y2, y3⟩ := cell4 z2
      clear b2 z2 x0 x1 x2 x3
      go_wp2_with fail
      refine (CG.out _ B2.out).mono ?_; rintro e w3 ⟨rfl, b3⟩
      have B3 := Lib.hid (bt B2.out b3)
      have Z3 := Lib.hid ((b3.block w.heap.size (by have := Q2.out; omega)).trans Z2.out)
      have Q3 := Lib.hid (Nat.le_trans Q2.out b3.size)
      clear b3 y0 y1 y2 y3
      go_wp2_with fail
      refine (new_any _).mono ?_; rintro e w4 ⟨rfl, s4, b4⟩
      have B4 := Lib.hid (bt B3.out b4)
      have z4 := (b4.block w.heap.size (by have := Q3.out; omega)).trans Z3.out
      have Q4 := Lib.hid (Nat.le_trans Q3.out b4.size)
      have Z4 := Lib.hid z4
      have S4 := Lib.hid s4
      obtain ⟨y0, y1, y2, y3⟩ := cell4 z4
      obtain ⟨sb, hsb⟩ : ∃ sb, sb = w3.heap.size := ⟨_, rfl⟩
      rw [← hsb] at S4 Q3 ⊢
      have HSB := Lib.hid hsb
      have QW := Lib.hid (show w.heap.size < sb by have := Q3.out; omega)
      clear b4 z4 s4 hsb y0 y1 y2 y3 CS CG Q1 Q2 Z1 Z2 Z3 B1 B2 B3
      go_wp2
      go_loopw [6] (fun i wr => ∃ (k : Nat) (q : Int), Hid (q = k) ∧ k ≤ 20 ∧ i = .int .i64 q ∧ Hid (SubE wr sb k) ∧ Hid (Frm w4 wr (· = sb))) (fun i _ => 20 - (intOf i).toNat)
      case atStart => exact ⟨0, 0, Lib.hid rfl, by omega, by first | rfl | trivial, S4, Lib.hid (Frm.refl _ _)⟩
      case round =>
        obtain ⟨k, q, hqk, hk, rfl, SW, FM⟩ := hrel
        by_cases hlt : k < 20
        · have hlti : q < 20 := by have := hqk.out; omega
          have hq0 : 0 ≤ q := by have := hqk.out; omega
          have HQ1 := Lib.hid (show q + 1 = ((k + 1 : Nat) : Int) by have := hqk.out; omega)
          have CF := Lib.hid (fresh_frm (n := k) (m := ((k + 1 : Nat) : Int)) (by omega) (by omega) (by omega) SW.out)
          go_wp2_with fail
          refine CF.out.mono ?_; rintro e w5 ⟨rfl, s5, f5⟩
          have S5 := Lib.hid s5
          have F5 := Lib.hid (FM.out.trans f5)
          clear s5 f5 CF
          go_wp2
          go_roundw
          case rel => exact ⟨k + 1, q + 1, HQ1, by omega, by go_num, S5, F5⟩
          case measure => simp [intOf]; omega
        · obtain rfl : k = 20 := by omega
          obtain rfl : q = 20 := by have := hqk.out; omega
          have S20 := SW
          have F20 := FM
          go_wp2
          go_loopw [7] (fun i wr => ∃ k : Nat, k ≤ NE ∧ i = .int .i64 k ∧ Hid (∀ x ∈ E.take k, EnvOk x) ∧ Hid (SubE wr sb 20) ∧ Hid (Frm w4 wr (· = sb))) (fun i _ => NE - (intOf i).toNat)
          case atStart => exact ⟨0, by omega, by first | rfl | trivial, Lib.hid (by simp), S20, F20⟩
          case round =>
            obtain ⟨k, hk, rfl, HOK, SW, FM⟩ := hrel
            have BW := Lib.hid (frm_bel B4.out (Nat.le_of_lt QW.out) FM.out)
            by_cases hlt : k < NE
            · have hlti : (k : Int) < (NE : Int) := by omega
              have hlt' : k < E.length := by rw [← HNE.out]; exact hlt
              obtain ⟨b, o, rfl, hb, hr⟩ := (HE.out.later BW.out).resolve_left (by rw [← HNE.out]; omega)
              obtain ⟨Al, ca, A', c', z0, z1, z2, z3, z4, ir, tr⟩ := hr k hlt'
              obtain ⟨X, hX⟩ : ∃ X, X = E[k].2 := ⟨_, rfl⟩
              obtain ⟨al, hal⟩ : ∃ a, a = E[k].1 := ⟨_, rfl⟩
              have hln := HLN.out _ (List.getElem_mem hlt')
              have STP := Lib.hid (env_step hlt' HOK.out)
              rw [show E[k] = (al, X) from by rw [hX, hal]] at STP
              rw [← hX] at z1 z2 z3 z4 tr
              rw [← hal] at z0 ir hln
              have TIX := Lib.hid (show TIn wr any0 X (tv X A' c') from ⟨A', c', rfl, tr⟩)
              have CS := Lib.hid (fun W (hW : Below wr.heap.size wr W) => small_any 7 X _ 64 W most64 (TIX.out.later hW))
              have CG := Lib.hid (fun W (hW : Below wr.heap.size wr W) (hb : bigT 7 X = false) => sgood_len (ca := ca) (c := c') (Nat.le_refl 7) hb hln (ir.later hW) (tr.later hW))
              obtain ⟨m, hm⟩ : ∃ m, m = al.length := ⟨_, rfl⟩
              rw [← hm] at z0 CG
              have HMM := Lib.hid hm
              have KEEP := Lib.hid (fun W (hW : Below wr.heap.size wr W) => (⟨(hW.cell (p := ⟨b, _, none⟩) hb).trans z0, (hW.cell (p := ⟨b, _, none⟩) hb).trans z1, (hW.cell (p := ⟨b, _, none⟩) hb).trans z2, (hW.cell (p := ⟨b, _, none⟩) hb).trans z3, (hW.cell (p := ⟨b, _, none⟩) hb).trans z4⟩ : W.cell? ⟨b, o + k * 5, none⟩ = some (.slice Al m ca) ∧ W.cell? ⟨b, o + k * 5 + 1, none⟩ = some (.int .i64 X.k) ∧ W.cell? ⟨b, o + k * 5 + 2, none⟩ = some (.string X.nm) ∧ W.cell? ⟨b, o + k * 5 + 3, none⟩ = some (.int .i64 X.vr) ∧ W.cell? ⟨b, o + k * 5 + 4, none⟩ = some (.slice A' X.args.length c')))
              unfold tv at CS
              unfold scv at CG
              clear hr ir tr hX hal hln hm TIX
              cases hbx : bigT 7 X with
              | true =>
                rw [hbx] at CS
                clear CG hbx STP
                go_wp2_with fail
                refine (CS.out _ (Below.refl _ _)).mono ?_; rintro e w5 ⟨rfl, b5⟩
                have B5 := Lib.hid (bt BW.out b5)
                clear b5 CS z0 z1 z2 z3 z4
                go_wp2
                go_ret
                exact ⟨rfl, B5.out⟩
              | false =>
                rw [hbx] at CS
                have CG := Lib.hid (fun W (hW : Below wr.heap.size wr W) => CG.out W hW hbx)
                go_wp2_with fail
                refine (CS.out _ (Below.refl _ _)).mono ?_; rintro e w5 ⟨rfl, b5⟩
                have B5 := Lib.hid b5
                obtain ⟨y0, y1, y2, y3, y4⟩ := KEEP.out _ b5
                clear b5 CS z0 z1 z2 z3 z4
                cases hsx : sgoodT X al with
                | false =>
                  rw [hsx] at CG
                  clear hsx hbx STP
                  go_wp2_with fail
                  refine (CG.out _ B5.out).mono ?_; rintro e w6 ⟨rfl, b6⟩
                  have B6 := Lib.hid (bt BW.out (bt B5.out b6))
                  clear b6 CG y0 y1 y2 y3 y4
                  go_wp2
                  go_ret
                  exact ⟨rfl, B6.out⟩
                | true =>
                  rw [hsx] at CG
                  go_wp2_with fail
                  refine (CG.out _ B5.out).mono ?_; rintro e w6 ⟨rfl, b6⟩
                  have B6 := Lib.hid (bt B5.out b6)
                  obtain ⟨x0, x1, x2, x3, x4⟩ := KEEP.out _ B6.out
                  clear b6 CG y0 y1 y2 y3 y4
                  by_cases hm0 : 0 < m
                  · have dm : decide ((0 : Int) < (m : Int)) = true := decide_eq_true (by omega)
                    have BF := Lib.hid (bt BW.out B6.out)
                    clear hsx hbx STP
                    go_wp2
                    go_ret
                    exact ⟨rfl, BF.out⟩
                  · obtain rfl : m = 0 := by omega
                    have OKN := Lib.hid (STP.out ⟨hbx, (show goodT X = true by have q := hsx; unfold sgoodT at q; rw [Bool.and_eq_true] at q; exact q.1), List.length_eq_zero_iff.1 HMM.out.symm⟩)
                    have SW6 := Lib.hid (SW.out.below B6.out)
                    have FM6 := Lib.hid (FM.out.trans (Frm.of_below B6.out (Nat.le_refl _) _))
                    clear hsx hbx STP
                    go_wp2
                    go_roundw
                    case rel => exact ⟨k + 1, by omega, by go_num, OKN, SW6, FM6⟩
                    case measure => simp [intOf]; omega
            · obtain rfl : NE = k := by omega
              have hge : ¬ (NE : Int) < (NE : Int) := by omega
              have HEN := Lib.hid (show ∀ x ∈ E, EnvOk x by have := HOK.out; rw [HNE.out, List.take_length] at this; exact this)
              have SW5 := SW; have FM5 := FM; have BW5 := BW
              have Z5 := Lib.hid ((FM.out.block w.heap.size (by have := Q4.out; omega) (by have := QW.out; show ¬ w.heap.size = sb; omega)).trans Z4.out)
              have HSH := Lib.hid (show shp V = true by have q := HG.out; unfold goodT at q; rw [Bool.and_eq_true] at q; exact q.2)
              have CV := Lib.hid (CV0.out wr BW.out HSH.out)
              obtain ⟨vs, hvs⟩ : ∃ vs, vs = varsOf V := ⟨_, rfl⟩
              rw [← hvs] at CV
              have HVS := Lib.hid hvs
              obtain ⟨y0, y1, y2, y3⟩ := cell4 Z5.out
              have hk6 : ¬ 6 < NE := by have := d6; simp at this; omega
              clear hvs HOK SW FM BW hk CV0
              go_wp2_with fail
              refine CV.out.mono ?_; rintro e w6 ⟨A6, c6, rfl, o6, b6⟩
              have B6 := Lib.hid (bt BW5.out b6.out)
              have R6 := Lib.hid (own_irow o6.out rfl)
              have S6 := Lib.hid (SW5.out.below b6.out)
              have F6 := Lib.hid (FM5.out.trans (Frm.of_below b6.out (Nat.le_refl _) _))
              have Z6 := Lib.hid ((b6.out.block w.heap.size (Array.getElem?_eq_some_iff.1 Z5.out).1).trans Z5.out)
              clear o6 b6 CV y0 y1 y2 y3 SW5 FM5 BW5 Z5
              obtain ⟨N, hN⟩ : ∃ N, N = vs.length := ⟨_, rfl⟩
              rw [← hN]
              have HN := Lib.hid hN
              have hN99 : N ≤ 99 := by have := vars_few 6 V [] HBG.out HSH.out; rw [hN, HVS.out]; unfold varsOf; simp at this; omega
              clear hN
              go_wp2
              go_loopw [9] (fun i wr => ∃ k : Nat, k ≤ N ∧ i = .int .i64 k ∧ wr = w6 ∧ Hid (∀ x ∈ vs.take k, x ≤ 19)) (fun i _ => N - (intOf i).toNat)
              case atStart => exact ⟨0, by omega, by first | rfl | trivial, by first | rfl | trivial, Lib.hid (by simp)⟩
              case round =>
                obtain ⟨k, hk, rfl, hwr, H19⟩ := hrel
                subst hwr
                by_cases hlt : k < N
                · have hlti : (k : Int) < (N : Int) := by omega
                  have hlt' : k < vs.length := by rw [← HN.out]; exact hlt
                  obtain ⟨b, o, rfl, hb, hr⟩ : ∃ b o, A6 = some ⟨b, o, none⟩ ∧ b < wr.heap.size ∧ ∀ j (h : j < vs.length), wr.cell? ⟨b, o + j, none⟩ = some (.int .i64 vs[j]) := R6.out.resolve_left (by rw [← HN.out]; omega)
                  have x0 := hr k hlt'
                  have HT := Lib.hid (take_snoc hlt')
                  obtain ⟨x, hx⟩ : ∃ x, x = vs[k] := ⟨_, rfl⟩
                  rw [← hx] at x0 HT
                  clear hr hx hb
                  by_cases h19 : 19 < x
                  · have d19 : decide (19 < x) = true := decide_eq_true h19
                    go_wp2
                    go_ret
                    exact ⟨rfl, B6.out⟩
                  · have d19 : decide (19 < x) = false := decide_eq_false h19
                    have H20 := Lib.hid (show ∀ z ∈ vs.take (k + 1), z ≤ 19 from fun z hz => by
                      rw [HT.out, List.mem_append, List.mem_singleton] at hz
                      rcases hz with hz | hz
                      · exact H19.out z hz
                      · rw [hz]; omega)
                    go_wp2
                    go_roundw
                    case rel => exact ⟨k + 1, by omega, by go_num, by first | rfl | trivial, H20⟩
                    case measure => simp [intOf]; omega
                · obtain rfl : N = k := by omega
                  have hge : ¬ (N : Int) < (N : Int) := by omega
                  have HV19 := Lib.hid (show ∀ x ∈ vs, x ≤ 19 by have := H19.out; rw [HN.out, List.take_length] at this; exact this)
                  have E6 := Lib.hid (HE.out.later B6.out)
                  obtain ⟨all, hall⟩ : ∃ a, a = freeS V (takenE E) := ⟨_, rfl⟩
                  have CCE := Lib.hid (close_env (ce := ce) E6.out (fun x hx => HEN.out x hx) (by rw [← HNE.out]; omega) HBG.out HG.out S6.out (HIN.out.later B6.out))
                  rw [← hall, ← HNE.out] at CCE
                  have HSG := Lib.hid (show sgoodT V all = true by rw [hall]; exact freeS_good _ HG.out)
                  have HALL := Lib.hid hall
                  have hML : all.length ≤ 99 := by have := freeS_len V (takenE E); rw [← hall, ← HVS.out, ← HN.out] at this; omega
                  obtain ⟨M, hM⟩ : ∃ m, m = all.length := ⟨_, rfl⟩
                  rw [← hM] at hML
                  have HM := Lib.hid hM
                  obtain ⟨y0, y1, y2, y3⟩ := cell4 Z6.out
                  have HENV := HEN
                  clear H19 hall hM HEN
                  go_wp2_with fail
                  refine CCE.out.mono ?_; rintro e w7 ⟨Al7, ca7, A7, c7, rfl, ir7, al7, tr7, b7⟩
                  rw [← HM.out]
                  unfold scv
                  obtain ⟨wC, hwC⟩ : ∃ z, z = w7.alloc (.cells #[.slice Al7 M ca7, .int .i64 V.k, .string V.nm, .int .i64 V.vr, .slice A7 V.args.length c7] SchT) := ⟨_, rfl⟩
                  have bC : Below w7.heap.size w7 wC := by rw [hwC]; exact below_alloc _ _
                  obtain ⟨cb, hcb⟩ : ∃ z, z = w7.heap.size := ⟨_, rfl⟩
                  have CB := Lib.hid (show wC.heap[cb]? = some (.cells #[.slice Al7 M ca7, .int .i64 V.k, .string V.nm, .int .i64 V.vr, .slice A7 V.args.length c7] SchT (0, 0)) by rw [hwC, hcb]; exact heap_alloc_new _ _)
                  have BC := Lib.hid (bt b7 bC)
                  have SC := Lib.hid (S6.out.below BC.out)
                  have HC1 := Lib.hid SC.out.lt
                  have hs6 := S6.out.lt
                  have QC := Lib.hid (show cb ≠ sb ∧ cb < wC.heap.size from ⟨by rw [hcb]; have := b7.size; omega, (Array.getElem?_eq_some_iff.1 CB.out).1⟩)
                  have FC := Lib.hid (F6.out.trans (Frm.of_below BC.out (Nat.le_refl _) _))
                  have IR := Lib.hid (fun W (f : Frm wC W (· = sb)) => (ir7.later bC).frm f (fun b o g e h => by have h1 := al7 b o g e; omega))
                  have TRC := Lib.hid (fun W (f : Frm wC W (· = sb)) => (tr7.later bC).move (w' := W) (P' := any0) (fun b hb (hp : wr.heap.size ≤ b) => ⟨f.block b hb (by show ¬ b = sb; omega), trivial⟩) f.size)
                  have OV := Lib.hid (fun W (n m : Int) (hW : Frm wC W (· = sb)) (h0 : 0 ≤ n) (hn : n ≤ 1800) (hm : m = n + (M : Int)) (hs : SubE W sb n) => open_val (ca := ca7) (c := c7) (Nat.le_refl 7) HBG.out HSG.out (by have := HM.out; omega) h0 hn (hm.trans (congrArg (fun z : Nat => n + (z : Int)) HM.out)) hs (fun w' hw' => IR.out w' (hW.trans hw')) (fun w' hw' => TRC.out w' (hW.trans hw')))
                  rw [← HM.out] at OV
                  unfold scv at OV
                  have HWC := Lib.hid hwC
                  have HCB := Lib.hid hcb
                  clear b7 ir7 al7 tr7 bC hwC hcb hs6 CCE y0 y1 y2 y3
                  go_wp2_with fail
                  rw [← HWC.out, ← HCB.out]
                  rename_i K hK
                  refine Code.wp_mono (Q := Exit.then (fun a' w' => ∃ X Y f1 f2 A1 c1 A2 c2 t90 t91 t92 t93 t94 t95, a' = ⟨#[.agg #[.int .i64 V.k, .string V.nm, .int .i64 V.vr, .slice A V.args.length c], .slice Ae NE ce, .pointer (some ⟨w.heap.size, 0, none⟩), undef, u4, .pointer (some ⟨sb, 0, none⟩), .int .i64 20, .int .i64 NE, .slice A6 N c6, .int .i64 N, .pointer (some ⟨cb, 0, none⟩), .pointer (some ⟨X, 0, none⟩), .pointer (some ⟨Y, 0, none⟩), undef, undef, undef, undef, undef, undef, undef, undef, .bool true, .bool false, .agg #[.int .i64 V.k, .string V.nm, .int .i64 V.vr, .slice A V.args.length c], .bool true, .bool false, .bool false, .agg #[.int .i64 V.k, .string V.nm, .int .i64 V.vr, .slice A V.args.length c], .bool true, .bool false, .bool false, .bool false, .slice Ae NE ce, .int .i64 NE, .bool false, .bool false, .pointer (some ⟨sb, 0, none⟩), .int .i64 20, .bool false, u39, u40, u41, u42, .int .i64 NE, .slice Ae NE ce, .int .i64 NE, .bool false, u47, u48, u49, u50, u51, u52, u53, u54, u55, u56, u57, u58, u59, u60, u61, u62, u63, u64, u65, u66, u67, u68, u69, u70, u71, u72, .agg #[.int .i64 V.k, .string V.nm, .int .i64 V.vr, .slice A V.args.length c], .slice A6 N c6, .int .i64 N, .slice A6 N c6, .int .i64 N, .bool false, u79, u80, u81, u82, u83, u84, u85, .pointer (some ⟨sb, 0, none⟩), .agg #[.int .i64 V.k, .string V.nm, .int .i64 V.vr, .slice A V.args.length c], .slice Ae NE ce, .agg #[.slice Al7 M ca7, .int .i64 V.k, .string V.nm, .int .i64 V.vr, .slice A7 V.args.length c7], t90, t91, t92, t93, t94, t95, undef, undef, undef, undef, undef, undef, undef, undef, undef, undef, undef, undef, undef, undef, undef, undef, undef, undef, undef, undef, undef, undef, undef, undef, undef, undef, undef, undef, undef, undef, undef, undef, undef, undef, undef, undef, undef, undef, undef, undef, undef, undef, undef, undef, undef, undef, undef, undef, undef, undef, undef, undef, undef, undef, undef, undef, undef, undef, undef, undef, undef, undef, undef, undef, undef, undef, undef, undef, undef, undef, undef, undef, undef, undef, undef], []⟩ ∧ ApJ wC w' sb V M all X Y f1 f2 A1 c1 A2 c2) (fun _ _ _ => False)) ?rest ?_
                  case rest =>
                    intro e a' wJ hq
                    cases e
                    case normal =>
                      obtain ⟨X, Y, f1, f2, A1, c1, A2, c2, t90, t91, t92, t93, t94, t95, rfl, HJ⟩ := hq
                      show K _ _
                      refine hK _ _ ?_
                      clear hK K
                      have ZC := Lib.hid ((BC.out.block w.heap.size (Array.getElem?_eq_some_iff.1 Z6.out).1).trans Z6.out)
                      have BJ := Lib.hid (frm_bel (bt B6.out BC.out) (Nat.le_of_lt QW.out) HJ.frm)
                      have ZJ := Lib.hid ((HJ.frm.block w.heap.size (Array.getElem?_eq_some_iff.1 ZC.out).1 (by have := QW.out; show ¬ w.heap.size = sb; omega)).trans ZC.out)
                      have CJ := Lib.hid ((HJ.frm.block cb QC.out.2 QC.out.1).trans CB.out)
                      have IJ := Lib.hid (IR.out wJ HJ.frm)
                      have TJ := Lib.hid (TRC.out wJ HJ.frm)
                      have KEY := Lib.hid (apart_key HALL.out HSH.out (by rw [← HVS.out]; exact HV19.out) HJ.ok1 HJ.ok2)
                      have HF1 := Lib.hid (show ∀ x y, f1 x = some y → 0 ≤ y ∧ y ≤ 1999 from fun x y h => by have := HJ.ok1.2.1 x y h; omega)
                      have HF2 := Lib.hid (show ∀ x y, f2 x = some y → 0 ≤ y ∧ y ≤ 1999 from fun x y h => by have := HJ.ok2.2.1 x y h; omega)
                      have H1 := Lib.hid (show bigT 7 (renT f1 V) = false ∧ shp (renT f1 V) = true from ⟨big_ren f1 7 V HBG.out, shp_ren HF1.out V HSH.out⟩)
                      have H2 := Lib.hid (show bigT 7 (renT f2 V) = false ∧ shp (renT f2 V) = true from ⟨big_ren f2 7 V HBG.out, shp_ren HF2.out V HSH.out⟩)
                      have XJ := Lib.hid HJ.x; have YJ := Lib.hid HJ.y; have RX := Lib.hid HJ.rx; have RY := Lib.hid HJ.ry
                      obtain ⟨U1, hU1⟩ : ∃ U, U = renT f1 V := ⟨_, rfl⟩
                      obtain ⟨U2, hU2⟩ : ∃ U, U = renT f2 V := ⟨_, rfl⟩
                      rw [← hU1] at XJ RX H1 KEY
                      rw [← hU2] at YJ RY H2 KEY
                      clear hU1 hU2 HJ HF1 HF2 IR TRC OV
                      have C1 := Lib.hid (fun W (hW : Below wJ.heap.size wJ W) => vars_any (Nat.le_refl 7) H1.out.1 H1.out.2 (⟨A1, c1, rfl, RX.out.later hW⟩ : TIn W any0 U1 (.agg #[.int .i64 U1.k, .string U1.nm, .int .i64 U1.vr, .slice A1 U1.args.length c1])))
                      have C2 := Lib.hid (fun W (hW : Below wJ.heap.size wJ W) => vars_any (Nat.le_refl 7) H2.out.1 H2.out.2 (⟨A2, c2, rfl, RY.out.later hW⟩ : TIn W any0 U2 (.agg #[.int .i64 U2.k, .string U2.nm, .int .i64 U2.vr, .slice A2 U2.args.length c2])))
                      obtain ⟨P, hP⟩ : ∃ P, P = varsOf U1 := ⟨_, rfl⟩
                      obtain ⟨Q, hQ⟩ : ∃ P, P = varsOf U2 := ⟨_, rfl⟩
                      rw [← hP] at C1 KEY
                      rw [← hQ] at C2 KEY
                      have HPU := Lib.hid hP; have HQU := Lib.hid hQ
                      clear hP hQ
                      go_wp2_with fail
                      refine wp_region_D [3] (fun w' => Below wJ.heap.size wJ w') (by kernel_rfl) (bdr wJ) (fun hHeld => ?_)
                      refine WD_take (i := 0) (oi := { dst := some 96, op := Go.Op.load 24 (Go.Operand.tmp 11), type := 24, pos := _, after := #[], guard := none }) (v := ?vb0) rfl (by kernel_rfl) (by kernel_rfl) (by kernel_rfl) (by kernel_rfl) (fun _ _ _ h => h) (Or.inl ⟨by rfl, ?hyb0⟩) hHeld ?_
                      case hyb0 => (intro wz hSw; (try dsimp only at hSw); have zc := (zero_cells ((hSw.block X (Array.getElem?_eq_some_iff.1 XJ.out).1).trans XJ.out)).1; have z0 := zc.1; have z1 := zc.2.1; have z2 := zc.2.2.1; have z3 := zc.2.2.2; clear zc; go_simp; try with_reducible rfl)
                      (try simp only [Act.put, List.setIfInBounds_toArray, List.set_cons_zero, List.set_cons_succ])
                      refine WD_take (i := 2) (oi := { dst := some 98, op := Go.Op.load 24 (Go.Operand.tmp 12), type := 24, pos := _, after := #[], guard := none }) (v := ?vb2) rfl (by kernel_rfl) (by kernel_rfl) (by kernel_rfl) (by kernel_rfl) (fun _ _ _ h => h) (Or.inl ⟨by rfl, ?hyb2⟩) hHeld ?_
                      case hyb2 => (intro wz hSw; (try dsimp only at hSw); have zc := (zero_cells ((hSw.block Y (Array.getElem?_eq_some_iff.1 YJ.out).1).trans YJ.out)).1; have z0 := zc.1; have z1 := zc.2.1; have z2 := zc.2.2.1; have z3 := zc.2.2.2; clear zc; go_simp; try with_reducible rfl)
                      (try simp only [Act.put, List.setIfInBounds_toArray, List.set_cons_zero, List.set_cons_succ])
                      refine WD_ready (rs := [1]) (by kernel_rfl) (by simp) ?_
                      refine AllD.cons (o := _) rfl (fun K hK => ?_) AllD.nil
                      rw [if_pos (by rfl)]
                      go_simp
                      refine (C1.out _ hHeld).mono ?_; rintro e w8 ⟨A8, c8, rfl, o8, b8⟩
                      try go_wp2_with fail
                      refine hK.out _ _ (bt hHeld b8.out) (fun hHeld => ?_)
                      clear hK K
                      (try simp only [Act.put, List.setIfInBounds_toArray, List.set_cons_zero, List.set_cons_succ])
                      have H8 := Lib.hid hHeld
                      clear hHeld
                      refine WD_ready (rs := [3]) (by kernel_rfl) (by simp) ?_
                      refine AllD.last (o := _) rfl (by kernel_rfl) (fun K hK => ?_) AllD.nil
                      rw [if_pos (by rfl)]
                      go_simp
                      refine (C2.out _ H8.out).mono ?_; rintro e w9 ⟨A9, c9, rfl, o9, b9⟩
                      try go_wp2_with fail
                      refine hK.out _ _ ?_
                      clear hK K
                      (try simp only [Act.put, List.setIfInBounds_toArray, List.set_cons_zero, List.set_cons_succ])
                      refine WD_takeAny (i := 4) (oi := { dst := some 13, op := Go.Op.assign (Go.Operand.tmp 97), type := 32, pos := _, after := #[{ on := 1, ground := Go.Ground.data }, { on := 3, ground := Go.Ground.chain }, { on := 0, ground := Go.Ground.phase }, { on := 1, ground := Go.Ground.phase }, { on := 2, ground := Go.Ground.textOnly Go.Departure.lateStores }, { on := 3, ground := Go.Ground.textOnly Go.Departure.lateStoresUnsure }], guard := none }) (v := ?vb4) rfl (by kernel_rfl) (by kernel_rfl) (by kernel_rfl) (by kernel_rfl) (fun _ _ _ h => h) (Or.inl ⟨by rfl, ?hyb4⟩) ?_
                      case hyb4 => (intro wz _; go_simp; try with_reducible rfl)
                      (try simp only [Act.put, List.setIfInBounds_toArray, List.set_cons_zero, List.set_cons_succ])
                      refine WD_takeAny (i := 5) (oi := { dst := some 14, op := Go.Op.assign (Go.Operand.tmp 99), type := 32, pos := _, after := #[{ on := 3, ground := Go.Ground.data }, { on := 4, ground := Go.Ground.chain }, { on := 0, ground := Go.Ground.phase }, { on := 1, ground := Go.Ground.phase }, { on := 2, ground := Go.Ground.phase }, { on := 3, ground := Go.Ground.phase }, { on := 4, ground := Go.Ground.phase }], guard := none }) (v := ?vb5) rfl (by kernel_rfl) (by kernel_rfl) (by kernel_rfl) (by kernel_rfl) (fun _ _ _ h => h) (Or.inl ⟨by rfl, ?hyb5⟩) ?_
                      case hyb5 => (intro wz _; go_simp; try with_reducible rfl)
                      (try simp only [Act.put, List.setIfInBounds_toArray, List.set_cons_zero, List.set_cons_succ])
                      refine WD_done (by kernel_rfl) ?_ _
                      have BJ9 := Lib.hid (bt H8.out b9.out)
                      have RP := Lib.hid ((own_irow o8.out rfl).later b9.out)
                      have RQ := Lib.hid (own_irow o9.out rfl)
                      have B9 := Lib.hid (bt BJ.out BJ9.out)
                      have E9 := Lib.hid (HE.out.later B9.out)
                      clear o8 o9 b8 b9 C1 C2 H8
                      obtain ⟨NP, hNP⟩ : ∃ z, z = P.length := ⟨_, rfl⟩
                      obtain ⟨NQ, hNQ⟩ : ∃ z, z = Q.length := ⟨_, rfl⟩
                      rw [← hNP, ← hNQ]
                      have HNP := Lib.hid hNP; have HNQ := Lib.hid hNQ
                      clear hNP hNQ
                      have hNP9 : NP ≤ 999999 := by have h1 := varsT_len U1 []; have h2 := small_nodes H1.out.1 (Nat.le_refl 7); have h3 : P.length = (varsT U1 []).length := congrArg List.length HPU.out; have h4 := HNP.out; rw [List.length_nil] at h1; omega
                      have hNQ9 : NQ ≤ 999999 := by have h1 := varsT_len U2 []; have h2 := small_nodes H2.out.1 (Nat.le_refl 7); have h3 : Q.length = (varsT U2 []).length := congrArg List.length HQU.out; have h4 := HNQ.out; rw [List.length_nil] at h1; omega
                      go_wp2
                      go_loopw [15] (fun i wr => ∃ k : Nat, k ≤ NP ∧ i = .int .i64 k ∧ Hid (Below w9.heap.size w9 wr)) (fun i _ => NP - (intOf i).toNat)
                      case atStart => exact ⟨0, by omega, by first | rfl | trivial, Lib.hid (Below.refl _ _)⟩
                      case round =>
                        obtain ⟨kp, hkp, rfl, BA⟩ := hrel
                        by_cases hltp : kp < NP
                        · have hltpi : (kp : Int) < (NP : Int) := by omega
                          have hltp' : kp < P.length := by rw [← HNP.out]; exact hltp
                          have RP2 := Lib.hid (fun W (hW : Below w9.heap.size w9 W) => ((RP.out.later hW).resolve_left (by rw [← HNP.out]; omega)))
                          obtain ⟨x, hx⟩ : ∃ x, x = P[kp] := ⟨_, rfl⟩
                          have HX0 := Lib.hid hx
                          obtain ⟨bp, op, rfl, hbp, hrp⟩ := RP.out.resolve_left (by rw [← HNP.out]; omega)
                          have XP := Lib.hid (fun W (hW : Below w9.heap.size w9 W) => (hW.cell (p := ⟨bp, op + kp, none⟩) hbp).trans (by rw [hx]; exact hrp kp hltp' : w9.cell? ⟨bp, op + kp, none⟩ = some (.int .i64 x)))
                          have KX := Lib.hid (show x ∈ Q → x ∈ takenE E from fun h => KEY.out.1 x (by rw [hx]; exact List.getElem_mem hltp') h)
                          clear hx hbp hrp RP2
                          go_wp2
                          go_loopw [16] (fun i wr => ∃ k : Nat, k ≤ NQ ∧ i = .int .i64 k ∧ Hid (Below w9.heap.size w9 wr)) (fun i _ => NQ - (intOf i).toNat)
                          case atStart => exact ⟨0, by omega, by first | rfl | trivial, BA⟩
                          case round =>
                            obtain ⟨kq, hkq, rfl, BB⟩ := hrel
                            by_cases hltq : kq < NQ
                            · have hltqi : (kq : Int) < (NQ : Int) := by omega
                              have hltq' : kq < Q.length := by rw [← HNQ.out]; exact hltq
                              obtain ⟨y, hy⟩ : ∃ y, y = Q[kq] := ⟨_, rfl⟩
                              obtain ⟨bq, oq, rfl, hbq, hrq⟩ := RQ.out.resolve_left (by rw [← HNQ.out]; omega)
                              have XQ := Lib.hid (fun W (hW : Below w9.heap.size w9 W) => (hW.cell (p := ⟨bq, oq + kq, none⟩) hbq).trans (by rw [hy]; exact hrq kq hltq' : w9.cell? ⟨bq, oq + kq, none⟩ = some (.int .i64 y)))
                              have KY := Lib.hid (show x = y → x ∈ takenE E from fun h => KX.out (by rw [h, hy]; exact List.getElem_mem hltq'))
                              clear hy hbq hrq
                              go_wp2
                              go_loopw [17, 18] (fun hv i wr => ∃ (k : Nat) (bb : Bool), k ≤ NE ∧ hv = .bool bb ∧ i = .int .i64 k ∧ Hid (bb = decide (x ∈ takenE (E.take k))) ∧ Hid (Below w9.heap.size w9 wr)) (fun _ i _ => NE - (intOf i).toNat)
                              case atStart => exact ⟨0, false, by omega, by first | rfl | trivial, by first | rfl | trivial, Lib.hid (by simp [takenE]), BB⟩
                              case round =>
                                obtain ⟨ke, bb, hke, rfl, rfl, HBB, BC9⟩ := hrel
                                by_cases hlte : ke < NE
                                · have hltei : (ke : Int) < (NE : Int) := by omega
                                  have hlte' : ke < E.length := by rw [← HNE.out]; exact hlte
                                  obtain ⟨be, oe, rfl, hbe, hre⟩ := (E9.out.later BC9.out).resolve_left (by rw [← HNE.out]; omega)
                                  obtain ⟨Ale, cae, A', c', z0, z1, z2, z3, z4, -, tre⟩ := hre ke hlte'
                                  have HOKE := Lib.hid (HENV.out _ (List.getElem_mem hlte'))
                                  have HTE := Lib.hid (takenE_take hlte' x)
                                  obtain ⟨T, hT⟩ : ∃ T, T = E[ke].2 := ⟨_, rfl⟩
                                  have HO1 := Lib.hid (show bigT 7 T = false ∧ shp T = true from ⟨by rw [hT]; exact HOKE.out.1, by have q := HOKE.out.2.1; rw [← hT] at q; unfold goodT at q; rw [Bool.and_eq_true] at q; exact q.2⟩)
                                  rw [← hT] at z1 z2 z3 z4 tre HTE
                                  have CVE := Lib.hid (fun W (hW : Below wr.heap.size wr W) => vars_any (Nat.le_refl 7) HO1.out.1 HO1.out.2 (⟨A', c', rfl, tre.later hW⟩ : TIn W any0 T (.agg #[.int .i64 T.k, .string T.nm, .int .i64 T.vr, .slice A' T.args.length c'])))
                                  obtain ⟨hs, hhs⟩ : ∃ l, l = varsOf T := ⟨_, rfl⟩
                                  rw [← hhs] at CVE HTE
                                  have HHS := Lib.hid hhs
                                  clear hre tre hbe hT hhs
                                  go_wp2_with fail
                                  refine (CVE.out _ (Below.refl _ _)).mono ?_; rintro e wh ⟨Ah, ch, rfl, oh, bh⟩
                                  have RH := Lib.hid (own_irow oh.out rfl)
                                  have BH := Lib.hid (bt BC9.out bh.out)
                                  obtain ⟨NH, hNH⟩ : ∃ z, z = hs.length := ⟨_, rfl⟩
                                  rw [← hNH]
                                  have HNH := Lib.hid hNH
                                  have hNH9 : NH ≤ 99 := by have := vars_few 6 T [] HO1.out.1 HO1.out.2; rw [hNH, HHS.out]; unfold varsOf; simp at this; omega
                                  clear oh bh z0 z1 z2 z3 z4 CVE hNH
                                  go_wp2
                                  go_loopw [17, 20] (fun hv i wr => ∃ (k : Nat) (bb : Bool), k ≤ NH ∧ hv = .bool bb ∧ i = .int .i64 k ∧ Hid (bb = decide (x ∈ takenE (E.take ke) ∨ x ∈ hs.take k)) ∧ Hid (Below wh.heap.size wh wr)) (fun _ i _ => NH - (intOf i).toNat)
                                  case atStart => exact ⟨0, bb, by omega, by first | rfl | trivial, by first | rfl | trivial, Lib.hid (by rw [HBB.out]; simp), Lib.hid (Below.refl _ _)⟩
                                  case round =>
                                    obtain ⟨kh, b2, hkh, rfl, rfl, HB2, BD9⟩ := hrel
                                    have BDD := Lib.hid (bt BH.out BD9.out)
                                    by_cases hlth : kh < NH
                                    · have hlthi : (kh : Int) < (NH : Int) := by omega
                                      have hlth' : kh < hs.length := by rw [← HNH.out]; exact hlth
                                      obtain ⟨bh, oh, rfl, hbh, hrh⟩ := (RH.out.later BD9.out).resolve_left (by rw [← HNH.out]; omega)
                                      have HTK := Lib.hid (take_snoc hlth')
                                      obtain ⟨h, hh⟩ : ∃ y, y = hs[kh] := ⟨_, rfl⟩
                                      rw [← hh] at HTK
                                      have XH := Lib.hid (fun n => ((bdn wr n).cell (p := ⟨bh, oh + kh, none⟩) hbh).trans (by rw [hh]; exact hrh kh hlth' : wr.cell? ⟨bh, oh + kh, none⟩ = some (.int .i64 h)))
                                      have XP2 := Lib.hid (fun n => XP.out _ (bt BDD.out (bdn wr n)))
                                      have DRN := Lib.hid (fun n => bt BD9.out (bdn wr n))
                                      have HNX := Lib.hid (show ∀ b3 : Bool, b3 = (b2 || decide (h = x)) → b3 = decide (x ∈ takenE (E.take ke) ∨ x ∈ hs.take (kh + 1)) from fun b3 e => by
                                        rw [e, HB2.out, HTK.out]
                                        by_cases hxx : h = x
                                        · simp [hxx]
                                        · have hxx2 : ¬ x = h := fun e => hxx e.symm
                                          simp [hxx, hxx2])
                                      have c0 := XH.out 0
                                      have d0 := XP2.out 0
                                      have c1 := XH.out
                                      have d1 := XP2.out
                                      clear hrh hh hbh
                                      cases b2 with
                                      | true =>
                                        have HN1 := Lib.hid (HNX.out true rfl)
                                        go_wp2
                                        go_quiet (fail)
                                        go_wp2
                                        go_roundw
                                        case rel => exact ⟨kh + 1, true, by omega, by first | rfl | trivial, by go_num, HN1, Lib.hid (by first | exact DRN.out _ | exact BD9.out | exact bt BD9.out (bdr _))⟩
                                        case measure => simp [intOf]; omega
                                      | false =>
                                        by_cases hxx : h = x
                                        · have qx : (h == x) = true := by rw [hxx]; exact beq_self_eq_true x
                                          have HN1 := Lib.hid (HNX.out true (by rw [decide_eq_true hxx]; rfl))
                                          clear hxx
                                          go_wp2
                                          go_quiet (fail)
                                          go_wp2
                                          go_roundw
                                          case rel => exact ⟨kh + 1, true, by omega, by first | rfl | trivial, by go_num, HN1, Lib.hid (by first | exact DRN.out _ | exact BD9.out | exact bt BD9.out (bdr _))⟩
                                          case measure => simp [intOf]; omega
                                        · have qx : (h == x) = false := beq_eq_false_iff_ne.2 hxx
                                          have HN1 := Lib.hid (HNX.out false (by rw [decide_eq_false hxx]; rfl))
                                          clear hxx
                                          go_wp2
                                          go_quiet (fail)
                                          go_wp2
                                          go_roundw
                                          case rel => exact ⟨kh + 1, false, by omega, by first | rfl | trivial, by go_num, HN1, Lib.hid (by first | exact DRN.out _ | exact BD9.out | exact bt BD9.out (bdr _))⟩
                                          case measure => simp [intOf]; omega
                                    · obtain rfl : NH = kh := by omega
                                      have hge : ¬ (NH : Int) < (NH : Int) := by omega
                                      have HBN := Lib.hid (show b2 = decide (x ∈ takenE (E.take (ke + 1))) by rw [HB2.out, HNH.out, List.take_length]; exact decide_eq_decide.2 HTE.out.symm)
                                      go_wp2
                                      go_roundw
                                      case rel => exact ⟨ke + 1, b2, by omega, by first | rfl | trivial, by go_num, HBN, BDD⟩
                                      case measure => simp [intOf]; omega
                                · obtain rfl : NE = ke := by omega
                                  have hge : ¬ (NE : Int) < (NE : Int) := by omega
                                  have HBF := Lib.hid (show bb = decide (x ∈ takenE E) by rw [HBB.out, HNE.out, List.take_length])
                                  have DRN := Lib.hid (fun n => bt BC9.out (bdn wr n))
                                  have c0 := XP.out _ (DRN.out 0)
                                  have d0 := XQ.out _ (DRN.out 0)
                                  have c1 := fun n => XP.out _ (DRN.out n)
                                  have d1 := fun n => XQ.out _ (DRN.out n)
                                  by_cases hxy : x = y
                                  · have qx : (x == y) = true := by rw [hxy]; exact beq_self_eq_true y
                                    have hbb : bb = true := by rw [HBF.out]; exact decide_eq_true (KY.out hxy)
                                    subst hbb
                                    clear hxy
                                    go_wp2
                                    go_quiet (fail)
                                    go_wp2
                                    go_roundw
                                    case rel => exact ⟨kq + 1, by omega, by go_num, Lib.hid (by first | exact DRN.out _ | exact BC9.out | exact bt BC9.out (bdr _))⟩
                                    case measure => simp [intOf]; omega
                                  · have qx : (x == y) = false := beq_eq_false_iff_ne.2 hxy
                                    clear hxy
                                    go_wp2
                                    go_quiet (fail)
                                    go_wp2
                                    go_roundw
                                    case rel => exact ⟨kq + 1, by omega, by go_num, Lib.hid (by first | exact DRN.out _ | exact BC9.out | exact bt BC9.out (bdr _))⟩
                                    case measure => simp [intOf]; omega
                            · obtain rfl : NQ = kq := by omega
                              have hge : ¬ (NQ : Int) < (NQ : Int) := by omega
                              go_wp2
                              go_roundw
                              case rel => exact ⟨kp + 1, by omega, by go_num, BB⟩
                              case measure => simp [intOf]; omega
                        · obtain rfl : NP = kp := by omega
                          have hge : ¬ (NP : Int) < (NP : Int) := by omega
                          have BL := Lib.hid (bt BJ9.out BA.out)
                          have XL := Lib.hid ((BL.out.block X (Array.getElem?_eq_some_iff.1 XJ.out).1).trans XJ.out)
                          have YL := Lib.hid ((BL.out.block Y (Array.getElem?_eq_some_iff.1 YJ.out).1).trans YJ.out)
                          have ZL := Lib.hid ((BL.out.block w.heap.size (Array.getElem?_eq_some_iff.1 ZJ.out).1).trans ZJ.out)
                          have CL := Lib.hid ((BL.out.block cb (Array.getElem?_eq_some_iff.1 CJ.out).1).trans CJ.out)
                          have BWL := Lib.hid (bt BJ.out BL.out)
                          obtain ⟨T, hT⟩ : ∃ T, T = showT V := ⟨_, rfl⟩
                          have S1 := Lib.hid (fun W (hW : Below wr.heap.size wr W) => show_any H1.out.1 H1.out.2 (⟨A1, c1, rfl, RX.out.later (bt BL.out hW)⟩ : TIn W any0 U1 (.agg #[.int .i64 U1.k, .string U1.nm, .int .i64 U1.vr, .slice A1 U1.args.length c1])))
                          have S2 := Lib.hid (fun W (hW : Below wr.heap.size wr W) => show_any H2.out.1 H2.out.2 (⟨A2, c2, rfl, RY.out.later (bt BL.out hW)⟩ : TIn W any0 U2 (.agg #[.int .i64 U2.k, .string U2.nm, .int .i64 U2.vr, .slice A2 U2.args.length c2])))
                          have SV := Lib.hid (fun W (hW : Below wr.heap.size wr W) => show_any HBG.out HSH.out (HIN.out.later (bt BWL.out hW)))
                          have GD := Lib.hid (fun W (hW : Below wr.heap.size wr W) => sgood_len (ca := ca7) (c := c7) (Nat.le_refl 7) HBG.out (show all.length ≤ 9223372036854775807 by have := HM.out; omega) (IJ.out.later (bt BL.out hW)) (TJ.out.later (bt BL.out hW)))
                          rw [KEY.out.2.1, ← hT] at S1
                          rw [KEY.out.2.2, ← hT] at S2
                          rw [← hT] at SV
                          rw [HSG.out, ← HM.out] at GD
                          unfold scv at GD
                          clear hT
                          go_wp2_with fail
                          refine wp_region_D [14] (fun w' => Below wr.heap.size wr w') (by kernel_rfl) (bdr wr) (fun hHeld => ?_)
                          refine WD_take (i := 0) (oi := { dst := some 155, op := Go.Op.load 24 (Go.Operand.tmp 11), type := 24, pos := _, after := #[], guard := none }) (v := ?vc0) rfl (by kernel_rfl) (by kernel_rfl) (by kernel_rfl) (by kernel_rfl) (fun _ _ _ h => h) (Or.inl ⟨by rfl, ?hyc0⟩) hHeld ?_
                          case hyc0 => (intro wz hSw; (try dsimp only at hSw); have zc := (zero_cells ((hSw.block X (Array.getElem?_eq_some_iff.1 XL.out).1).trans XL.out)).1; have z0 := zc.1; have z1 := zc.2.1; have z2 := zc.2.2.1; have z3 := zc.2.2.2; clear zc; go_simp; try with_reducible rfl)
                          (try simp only [Act.put, List.setIfInBounds_toArray, List.set_cons_zero, List.set_cons_succ])
                          refine WD_take (i := 2) (oi := { dst := some 157, op := Go.Op.load 24 (Go.Operand.tmp 2), type := 24, pos := _, after := #[], guard := none }) (v := ?vc2) rfl (by kernel_rfl) (by kernel_rfl) (by kernel_rfl) (by kernel_rfl) (fun _ _ _ h => h) (Or.inl ⟨by rfl, ?hyc2⟩) hHeld ?_
                          case hyc2 => (intro wz hSw; (try dsimp only at hSw); have zc := cell4 ((hSw.block w.heap.size (Array.getElem?_eq_some_iff.1 ZL.out).1).trans ZL.out); have z0 := zc.1; have z1 := zc.2.1; have z2 := zc.2.2.1; have z3 := zc.2.2.2; clear zc; go_simp; try with_reducible rfl)
                          (try simp only [Act.put, List.setIfInBounds_toArray, List.set_cons_zero, List.set_cons_succ])
                          refine WD_ready (rs := [1]) (by kernel_rfl) (by simp) ?_
                          refine AllD.cons (o := _) rfl (fun K hK => ?_) AllD.nil
                          rw [if_pos (by rfl)]
                          go_simp
                          refine (S1.out _ hHeld).mono ?_; rintro e w_1 ⟨rfl, b_1⟩
                          try go_wp2_with fail
                          refine hK.out _ _ (bt hHeld b_1) (fun hHeld => ?_)
                          clear hK K
                          (try simp only [Act.put, List.setIfInBounds_toArray, List.set_cons_zero, List.set_cons_succ])
                          clear b_1
                          refine WD_ready (rs := [3]) (by kernel_rfl) (by simp) ?_
                          refine AllD.cons (o := _) rfl (fun K hK => ?_) AllD.nil
                          rw [if_pos (by rfl)]
                          go_simp
                          refine (SV.out _ hHeld).mono ?_; rintro e w_2 ⟨rfl, b_2⟩
                          try go_wp2_with fail
                          refine hK.out _ _ (bt hHeld b_2) (fun hHeld => ?_)
                          clear hK K
                          (try simp only [Act.put, List.setIfInBounds_toArray, List.set_cons_zero, List.set_cons_succ])
                          clear b_2
                          refine WD_take (i := 4) (oi := { dst := some 159, op := Go.Op.binOp Go.BinOp.eql 9 (Go.Operand.tmp 156) (Go.Operand.tmp 158) 9, type := 4, pos := _, after := #[{ on := 1, ground := Go.Ground.data }, { on := 3, ground := Go.Ground.data }], guard := none }) (v := ?vc4) rfl (by kernel_rfl) (by kernel_rfl) (by kernel_rfl) (by kernel_rfl) (fun _ _ _ h => h) (Or.inl ⟨by rfl, ?hyc4⟩) hHeld ?_
                          case hyc4 => (intro wz hSw; (try dsimp only at hSw); go_simp; try with_reducible rfl)
                          (try simp only [Act.put, List.setIfInBounds_toArray, List.set_cons_zero, List.set_cons_succ])
                          refine WD_take (i := 5) (oi := { dst := some 160, op := Go.Op.move (Go.Operand.tmp 159), type := 4, pos := _, after := #[{ on := 4, ground := Go.Ground.data }, { on := 3, ground := Go.Ground.chain }], guard := none }) (v := ?vc5) rfl (by kernel_rfl) (by kernel_rfl) (by kernel_rfl) (by kernel_rfl) (fun _ _ _ h => h) (Or.inl ⟨by rfl, ?hyc5⟩) hHeld ?_
                          case hyc5 => (intro wz hSw; (try dsimp only at hSw); go_simp; try with_reducible rfl)
                          (try simp only [Act.put, List.setIfInBounds_toArray, List.set_cons_zero, List.set_cons_succ])
                          refine WD_take (i := 6) (oi := { dst := some 161, op := Go.Op.load 24 (Go.Operand.tmp 12), type := 24, pos := _, after := #[{ on := 5, ground := Go.Ground.guard }], guard := some (5, true) }) (v := ?vc6) rfl (by kernel_rfl) (by kernel_rfl) (by kernel_rfl) (by kernel_rfl) (fun _ _ _ h => h) (Or.inl ⟨by rfl, ?hyc6⟩) hHeld ?_
                          case hyc6 => (intro wz hSw; (try dsimp only at hSw); have zc := (zero_cells ((hSw.block Y (Array.getElem?_eq_some_iff.1 YL.out).1).trans YL.out)).1; have z0 := zc.1; have z1 := zc.2.1; have z2 := zc.2.2.1; have z3 := zc.2.2.2; clear zc; go_simp; try with_reducible rfl)
                          (try simp only [Act.put, List.setIfInBounds_toArray, List.set_cons_zero, List.set_cons_succ])
                          refine WD_take (i := 8) (oi := { dst := some 163, op := Go.Op.load 24 (Go.Operand.tmp 2), type := 24, pos := _, after := #[{ on := 5, ground := Go.Ground.guard }], guard := some (5, true) }) (v := ?vc8) rfl (by kernel_rfl) (by kernel_rfl) (by kernel_rfl) (by kernel_rfl) (fun _ _ _ h => h) (Or.inl ⟨by rfl, ?hyc8⟩) hHeld ?_
                          case hyc8 => (intro wz hSw; (try dsimp only at hSw); have zc := cell4 ((hSw.block w.heap.size (Array.getElem?_eq_some_iff.1 ZL.out).1).trans ZL.out); have z0 := zc.1; have z1 := zc.2.1; have z2 := zc.2.2.1; have z3 := zc.2.2.2; clear zc; go_simp; try with_reducible rfl)
                          (try simp only [Act.put, List.setIfInBounds_toArray, List.set_cons_zero, List.set_cons_succ])
                          refine WD_ready (rs := [7]) (by kernel_rfl) (by simp) ?_
                          refine AllD.cons (o := _) rfl (fun K hK => ?_) AllD.nil
                          rw [if_pos (by rfl)]
                          go_simp
                          refine (S2.out _ hHeld).mono ?_; rintro e w_3 ⟨rfl, b_3⟩
                          try go_wp2_with fail
                          refine hK.out _ _ (bt hHeld b_3) (fun hHeld => ?_)
                          clear hK K
                          (try simp only [Act.put, List.setIfInBounds_toArray, List.set_cons_zero, List.set_cons_succ])
                          clear b_3
                          refine WD_ready (rs := [9]) (by kernel_rfl) (by simp) ?_
                          refine AllD.cons (o := _) rfl (fun K hK => ?_) AllD.nil
                          rw [if_pos (by rfl)]
                          go_simp
                          refine (SV.out _ hHeld).mono ?_; rintro e w_4 ⟨rfl, b_4⟩
                          try go_wp2_with fail
                          refine hK.out _ _ (bt hHeld b_4) (fun hHeld => ?_)
                          clear hK K
                          (try simp only [Act.put, List.setIfInBounds_toArray, List.set_cons_zero, List.set_cons_succ])
                          clear b_4
                          refine WD_take (i := 10) (oi := { dst := some 165, op := Go.Op.binOp Go.BinOp.eql 9 (Go.Operand.tmp 162) (Go.Operand.tmp 164) 9, type := 4, pos := _, after := #[{ on := 7, ground := Go.Ground.data }, { on := 9, ground := Go.Ground.data }, { on := 5, ground := Go.Ground.guard }], guard := some (5, true) }) (v := ?vc10) rfl (by kernel_rfl) (by kernel_rfl) (by kernel_rfl) (by kernel_rfl) (fun _ _ _ h => h) (Or.inl ⟨by rfl, ?hyc10⟩) hHeld ?_
                          case hyc10 => (intro wz hSw; (try dsimp only at hSw); go_simp; try with_reducible rfl)
                          (try simp only [Act.put, List.setIfInBounds_toArray, List.set_cons_zero, List.set_cons_succ])
                          refine WD_take (i := 11) (oi := { dst := some 166, op := Go.Op.pick (Go.Operand.tmp 160) (Go.Operand.tmp 165) (Go.Operand.const (Go.Value.bool false)), type := 4, pos := _, after := #[{ on := 5, ground := Go.Ground.data }, { on := 10, ground := Go.Ground.data }], guard := none }) (v := ?vc11) rfl (by kernel_rfl) (by kernel_rfl) (by kernel_rfl) (by kernel_rfl) (fun _ _ _ h => h) (Or.inl ⟨by rfl, ?hyc11⟩) hHeld ?_
                          case hyc11 => (intro wz hSw; (try dsimp only at hSw); go_simp; try with_reducible rfl)
                          (try simp only [Act.put, List.setIfInBounds_toArray, List.set_cons_zero, List.set_cons_succ])
                          refine WD_take (i := 12) (oi := { dst := some 167, op := Go.Op.move (Go.Operand.tmp 166), type := 4, pos := _, after := #[{ on := 11, ground := Go.Ground.data }, { on := 9, ground := Go.Ground.chain }], guard := none }) (v := ?vc12) rfl (by kernel_rfl) (by kernel_rfl) (by kernel_rfl) (by kernel_rfl) (fun _ _ _ h => h) (Or.inl ⟨by rfl, ?hyc12⟩) hHeld ?_
                          case hyc12 => (intro wz hSw; (try dsimp only at hSw); go_simp; try with_reducible rfl)
                          (try simp only [Act.put, List.setIfInBounds_toArray, List.set_cons_zero, List.set_cons_succ])
                          refine WD_take (i := 13) (oi := { dst := some 168, op := Go.Op.load 34 (Go.Operand.tmp 10), type := 34, pos := _, after := #[{ on := 12, ground := Go.Ground.guard }], guard := some (12, true) }) (v := ?vc13) rfl (by kernel_rfl) (by kernel_rfl) (by kernel_rfl) (by kernel_rfl) (fun _ _ _ h => h) (Or.inl ⟨by rfl, ?hyc13⟩) hHeld ?_
                          case hyc13 => (intro wz hSw; (try dsimp only at hSw); have zc := (five_cells ((hSw.block cb (Array.getElem?_eq_some_iff.1 CL.out).1).trans CL.out)).1; have z0 := zc.1; have z1 := zc.2.1; have z2 := zc.2.2.1; have z3 := zc.2.2.2.1; have z4 := zc.2.2.2.2; clear zc; go_simp; try with_reducible rfl)
                          (try simp only [Act.put, List.setIfInBounds_toArray, List.set_cons_zero, List.set_cons_succ])
                          have HH := Lib.hid hHeld
                          clear hHeld
                          refine WD_ready (rs := [14]) (by kernel_rfl) (by simp) ?_
                          refine AllD.last (o := _) rfl (by kernel_rfl) (fun K hK => ?_) AllD.nil
                          rw [if_pos (by rfl)]
                          go_simp
                          refine (GD.out _ HH.out).mono ?_; rintro e w_9 ⟨rfl, b_9⟩
                          try go_wp2_with fail
                          refine hK.out _ _ ?_
                          clear hK K
                          (try simp only [Act.put, List.setIfInBounds_toArray, List.set_cons_zero, List.set_cons_succ])
                          refine WD_takeAny (i := 15) (oi := { dst := some 170, op := Go.Op.pick (Go.Operand.tmp 167) (Go.Operand.tmp 169) (Go.Operand.const (Go.Value.bool false)), type := 4, pos := _, after := #[{ on := 12, ground := Go.Ground.data }, { on := 14, ground := Go.Ground.data }], guard := none }) (v := ?vc15) rfl (by kernel_rfl) (by kernel_rfl) (by kernel_rfl) (by kernel_rfl) (fun _ _ _ h => h) (Or.inl ⟨by rfl, ?hyc15⟩) ?_
                          case hyc15 => (intro wz _; go_simp; try with_reducible rfl)
                          (try simp only [Act.put, List.setIfInBounds_toArray, List.set_cons_zero, List.set_cons_succ])
                          refine WD_takeAny (i := 16) (oi := { dst := some 4, op := Go.Op.assign (Go.Operand.tmp 170), type := 4, pos := _, after := #[{ on := 15, ground := Go.Ground.data }, { on := 14, ground := Go.Ground.chain }, { on := 0, ground := Go.Ground.phase }, { on := 1, ground := Go.Ground.phase }, { on := 2, ground := Go.Ground.phase }, { on := 3, ground := Go.Ground.phase }, { on := 4, ground := Go.Ground.phase }, { on := 5, ground := Go.Ground.phase }, { on := 6, ground := Go.Ground.phase }, { on := 7, ground := Go.Ground.phase }, { on := 8, ground := Go.Ground.phase }, { on := 9, ground := Go.Ground.phase }, { on := 10, ground := Go.Ground.phase }, { on := 11, ground := Go.Ground.phase }, { on := 12, ground := Go.Ground.phase }, { on := 13, ground := Go.Ground.phase }, { on := 14, ground := Go.Ground.phase }, { on := 15, ground := Go.Ground.phase }], guard := none }) (v := ?vc16) rfl (by kernel_rfl) (by kernel_rfl) (by kernel_rfl) (by kernel_rfl) (fun _ _ _ h => h) (Or.inl ⟨by rfl, ?hyc16⟩) ?_
                          case hyc16 => (intro wz _; go_simp; try with_reducible rfl)
                          (try simp only [Act.put, List.setIfInBounds_toArray, List.set_cons_zero, List.set_cons_succ])
                          refine WD_done (by kernel_rfl) ?_ _
                          have FIN := Lib.hid (bt BWL.out (bt HH.out b_9))
                          clear HH b_9
                          go_wp2
                          go_ret
                          exact ⟨rfl, FIN.out⟩
                    all_goals exact hq.elim
                  clear hK K
                  as_aux_lemma =>
                  refine wp_region_D [9] (fun w' => Frm wC w' (· = sb)) (by kernel_rfl) (Frm.of_below (bdr wC) (Nat.le_refl _) _) (fun hHeld => ?_)
                  refine WD_take (i := 0) (oi := { dst := some 90, op := Go.Op.move (Go.Operand.tmp 5), type := 29, pos := _, after := #[], guard := none }) (v := ?va0) rfl (by kernel_rfl) (by kernel_rfl) (by kernel_rfl) (by kernel_rfl) (fun _ _ _ h => h) (Or.inl ⟨by rfl, ?hya0⟩) hHeld ?_
                  case hya0 => (intro wz hSw; (try dsimp only at hSw); go_simp; try with_reducible rfl)
                  (try simp only [Act.put, List.setIfInBounds_toArray, List.set_cons_zero, List.set_cons_succ])
                  refine WD_take (i := 1) (oi := { dst := some 91, op := Go.Op.load 34 (Go.Operand.tmp 10), type := 34, pos := _, after := #[], guard := none }) (v := ?va1) rfl (by kernel_rfl) (by kernel_rfl) (by kernel_rfl) (by kernel_rfl) (fun _ _ _ h => h) (Or.inl ⟨by rfl, ?hya1⟩) hHeld ?_
                  case hya1 => (intro wz hSw; (try dsimp only at hSw); have zc := (five_cells ((hSw.block cb QC.out.2 QC.out.1).trans CB.out)).1; have z0 := zc.1; have z1 := zc.2.1; have z2 := zc.2.2.1; have z3 := zc.2.2.2.1; have z4 := zc.2.2.2.2; clear zc; go_simp; try with_reducible rfl)
                  (try simp only [Act.put, List.setIfInBounds_toArray, List.set_cons_zero, List.set_cons_succ])
                  refine WD_take (i := 3) (oi := { dst := some 93, op := Go.Op.move (Go.Operand.tmp 5), type := 29, pos := _, after := #[], guard := none }) (v := ?va3) rfl (by kernel_rfl) (by kernel_rfl) (by kernel_rfl) (by kernel_rfl) (fun _ _ _ h => h) (Or.inl ⟨by rfl, ?hya3⟩) hHeld ?_
                  case hya3 => (intro wz hSw; (try dsimp only at hSw); go_simp; try with_reducible rfl)
                  (try simp only [Act.put, List.setIfInBounds_toArray, List.set_cons_zero, List.set_cons_succ])
                  refine WD_take (i := 4) (oi := { dst := some 94, op := Go.Op.load 34 (Go.Operand.tmp 10), type := 34, pos := _, after := #[], guard := none }) (v := ?va4) rfl (by kernel_rfl) (by kernel_rfl) (by kernel_rfl) (by kernel_rfl) (fun _ _ _ h => h) (Or.inl ⟨by rfl, ?hya4⟩) hHeld ?_
                  case hya4 => (intro wz hSw; (try dsimp only at hSw); have zc := (five_cells ((hSw.block cb QC.out.2 QC.out.1).trans CB.out)).1; have z0 := zc.1; have z1 := zc.2.1; have z2 := zc.2.2.1; have z3 := zc.2.2.2.1; have z4 := zc.2.2.2.2; clear zc; go_simp; try with_reducible rfl)
                  (try simp only [Act.put, List.setIfInBounds_toArray, List.set_cons_zero, List.set_cons_succ]); obtain ⟨w_0, hw_0⟩ : ∃ z, z = wC.drew := ⟨_, rfl⟩; rw [← hw_0] at hHeld ⊢; have B_0 := Lib.hid hHeld; have S_0 : Hid (SubE w_0 sb 20) := Lib.hid (by rw [hw_0]; exact SC.out.below (bdr wC)); have ZL_0 : Hid (∀ x ∈ [sb], x < w_0.heap.size) := Lib.hid (by rw [hw_0]; intro x hx; rw [List.mem_singleton] at hx; rw [hx]; exact HC1.out); clear hw_0 hHeld; refine WD_ready (rs := [2, 6, 7]) (by kernel_rfl) (by simp) ?_; refine AllD.cons (o := _) rfl (fun K hK => ?_) (AllD.cons (o := _) rfl (fun K hK => ?_) (AllD.cons (o := _) rfl (fun K hK => ?_) AllD.nil))
                  · rw [if_pos (by rfl)]; go_simp; refine (OV.out _ 20 (20 + M) B_0.out (by omega) (by omega) rfl S_0.out).mono ?_; rintro e w_1 ⟨f1, A1, c1, ok_1, rfl, r_1, s_1, d_1⟩; unfold tv; obtain ⟨U1, hU1⟩ : ∃ U, U = renT f1 V := ⟨_, rfl⟩; rw [← hU1] at r_1 ⊢; have HU1 := Lib.hid hU1; clear hU1
                    try go_wp2_with fail
                    refine hK.out _ _ (B_0.out.trans d_1) (fun hHeld => ?_); clear hK K; (try simp only [Act.put, List.setIfInBounds_toArray, List.set_cons_zero, List.set_cons_succ]); clear hHeld; have OK1 := Lib.hid ok_1; have D_1 := Lib.hid d_1; have B_1 := Lib.hid (B_0.out.trans D_1.out); have ZL_1 : Hid (∀ x ∈ [sb], x < w_1.heap.size) := Lib.hid (fun x hx => Nat.lt_of_lt_of_le (ZL_0.out x hx) D_1.out.size); have S_1 := Lib.hid s_1; have T1_1 := Lib.hid (r_1.weak (P' := fun b => b ∉ [sb]) (fun b _ hp => notin_ge ZL_0.out hp)); clear ok_1 r_1 s_1 d_1; refine WD_ready (rs := [5, 6, 7]) (by kernel_rfl) (by simp) ?_; refine AllD.cons (o := _) rfl (fun K hK => ?_) (AllD.cons (o := _) rfl (fun K hK => ?_) (AllD.cons (o := _) rfl (fun K hK => ?_) AllD.nil))
                    · rw [if_pos (by rfl)]; go_simp; refine (OV.out _ (20 + M) (20 + M + M) B_1.out (by omega) (by omega) rfl S_1.out).mono ?_; rintro e w_2 ⟨f2, A2, c2, ok_2, rfl, r_2, s_2, d_2⟩; unfold tv; obtain ⟨U2, hU2⟩ : ∃ U, U = renT f2 V := ⟨_, rfl⟩; rw [← hU2] at r_2 ⊢; have HU2 := Lib.hid hU2; clear hU2
                      try go_wp2_with fail
                      refine hK.out _ _ (B_1.out.trans d_2) (fun hHeld => ?_); clear hK K; (try simp only [Act.put, List.setIfInBounds_toArray, List.set_cons_zero, List.set_cons_succ]); clear hHeld; have OK2 := Lib.hid ok_2; have D_2 := Lib.hid d_2; have T1_2 := Lib.hid (T1_1.out.move (w' := w_2) (P' := fun b => b ∉ [sb]) (fun b hb hp => ⟨D_2.out.block b hb (fun e => hp (by rw [show b = sb from e]; simp)), hp⟩) D_2.out.size); have B_2 := Lib.hid (B_1.out.trans D_2.out); have ZL_2 : Hid (∀ x ∈ [sb], x < w_2.heap.size) := Lib.hid (fun x hx => Nat.lt_of_lt_of_le (ZL_1.out x hx) D_2.out.size); have S_2 := Lib.hid s_2; have T2_2 := Lib.hid (r_2.weak (P' := fun b => b ∉ [sb]) (fun b _ hp => notin_ge ZL_1.out hp)); clear ok_2 r_2 s_2 d_2; refine WD_ready (rs := [6, 7]) (by kernel_rfl) (by simp) ?_; refine AllD.cons (o := _) rfl (fun K hK => ?_) (AllD.cons (o := _) rfl (fun K hK => ?_) AllD.nil)
                      · rw [if_pos (by rfl)]; go_simp; refine hK.out _ _ (B_2.out.trans (Frm.of_below (below_alloc w_2 _) (Nat.le_refl _) _)) (fun hHeld => ?_); clear hK K; (try simp only [Act.put, List.setIfInBounds_toArray, List.set_cons_zero, List.set_cons_succ]); obtain ⟨w_3, hw_3⟩ : ∃ z, z = w_2.alloc (.cells #[.int .i64 0, .string ⟨#[]⟩, .int .i64 0, .slice none 0 0] TT24) := ⟨_, rfl⟩
                        try rw [← hw_3]
                        clear hHeld; have LB_3 : Hid (Below w_2.heap.size w_2 w_3) := Lib.hid (by rw [hw_3]; exact below_alloc w_2 _); have D_3 := Lib.hid (Frm.of_below LB_3.out (Nat.le_refl _) (· = sb)); have N_3 : Hid (w_3.heap[w_2.heap.size]? = some (.cells #[.int .i64 0, .string ⟨#[]⟩, .int .i64 0, .slice none 0 0] TT24 (0, 0))) := Lib.hid (by rw [hw_3]; exact heap_alloc_new w_2 _); obtain ⟨X, hZ_3⟩ : ∃ Z, Z = w_2.heap.size := ⟨_, rfl⟩; rw [← hZ_3] at N_3 ⊢; have T1_3 := Lib.hid (T1_2.out.move (w' := w_3) (P' := fun b => b ∉ [X, sb]) (fun b hb hp => ⟨D_3.out.block b hb (fun e => hp (by rw [show b = sb from e]; simp)), by rw [List.mem_cons, not_or]; exact ⟨by have h0 := hb; rw [← hZ_3] at h0; exact Nat.ne_of_lt h0, hp⟩⟩) D_3.out.size); have T2_3 := Lib.hid (T2_2.out.move (w' := w_3) (P' := fun b => b ∉ [X, sb]) (fun b hb hp => ⟨D_3.out.block b hb (fun e => hp (by rw [show b = sb from e]; simp)), by rw [List.mem_cons, not_or]; exact ⟨by have h0 := hb; rw [← hZ_3] at h0; exact Nat.ne_of_lt h0, hp⟩⟩) D_3.out.size); have B_3 := Lib.hid (B_2.out.trans D_3.out); have ZL_3 : Hid (∀ x ∈ [X, sb], x < w_3.heap.size) := Lib.hid (fun x hx => by rcases List.mem_cons.1 hx with h | h; (rw [h]; exact (Array.getElem?_eq_some_iff.1 N_3.out).1); exact Nat.lt_of_lt_of_le (ZL_2.out x h) D_3.out.size); have S_3 := Lib.hid (S_2.out.below LB_3.out); have ZX_3 : Hid (wC.heap.size ≤ X) := Lib.hid (by rw [hZ_3]; exact B_2.out.size); clear hw_3 hZ_3; refine WD_ready (rs := [7]) (by kernel_rfl) (by simp) ?_; refine AllD.cons (o := _) rfl (fun K hK => ?_) AllD.nil
                        · rw [if_pos (by rfl)]; go_simp; refine hK.out _ _ (B_3.out.trans (Frm.of_below (below_alloc w_3 _) (Nat.le_refl _) _)) (fun hHeld => ?_); clear hK K; (try simp only [Act.put, List.setIfInBounds_toArray, List.set_cons_zero, List.set_cons_succ]); obtain ⟨w_4, hw_4⟩ : ∃ z, z = w_3.alloc (.cells #[.int .i64 0, .string ⟨#[]⟩, .int .i64 0, .slice none 0 0] TT24) := ⟨_, rfl⟩
                          try rw [← hw_4]
                          clear hHeld; have LB_4 : Hid (Below w_3.heap.size w_3 w_4) := Lib.hid (by rw [hw_4]; exact below_alloc w_3 _); have D_4 := Lib.hid (Frm.of_below LB_4.out (Nat.le_refl _) (· = sb)); have N_4 : Hid (w_4.heap[w_3.heap.size]? = some (.cells #[.int .i64 0, .string ⟨#[]⟩, .int .i64 0, .slice none 0 0] TT24 (0, 0))) := Lib.hid (by rw [hw_4]; exact heap_alloc_new w_3 _); obtain ⟨Y, hZ_4⟩ : ∃ Z, Z = w_3.heap.size := ⟨_, rfl⟩; rw [← hZ_4] at N_4 ⊢; have T1_4 := Lib.hid (T1_3.out.move (w' := w_4) (P' := fun b => b ∉ [Y, X, sb]) (fun b hb hp => ⟨D_4.out.block b hb (fun e => hp (by rw [show b = sb from e]; simp)), by rw [List.mem_cons, not_or]; exact ⟨by have h0 := hb; rw [← hZ_4] at h0; exact Nat.ne_of_lt h0, hp⟩⟩) D_4.out.size); have T2_4 := Lib.hid (T2_3.out.move (w' := w_4) (P' := fun b => b ∉ [Y, X, sb]) (fun b hb hp => ⟨D_4.out.block b hb (fun e => hp (by rw [show b = sb from e]; simp)), by rw [List.mem_cons, not_or]; exact ⟨by have h0 := hb; rw [← hZ_4] at h0; exact Nat.ne_of_lt h0, hp⟩⟩) D_4.out.size); have X0_4 := Lib.hid ((D_4.out.block X (Array.getElem?_eq_some_iff.1 N_3.out).1 (by have := ZX_3.out; have := HC1.out; show ¬ X = sb; omega)).trans N_3.out); have B_4 := Lib.hid (B_3.out.trans D_4.out); have ZL_4 : Hid (∀ x ∈ [Y, X, sb], x < w_4.heap.size) := Lib.hid (fun x hx => by rcases List.mem_cons.1 hx with h | h; (rw [h]; exact (Array.getElem?_eq_some_iff.1 N_4.out).1); exact Nat.lt_of_lt_of_le (ZL_3.out x h) D_4.out.size); have S_4 := Lib.hid (S_3.out.below LB_4.out); have ZY_4 : Hid (wC.heap.size ≤ Y) := Lib.hid (by rw [hZ_4]; exact B_3.out.size); have XY_4 : Hid (X ≠ Y) := Lib.hid (by have h1 := (Array.getElem?_eq_some_iff.1 N_3.out).1; rw [← hZ_4] at h1; omega); clear hw_4 hZ_4; refine WD_ready (rs := [8]) (by kernel_rfl) (by simp) ?_; refine AllD.cons (o := _) rfl (fun K hK => ?_) AllD.nil
                          · obtain ⟨⟨y0, y1, y2, y3⟩, k0, k1, k2, k3⟩ := zero_cells X0_4.out; rw [if_pos (by rfl)]; go_simp; refine hK.out _ _ (B_4.out.trans' (set4_frm w_4 X (.int .i64 U1.k) (.string U1.nm) (.int .i64 U1.vr) (.slice A1 U1.args.length c1)) (fun i hi e => by have e2 : i = X := e; have := ZX_3.out; omega)) (fun hHeld => ?_); clear hK K; (try simp only [Act.put, List.setIfInBounds_toArray, List.set_cons_zero, List.set_cons_succ]); clear hHeld; obtain ⟨w_5, hw_5⟩ : ∃ z, z = ((((w_4.setCell ⟨X, 0, none⟩ (.int .i64 U1.k)).setCell ⟨X, 1, none⟩ (.string U1.nm)).setCell ⟨X, 2, none⟩ (.int .i64 U1.vr)).setCell ⟨X, 3, none⟩ (.slice A1 U1.args.length c1)) := ⟨_, rfl⟩
                            try rw [← hw_5]
                            have D_5 : Hid (Frm w_4 w_5 (· = X)) := Lib.hid (by rw [hw_5]; exact (set4_frm w_4 X (.int .i64 U1.k) (.string U1.nm) (.int .i64 U1.vr) (.slice A1 U1.args.length c1))); have XF_5 : Hid (w_5.heap[X]? = some (.cells #[.int .i64 U1.k, .string U1.nm, .int .i64 U1.vr, .slice A1 U1.args.length c1] TT24 (0, 0))) := Lib.hid (by rw [hw_5]; exact set4_heap _ _ _ _ X0_4.out); have T1_5 := Lib.hid (T1_4.out.move (w' := w_5) (P' := fun b => b ∉ [Y, X, sb]) (fun b hb hp => ⟨D_5.out.block b hb (fun e => hp (by rw [show b = X from e]; simp)), hp⟩) D_5.out.size); have T2_5 := Lib.hid (T2_4.out.move (w' := w_5) (P' := fun b => b ∉ [Y, X, sb]) (fun b hb hp => ⟨D_5.out.block b hb (fun e => hp (by rw [show b = X from e]; simp)), hp⟩) D_5.out.size); have Y0_5 := Lib.hid ((D_5.out.block Y (Array.getElem?_eq_some_iff.1 N_4.out).1 (fun e => XY_4.out e.symm)).trans N_4.out); have B_5 := Lib.hid (B_4.out.trans' D_5.out (fun i hi e => by have e2 : i = X := e; have := ZX_3.out; omega)); have ZL_5 : Hid (∀ x ∈ [Y, X, sb], x < w_5.heap.size) := Lib.hid (fun x hx => Nat.lt_of_lt_of_le (ZL_4.out x hx) D_5.out.size); clear hw_5 y0 y1 y2 y3 k0 k1 k2 k3; refine WD_ready (rs := [9]) (by kernel_rfl) (by simp) ?_; refine AllD.last (o := _) rfl (by kernel_rfl) (fun K hK => ?_) AllD.nil
                            · obtain ⟨⟨y0, y1, y2, y3⟩, k0, k1, k2, k3⟩ := zero_cells Y0_5.out; rw [if_pos (by rfl)]; go_simp; refine hK.out _ _ ?_; clear hK K; (try simp only [Act.put, List.setIfInBounds_toArray, List.set_cons_zero, List.set_cons_succ]); obtain ⟨w_6, hw_6⟩ : ∃ z, z = ((((w_5.setCell ⟨Y, 0, none⟩ (.int .i64 U2.k)).setCell ⟨Y, 1, none⟩ (.string U2.nm)).setCell ⟨Y, 2, none⟩ (.int .i64 U2.vr)).setCell ⟨Y, 3, none⟩ (.slice A2 U2.args.length c2)) := ⟨_, rfl⟩
                              try rw [← hw_6]
                              have D_6 : Hid (Frm w_5 w_6 (· = Y)) := Lib.hid (by rw [hw_6]; exact (set4_frm w_5 Y (.int .i64 U2.k) (.string U2.nm) (.int .i64 U2.vr) (.slice A2 U2.args.length c2))); have YF_6 : Hid (w_6.heap[Y]? = some (.cells #[.int .i64 U2.k, .string U2.nm, .int .i64 U2.vr, .slice A2 U2.args.length c2] TT24 (0, 0))) := Lib.hid (by rw [hw_6]; exact set4_heap _ _ _ _ Y0_5.out); have T1_6 := Lib.hid (T1_5.out.move (w' := w_6) (P' := fun b => b ∉ [Y, X, sb]) (fun b hb hp => ⟨D_6.out.block b hb (fun e => hp (by rw [show b = Y from e]; simp)), hp⟩) D_6.out.size); have T2_6 := Lib.hid (T2_5.out.move (w' := w_6) (P' := fun b => b ∉ [Y, X, sb]) (fun b hb hp => ⟨D_6.out.block b hb (fun e => hp (by rw [show b = Y from e]; simp)), hp⟩) D_6.out.size); have XF_6 := Lib.hid ((D_6.out.block X (Array.getElem?_eq_some_iff.1 XF_5.out).1 (fun e => XY_4.out e)).trans XF_5.out); have B_6 := Lib.hid (B_5.out.trans' D_6.out (fun i hi e => by have e2 : i = Y := e; have := ZY_4.out; omega)); have ZL_6 : Hid (∀ x ∈ [Y, X, sb], x < w_6.heap.size) := Lib.hid (fun x hx => Nat.lt_of_lt_of_le (ZL_5.out x hx) D_6.out.size); clear hw_6 y0 y1 y2 y3 k0 k1 k2 k3
                              refine WD_done (by kernel_rfl) ?_ _
                              exact ⟨X, Y, f1, f2, A1, c1, A2, c2, _, _, _, _, _, _, by rfl, ⟨OK1.out, OK2.out, by rw [← HU1.out]; exact XF_6.out, by rw [← HU2.out]; exact YF_6.out, by rw [← HU1.out]; exact T1_6.out.weak (fun _ _ _ => trivial), by rw [← HU2.out]; exact T2_6.out.weak (fun _ _ _ => trivial), B_6.out⟩⟩
                      · rw [if_pos (by rfl)]; go_simp; refine hK.out _ _ (B_2.out.trans (Frm.of_below (below_alloc w_2 _) (Nat.le_refl _) _)) (fun hHeld => ?_); clear hK K; (try simp only [Act.put, List.setIfInBounds_toArray, List.set_cons_zero, List.set_cons_succ]); obtain ⟨w_7, hw_7⟩ : ∃ z, z = w_2.alloc (.cells #[.int .i64 0, .string ⟨#[]⟩, .int .i64 0, .slice none 0 0] TT24) := ⟨_, rfl⟩
                        try rw [← hw_7]
                        clear hHeld; have LB_7 : Hid (Below w_2.heap.size w_2 w_7) := Lib.hid (by rw [hw_7]; exact below_alloc w_2 _); have D_7 := Lib.hid (Frm.of_below LB_7.out (Nat.le_refl _) (· = sb)); have N_7 : Hid (w_7.heap[w_2.heap.size]? = some (.cells #[.int .i64 0, .string ⟨#[]⟩, .int .i64 0, .slice none 0 0] TT24 (0, 0))) := Lib.hid (by rw [hw_7]; exact heap_alloc_new w_2 _); obtain ⟨Y, hZ_7⟩ : ∃ Z, Z = w_2.heap.size := ⟨_, rfl⟩; rw [← hZ_7] at N_7 ⊢; have T1_7 := Lib.hid (T1_2.out.move (w' := w_7) (P' := fun b => b ∉ [Y, sb]) (fun b hb hp => ⟨D_7.out.block b hb (fun e => hp (by rw [show b = sb from e]; simp)), by rw [List.mem_cons, not_or]; exact ⟨by have h0 := hb; rw [← hZ_7] at h0; exact Nat.ne_of_lt h0, hp⟩⟩) D_7.out.size); have T2_7 := Lib.hid (T2_2.out.move (w' := w_7) (P' := fun b => b ∉ [Y, sb]) (fun b hb hp => ⟨D_7.out.block b hb (fun e => hp (by rw [show b = sb from e]; simp)), by rw [List.mem_cons, not_or]; exact ⟨by have h0 := hb; rw [← hZ_7] at h0; exact Nat.ne_of_lt h0, hp⟩⟩) D_7.out.size); have B_7 := Lib.hid (B_2.out.trans D_7.out); have ZL_7 : Hid (∀ x ∈ [Y, sb], x < w_7.heap.size) := Lib.hid (fun x hx => by rcases List.mem_cons.1 hx with h | h; (rw [h]; exact (Array.getElem?_eq_some_iff.1 N_7.out).1); exact Nat.lt_of_lt_of_le (ZL_2.out x h) D_7.out.size); have S_7 := Lib.hid (S_2.out.below LB_7.out); have ZY_7 : Hid (wC.heap.size ≤ Y) := Lib.hid (by rw [hZ_7]; exact B_2.out.size); clear hw_7 hZ_7; refine WD_ready (rs := [6]) (by kernel_rfl) (by simp) ?_; refine AllD.cons (o := _) rfl (fun K hK => ?_) AllD.nil
                        · rw [if_pos (by rfl)]; go_simp; refine hK.out _ _ (B_7.out.trans (Frm.of_below (below_alloc w_7 _) (Nat.le_refl _) _)) (fun hHeld => ?_); clear hK K; (try simp only [Act.put, List.setIfInBounds_toArray, List.set_cons_zero, List.set_cons_succ]); obtain ⟨w_8, hw_8⟩ : ∃ z, z = w_7.alloc (.cells #[.int .i64 0, .string ⟨#[]⟩, .int .i64 0, .slice none 0 0] TT24) := ⟨_, rfl⟩
                          try rw [← hw_8]
                          clear hHeld; have LB_8 : Hid (Below w_7.heap.size w_7 w_8) := Lib.hid (by rw [hw_8]; exact below_alloc w_7 _); have D_8 := Lib.hid (Frm.of_below LB_8.out (Nat.le_refl _) (· = sb)); have N_8 : Hid (w_8.heap[w_7.heap.size]? = some (.cells #[.int .i64 0, .string ⟨#[]⟩, .int .i64 0, .slice none 0 0] TT24 (0, 0))) := Lib.hid (by rw [hw_8]; exact heap_alloc_new w_7 _); obtain ⟨X, hZ_8⟩ : ∃ Z, Z = w_7.heap.size := ⟨_, rfl⟩; rw [← hZ_8] at N_8 ⊢; have T1_8 := Lib.hid (T1_7.out.move (w' := w_8) (P' := fun b => b ∉ [X, Y, sb]) (fun b hb hp => ⟨D_8.out.block b hb (fun e => hp (by rw [show b = sb from e]; simp)), by rw [List.mem_cons, not_or]; exact ⟨by have h0 := hb; rw [← hZ_8] at h0; exact Nat.ne_of_lt h0, hp⟩⟩) D_8.out.size); have T2_8 := Lib.hid (T2_7.out.move (w' := w_8) (P' := fun b => b ∉ [X, Y, sb]) (fun b hb hp => ⟨D_8.out.block b hb (fun e => hp (by rw [show b = sb from e]; simp)), by rw [List.mem_cons, not_or]; exact ⟨by have h0 := hb; rw [← hZ_8] at h0; exact Nat.ne_of_lt h0, hp⟩⟩) D_8.out.size); have Y0_8 := Lib.hid ((D_8.out.block Y (Array.getElem?_eq_some_iff.1 N_7.out).1 (by have := ZY_7.out; have := HC1.out; show ¬ Y = sb; omega)).trans N_7.out); have B_8 := Lib.hid (B_7.out.trans D_8.out); have ZL_8 : Hid (∀ x ∈ [X, Y, sb], x < w_8.heap.size) := Lib.hid (fun x hx => by rcases List.mem_cons.1 hx with h | h; (rw [h]; exact (Array.getElem?_eq_some_iff.1 N_8.out).1); exact Nat.lt_of_lt_of_le (ZL_7.out x h) D_8.out.size); have S_8 := Lib.hid (S_7.out.below LB_8.out); have ZX_8 : Hid (wC.heap.size ≤ X) := Lib.hid (by rw [hZ_8]; exact B_7.out.size); have XY_8 : Hid (X ≠ Y) := Lib.hid (by have h1 := (Array.getElem?_eq_some_iff.1 N_7.out).1; rw [← hZ_8] at h1; omega); clear hw_8 hZ_8; refine WD_ready (rs := [8]) (by kernel_rfl) (by simp) ?_; refine AllD.cons (o := _) rfl (fun K hK => ?_) AllD.nil
                          · obtain ⟨⟨y0, y1, y2, y3⟩, k0, k1, k2, k3⟩ := zero_cells N_8.out; rw [if_pos (by rfl)]; go_simp; refine hK.out _ _ (B_8.out.trans' (set4_frm w_8 X (.int .i64 U1.k) (.string U1.nm) (.int .i64 U1.vr) (.slice A1 U1.args.length c1)) (fun i hi e => by have e2 : i = X := e; have := ZX_8.out; omega)) (fun hHeld => ?_); clear hK K; (try simp only [Act.put, List.setIfInBounds_toArray, List.set_cons_zero, List.set_cons_succ]); clear hHeld; obtain ⟨w_9, hw_9⟩ : ∃ z, z = ((((w_8.setCell ⟨X, 0, none⟩ (.int .i64 U1.k)).setCell ⟨X, 1, none⟩ (.string U1.nm)).setCell ⟨X, 2, none⟩ (.int .i64 U1.vr)).setCell ⟨X, 3, none⟩ (.slice A1 U1.args.length c1)) := ⟨_, rfl⟩
                            try rw [← hw_9]
                            have D_9 : Hid (Frm w_8 w_9 (· = X)) := Lib.hid (by rw [hw_9]; exact (set4_frm w_8 X (.int .i64 U1.k) (.string U1.nm) (.int .i64 U1.vr) (.slice A1 U1.args.length c1))); have XF_9 : Hid (w_9.heap[X]? = some (.cells #[.int .i64 U1.k, .string U1.nm, .int .i64 U1.vr, .slice A1 U1.args.length c1] TT24 (0, 0))) := Lib.hid (by rw [hw_9]; exact set4_heap _ _ _ _ N_8.out); have T1_9 := Lib.hid (T1_8.out.move (w' := w_9) (P' := fun b => b ∉ [X, Y, sb]) (fun b hb hp => ⟨D_9.out.block b hb (fun e => hp (by rw [show b = X from e]; simp)), hp⟩) D_9.out.size); have T2_9 := Lib.hid (T2_8.out.move (w' := w_9) (P' := fun b => b ∉ [X, Y, sb]) (fun b hb hp => ⟨D_9.out.block b hb (fun e => hp (by rw [show b = X from e]; simp)), hp⟩) D_9.out.size); have Y0_9 := Lib.hid ((D_9.out.block Y (Array.getElem?_eq_some_iff.1 Y0_8.out).1 (fun e => XY_8.out e.symm)).trans Y0_8.out); have B_9 := Lib.hid (B_8.out.trans' D_9.out (fun i hi e => by have e2 : i = X := e; have := ZX_8.out; omega)); have ZL_9 : Hid (∀ x ∈ [X, Y, sb], x < w_9.heap.size) := Lib.hid (fun x hx => Nat.lt_of_lt_of_le (ZL_8.out x hx) D_9.out.size); clear hw_9 y0 y1 y2 y3 k0 k1 k2 k3; refine WD_ready (rs := [9]) (by kernel_rfl) (by simp) ?_; refine AllD.last (o := _) rfl (by kernel_rfl) (fun K hK => ?_) AllD.nil
                            · obtain ⟨⟨y0, y1, y2, y3⟩, k0, k1, k2, k3⟩ := zero_cells Y0_9.out; rw [if_pos (by rfl)]; go_simp; refine hK.out _ _ ?_; clear hK K; (try simp only [Act.put, List.setIfInBounds_toArray, List.set_cons_zero, List.set_cons_succ]); obtain ⟨w_10, hw_10⟩ : ∃ z, z = ((((w_9.setCell ⟨Y, 0, none⟩ (.int .i64 U2.k)).setCell ⟨Y, 1, none⟩ (.string U2.nm)).setCell ⟨Y, 2, none⟩ (.int .i64 U2.vr)).setCell ⟨Y, 3, none⟩ (.slice A2 U2.args.length c2)) := ⟨_, rfl⟩
                              try rw [← hw_10]
                              have D_10 : Hid (Frm w_9 w_10 (· = Y)) := Lib.hid (by rw [hw_10]; exact (set4_frm w_9 Y (.int .i64 U2.k) (.string U2.nm) (.int .i64 U2.vr) (.slice A2 U2.args.length c2))); have YF_10 : Hid (w_10.heap[Y]? = some (.cells #[.int .i64 U2.k, .string U2.nm, .int .i64 U2.vr, .slice A2 U2.args.length c2] TT24 (0, 0))) := Lib.hid (by rw [hw_10]; exact set4_heap _ _ _ _ Y0_9.out); have T1_10 := Lib.hid (T1_9.out.move (w' := w_10) (P' := fun b => b ∉ [X, Y, sb]) (fun b hb hp => ⟨D_10.out.block b hb (fun e => hp (by rw [show b = Y from e]; simp)), hp⟩) D_10.out.size); have T2_10 := Lib.hid (T2_9.out.move (w' := w_10) (P' := fun b => b ∉ [X, Y, sb]) (fun b hb hp => ⟨D_10.out.block b hb (fun e => hp (by rw [show b = Y from e]; simp)), hp⟩) D_10.out.size); have XF_10 := Lib.hid ((D_10.out.block X (Array.getElem?_eq_some_iff.1 XF_9.out).1 (fun e => XY_8.out e)).trans XF_9.out); have B_10 := Lib.hid (B_9.out.trans' D_10.out (fun i hi e => by have e2 : i = Y := e; have := ZY_7.out; omega)); have ZL_10 : Hid (∀ x ∈ [X, Y, sb], x < w_10.heap.size) := Lib.hid (fun x hx => Nat.lt_of_lt_of_le (ZL_9.out x hx) D_10.out.size); clear hw_10 y0 y1 y2 y3 k0 k1 k2 k3
                              refine WD_done (by kernel_rfl) ?_ _
                              exact ⟨X, Y, f1, f2, A1, c1, A2, c2, _, _, _, _, _, _, by rfl, ⟨OK1.out, OK2.out, by rw [← HU1.out]; exact XF_10.out, by rw [← HU2.out]; exact YF_10.out, by rw [← HU1.out]; exact T1_10.out.weak (fun _ _ _ => trivial), by rw [← HU2.out]; exact T2_10.out.weak (fun _ _ _ => trivial), B_10.out⟩⟩
                    · rw [if_pos (by rfl)]; go_simp; refine hK.out _ _ (B_1.out.trans (Frm.of_below (below_alloc w_1 _) (Nat.le_refl _) _)) (fun hHeld => ?_); clear hK K; (try simp only [Act.put, List.setIfInBounds_toArray, List.set_cons_zero, List.set_cons_succ]); obtain ⟨w_11, hw_11⟩ : ∃ z, z = w_1.alloc (.cells #[.int .i64 0, .string ⟨#[]⟩, .int .i64 0, .slice none 0 0] TT24) := ⟨_, rfl⟩
                      try rw [← hw_11]
                      clear hHeld; have LB_11 : Hid (Below w_1.heap.size w_1 w_11) := Lib.hid (by rw [hw_11]; exact below_alloc w_1 _); have D_11 := Lib.hid (Frm.of_below LB_11.out (Nat.le_refl _) (· = sb)); have N_11 : Hid (w_11.heap[w_1.heap.size]? = some (.cells #[.int .i64 0, .string ⟨#[]⟩, .int .i64 0, .slice none 0 0] TT24 (0, 0))) := Lib.hid (by rw [hw_11]; exact heap_alloc_new w_1 _); obtain ⟨X, hZ_11⟩ : ∃ Z, Z = w_1.heap.size := ⟨_, rfl⟩; rw [← hZ_11] at N_11 ⊢; have T1_11 := Lib.hid (T1_1.out.move (w' := w_11) (P' := fun b => b ∉ [X, sb]) (fun b hb hp => ⟨D_11.out.block b hb (fun e => hp (by rw [show b = sb from e]; simp)), by rw [List.mem_cons, not_or]; exact ⟨by have h0 := hb; rw [← hZ_11] at h0; exact Nat.ne_of_lt h0, hp⟩⟩) D_11.out.size); have B_11 := Lib.hid (B_1.out.trans D_11.out); have ZL_11 : Hid (∀ x ∈ [X, sb], x < w_11.heap.size) := Lib.hid (fun x hx => by rcases List.mem_cons.1 hx with h | h; (rw [h]; exact (Array.getElem?_eq_some_iff.1 N_11.out).1); exact Nat.lt_of_lt_of_le (ZL_1.out x h) D_11.out.size); have S_11 := Lib.hid (S_1.out.below LB_11.out); have ZX_11 : Hid (wC.heap.size ≤ X) := Lib.hid (by rw [hZ_11]; exact B_1.out.size); clear hw_11 hZ_11; refine WD_ready (rs := [5, 7]) (by kernel_rfl) (by simp) ?_; refine AllD.cons (o := _) rfl (fun K hK => ?_) (AllD.cons (o := _) rfl (fun K hK => ?_) AllD.nil)
                      · rw [if_pos (by rfl)]; go_simp; refine (OV.out _ (20 + M) (20 + M + M) B_11.out (by omega) (by omega) rfl S_11.out).mono ?_; rintro e w_12 ⟨f2, A2, c2, ok_12, rfl, r_12, s_12, d_12⟩; unfold tv; obtain ⟨U2, hU2⟩ : ∃ U, U = renT f2 V := ⟨_, rfl⟩; rw [← hU2] at r_12 ⊢; have HU2 := Lib.hid hU2; clear hU2
                        try go_wp2_with fail
                        refine hK.out _ _ (B_11.out.trans d_12) (fun hHeld => ?_); clear hK K; (try simp only [Act.put, List.setIfInBounds_toArray, List.set_cons_zero, List.set_cons_succ]); clear hHeld; have OK2 := Lib.hid ok_12; have D_12 := Lib.hid d_12; have T1_12 := Lib.hid (T1_11.out.move (w' := w_12) (P' := fun b => b ∉ [X, sb]) (fun b hb hp => ⟨D_12.out.block b hb (fun e => hp (by rw [show b = sb from e]; simp)), hp⟩) D_12.out.size); have X0_12 := Lib.hid ((D_12.out.block X (Array.getElem?_eq_some_iff.1 N_11.out).1 (by have := ZX_11.out; have := HC1.out; show ¬ X = sb; omega)).trans N_11.out); have B_12 := Lib.hid (B_11.out.trans D_12.out); have ZL_12 : Hid (∀ x ∈ [X, sb], x < w_12.heap.size) := Lib.hid (fun x hx => Nat.lt_of_lt_of_le (ZL_11.out x hx) D_12.out.size); have S_12 := Lib.hid s_12; have T2_12 := Lib.hid (r_12.weak (P' := fun b => b ∉ [X, sb]) (fun b _ hp => notin_ge ZL_11.out hp)); clear ok_12 r_12 s_12 d_12; refine WD_ready (rs := [7]) (by kernel_rfl) (by simp) ?_; refine AllD.cons (o := _) rfl (fun K hK => ?_) AllD.nil
                        · rw [if_pos (by rfl)]; go_simp; refine hK.out _ _ (B_12.out.trans (Frm.of_below (below_alloc w_12 _) (Nat.le_refl _) _)) (fun hHeld => ?_); clear hK K; (try simp only [Act.put, List.setIfInBounds_toArray, List.set_cons_zero, List.set_cons_succ]); obtain ⟨w_13, hw_13⟩ : ∃ z, z = w_12.alloc (.cells #[.int .i64 0, .string ⟨#[]⟩, .int .i64 0, .slice none 0 0] TT24) := ⟨_, rfl⟩
                          try rw [← hw_13]
                          clear hHeld; have LB_13 : Hid (Below w_12.heap.size w_12 w_13) := Lib.hid (by rw [hw_13]; exact below_alloc w_12 _); have D_13 := Lib.hid (Frm.of_below LB_13.out (Nat.le_refl _) (· = sb)); have N_13 : Hid (w_13.heap[w_12.heap.size]? = some (.cells #[.int .i64 0, .string ⟨#[]⟩, .int .i64 0, .slice none 0 0] TT24 (0, 0))) := Lib.hid (by rw [hw_13]; exact heap_alloc_new w_12 _); obtain ⟨Y, hZ_13⟩ : ∃ Z, Z = w_12.heap.size := ⟨_, rfl⟩; rw [← hZ_13] at N_13 ⊢; have T1_13 := Lib.hid (T1_12.out.move (w' := w_13) (P' := fun b => b ∉ [Y, X, sb]) (fun b hb hp => ⟨D_13.out.block b hb (fun e => hp (by rw [show b = sb from e]; simp)), by rw [List.mem_cons, not_or]; exact ⟨by have h0 := hb; rw [← hZ_13] at h0; exact Nat.ne_of_lt h0, hp⟩⟩) D_13.out.size); have T2_13 := Lib.hid (T2_12.out.move (w' := w_13) (P' := fun b => b ∉ [Y, X, sb]) (fun b hb hp => ⟨D_13.out.block b hb (fun e => hp (by rw [show b = sb from e]; simp)), by rw [List.mem_cons, not_or]; exact ⟨by have h0 := hb; rw [← hZ_13] at h0; exact Nat.ne_of_lt h0, hp⟩⟩) D_13.out.size); have X0_13 := Lib.hid ((D_13.out.block X (Array.getElem?_eq_some_iff.1 X0_12.out).1 (by have := ZX_11.out; have := HC1.out; show ¬ X = sb; omega)).trans X0_12.out); have B_13 := Lib.hid (B_12.out.trans D_13.out); have ZL_13 : Hid (∀ x ∈ [Y, X, sb], x < w_13.heap.size) := Lib.hid (fun x hx => by rcases List.mem_cons.1 hx with h | h; (rw [h]; exact (Array.getElem?_eq_some_iff.1 N_13.out).1); exact Nat.lt_of_lt_of_le (ZL_12.out x h) D_13.out.size); have S_13 := Lib.hid (S_12.out.below LB_13.out); have ZY_13 : Hid (wC.heap.size ≤ Y) := Lib.hid (by rw [hZ_13]; exact B_12.out.size); have XY_13 : Hid (X ≠ Y) := Lib.hid (by have h1 := (Array.getElem?_eq_some_iff.1 X0_12.out).1; rw [← hZ_13] at h1; omega); clear hw_13 hZ_13; refine WD_ready (rs := [8]) (by kernel_rfl) (by simp) ?_; refine AllD.cons (o := _) rfl (fun K hK => ?_) AllD.nil
                          · obtain ⟨⟨y0, y1, y2, y3⟩, k0, k1, k2, k3⟩ := zero_cells X0_13.out; rw [if_pos (by rfl)]; go_simp; refine hK.out _ _ (B_13.out.trans' (set4_frm w_13 X (.int .i64 U1.k) (.string U1.nm) (.int .i64 U1.vr) (.slice A1 U1.args.length c1)) (fun i hi e => by have e2 : i = X := e; have := ZX_11.out; omega)) (fun hHeld => ?_); clear hK K; (try simp only [Act.put, List.setIfInBounds_toArray, List.set_cons_zero, List.set_cons_succ]); clear hHeld; obtain ⟨w_14, hw_14⟩ : ∃ z, z = ((((w_13.setCell ⟨X, 0, none⟩ (.int .i64 U1.k)).setCell ⟨X, 1, none⟩ (.string U1.nm)).setCell ⟨X, 2, none⟩ (.int .i64 U1.vr)).setCell ⟨X, 3, none⟩ (.slice A1 U1.args.length c1)) := ⟨_, rfl⟩
                            try rw [← hw_14]
                            have D_14 : Hid (Frm w_13 w_14 (· = X)) := Lib.hid (by rw [hw_14]; exact (set4_frm w_13 X (.int .i64 U1.k) (.string U1.nm) (.int .i64 U1.vr) (.slice A1 U1.args.length c1))); have XF_14 : Hid (w_14.heap[X]? = some (.cells #[.int .i64 U1.k, .string U1.nm, .int .i64 U1.vr, .slice A1 U1.args.length c1] TT24 (0, 0))) := Lib.hid (by rw [hw_14]; exact set4_heap _ _ _ _ X0_13.out); have T1_14 := Lib.hid (T1_13.out.move (w' := w_14) (P' := fun b => b ∉ [Y, X, sb]) (fun b hb hp => ⟨D_14.out.block b hb (fun e => hp (by rw [show b = X from e]; simp)), hp⟩) D_14.out.size); have T2_14 := Lib.hid (T2_13.out.move (w' := w_14) (P' := fun b => b ∉ [Y, X, sb]) (fun b hb hp => ⟨D_14.out.block b hb (fun e => hp (by rw [show b = X from e]; simp)), hp⟩) D_14.out.size); have Y0_14 := Lib.hid ((D_14.out.block Y (Array.getElem?_eq_some_iff.1 N_13.out).1 (fun e => XY_13.out e.symm)).trans N_13.out); have B_14 := Lib.hid (B_13.out.trans' D_14.out (fun i hi e => by have e2 : i = X := e; have := ZX_11.out; omega)); have ZL_14 : Hid (∀ x ∈ [Y, X, sb], x < w_14.heap.size) := Lib.hid (fun x hx => Nat.lt_of_lt_of_le (ZL_13.out x hx) D_14.out.size); clear hw_14 y0 y1 y2 y3 k0 k1 k2 k3; refine WD_ready (rs := [9]) (by kernel_rfl) (by simp) ?_; refine AllD.last (o := _) rfl (by kernel_rfl) (fun K hK => ?_) AllD.nil
                            · obtain ⟨⟨y0, y1, y2, y3⟩, k0, k1, k2, k3⟩ := zero_cells Y0_14.out; rw [if_pos (by rfl)]; go_simp; refine hK.out _ _ ?_; clear hK K; (try simp only [Act.put, List.setIfInBounds_toArray, List.set_cons_zero, List.set_cons_succ]); obtain ⟨w_15, hw_15⟩ : ∃ z, z = ((((w_14.setCell ⟨Y, 0, none⟩ (.int .i64 U2.k)).setCell ⟨Y, 1, none⟩ (.string U2.nm)).setCell ⟨Y, 2, none⟩ (.int .i64 U2.vr)).setCell ⟨Y, 3, none⟩ (.slice A2 U2.args.length c2)) := ⟨_, rfl⟩
                              try rw [← hw_15]
                              have D_15 : Hid (Frm w_14 w_15 (· = Y)) := Lib.hid (by rw [hw_15]; exact (set4_frm w_14 Y (.int .i64 U2.k) (.string U2.nm) (.int .i64 U2.vr) (.slice A2 U2.args.length c2))); have YF_15 : Hid (w_15.heap[Y]? = some (.cells #[.int .i64 U2.k, .string U2.nm, .int .i64 U2.vr, .slice A2 U2.args.length c2] TT24 (0, 0))) := Lib.hid (by rw [hw_15]; exact set4_heap _ _ _ _ Y0_14.out); have T1_15 := Lib.hid (T1_14.out.move (w' := w_15) (P' := fun b => b ∉ [Y, X, sb]) (fun b hb hp => ⟨D_15.out.block b hb (fun e => hp (by rw [show b = Y from e]; simp)), hp⟩) D_15.out.size); have T2_15 := Lib.hid (T2_14.out.move (w' := w_15) (P' := fun b => b ∉ [Y, X, sb]) (fun b hb hp => ⟨D_15.out.block b hb (fun e => hp (by rw [show b = Y from e]; simp)), hp⟩) D_15.out.size); have XF_15 := Lib.hid ((D_15.out.block X (Array.getElem?_eq_some_iff.1 XF_14.out).1 (fun e => XY_13.out e)).trans XF_14.out); have B_15 := Lib.hid (B_14.out.trans' D_15.out (fun i hi e => by have e2 : i = Y := e; have := ZY_13.out; omega)); have ZL_15 : Hid (∀ x ∈ [Y, X, sb], x < w_15.heap.size) := Lib.hid (fun x hx => Nat.lt_of_lt_of_le (ZL_14.out x hx) D_15.out.size); clear hw_15 y0 y1 y2 y3 k0 k1 k2 k3
                              refine WD_done (by kernel_rfl) ?_ _
                              exact ⟨X, Y, f1, f2, A1, c1, A2, c2, _, _, _, _, _, _, by rfl, ⟨OK1.out, OK2.out, by rw [← HU1.out]; exact XF_15.out, by rw [← HU2.out]; exact YF_15.out, by rw [← HU1.out]; exact T1_15.out.weak (fun _ _ _ => trivial), by rw [← HU2.out]; exact T2_15.out.weak (fun _ _ _ => trivial), B_15.out⟩⟩
                      · rw [if_pos (by rfl)]; go_simp; refine hK.out _ _ (B_11.out.trans (Frm.of_below (below_alloc w_11 _) (Nat.le_refl _) _)) (fun hHeld => ?_); clear hK K; (try simp only [Act.put, List.setIfInBounds_toArray, List.set_cons_zero, List.set_cons_succ]); obtain ⟨w_16, hw_16⟩ : ∃ z, z = w_11.alloc (.cells #[.int .i64 0, .string ⟨#[]⟩, .int .i64 0, .slice none 0 0] TT24) := ⟨_, rfl⟩
                        try rw [← hw_16]
                        clear hHeld; have LB_16 : Hid (Below w_11.heap.size w_11 w_16) := Lib.hid (by rw [hw_16]; exact below_alloc w_11 _); have D_16 := Lib.hid (Frm.of_below LB_16.out (Nat.le_refl _) (· = sb)); have N_16 : Hid (w_16.heap[w_11.heap.size]? = some (.cells #[.int .i64 0, .string ⟨#[]⟩, .int .i64 0, .slice none 0 0] TT24 (0, 0))) := Lib.hid (by rw [hw_16]; exact heap_alloc_new w_11 _); obtain ⟨Y, hZ_16⟩ : ∃ Z, Z = w_11.heap.size := ⟨_, rfl⟩; rw [← hZ_16] at N_16 ⊢; have T1_16 := Lib.hid (T1_11.out.move (w' := w_16) (P' := fun b => b ∉ [Y, X, sb]) (fun b hb hp => ⟨D_16.out.block b hb (fun e => hp (by rw [show b = sb from e]; simp)), by rw [List.mem_cons, not_or]; exact ⟨by have h0 := hb; rw [← hZ_16] at h0; exact Nat.ne_of_lt h0, hp⟩⟩) D_16.out.size); have X0_16 := Lib.hid ((D_16.out.block X (Array.getElem?_eq_some_iff.1 N_11.out).1 (by have := ZX_11.out; have := HC1.out; show ¬ X = sb; omega)).trans N_11.out); have B_16 := Lib.hid (B_11.out.trans D_16.out); have ZL_16 : Hid (∀ x ∈ [Y, X, sb], x < w_16.heap.size) := Lib.hid (fun x hx => by rcases List.mem_cons.1 hx with h | h; (rw [h]; exact (Array.getElem?_eq_some_iff.1 N_16.out).1); exact Nat.lt_of_lt_of_le (ZL_11.out x h) D_16.out.size); have S_16 := Lib.hid (S_11.out.below LB_16.out); have ZY_16 : Hid (wC.heap.size ≤ Y) := Lib.hid (by rw [hZ_16]; exact B_11.out.size); have XY_16 : Hid (X ≠ Y) := Lib.hid (by have h1 := (Array.getElem?_eq_some_iff.1 N_11.out).1; rw [← hZ_16] at h1; omega); clear hw_16 hZ_16; refine WD_ready (rs := [5]) (by kernel_rfl) (by simp) ?_; refine AllD.cons (o := _) rfl (fun K hK => ?_) AllD.nil
                        · rw [if_pos (by rfl)]; go_simp; refine (OV.out _ (20 + M) (20 + M + M) B_16.out (by omega) (by omega) rfl S_16.out).mono ?_; rintro e w_17 ⟨f2, A2, c2, ok_17, rfl, r_17, s_17, d_17⟩; unfold tv; obtain ⟨U2, hU2⟩ : ∃ U, U = renT f2 V := ⟨_, rfl⟩; rw [← hU2] at r_17 ⊢; have HU2 := Lib.hid hU2; clear hU2
                          try go_wp2_with fail
                          refine hK.out _ _ (B_16.out.trans d_17) (fun hHeld => ?_); clear hK K; (try simp only [Act.put, List.setIfInBounds_toArray, List.set_cons_zero, List.set_cons_succ]); clear hHeld; have OK2 := Lib.hid ok_17; have D_17 := Lib.hid d_17; have T1_17 := Lib.hid (T1_16.out.move (w' := w_17) (P' := fun b => b ∉ [Y, X, sb]) (fun b hb hp => ⟨D_17.out.block b hb (fun e => hp (by rw [show b = sb from e]; simp)), hp⟩) D_17.out.size); have X0_17 := Lib.hid ((D_17.out.block X (Array.getElem?_eq_some_iff.1 X0_16.out).1 (by have := ZX_11.out; have := HC1.out; show ¬ X = sb; omega)).trans X0_16.out); have Y0_17 := Lib.hid ((D_17.out.block Y (Array.getElem?_eq_some_iff.1 N_16.out).1 (by have := ZY_16.out; have := HC1.out; show ¬ Y = sb; omega)).trans N_16.out); have B_17 := Lib.hid (B_16.out.trans D_17.out); have ZL_17 : Hid (∀ x ∈ [Y, X, sb], x < w_17.heap.size) := Lib.hid (fun x hx => Nat.lt_of_lt_of_le (ZL_16.out x hx) D_17.out.size); have S_17 := Lib.hid s_17; have T2_17 := Lib.hid (r_17.weak (P' := fun b => b ∉ [Y, X, sb]) (fun b _ hp => notin_ge ZL_16.out hp)); clear ok_17 r_17 s_17 d_17; refine WD_ready (rs := [8]) (by kernel_rfl) (by simp) ?_; refine AllD.cons (o := _) rfl (fun K hK => ?_) AllD.nil
                          · obtain ⟨⟨y0, y1, y2, y3⟩, k0, k1, k2, k3⟩ := zero_cells X0_17.out; rw [if_pos (by rfl)]; go_simp; refine hK.out _ _ (B_17.out.trans' (set4_frm w_17 X (.int .i64 U1.k) (.string U1.nm) (.int .i64 U1.vr) (.slice A1 U1.args.length c1)) (fun i hi e => by have e2 : i = X := e; have := ZX_11.out; omega)) (fun hHeld => ?_); clear hK K; (try simp only [Act.put, List.setIfInBounds_toArray, List.set_cons_zero, List.set_cons_succ]); clear hHeld; obtain ⟨w_18, hw_18⟩ : ∃ z, z = ((((w_17.setCell ⟨X, 0, none⟩ (.int .i64 U1.k)).setCell ⟨X, 1, none⟩ (.string U1.nm)).setCell ⟨X, 2, none⟩ (.int .i64 U1.vr)).setCell ⟨X, 3, none⟩ (.slice A1 U1.args.length c1)) := ⟨_, rfl⟩
                            try rw [← hw_18]
                            have D_18 : Hid (Frm w_17 w_18 (· = X)) := Lib.hid (by rw [hw_18]; exact (set4_frm w_17 X (.int .i64 U1.k) (.string U1.nm) (.int .i64 U1.vr) (.slice A1 U1.args.length c1))); have XF_18 : Hid (w_18.heap[X]? = some (.cells #[.int .i64 U1.k, .string U1.nm, .int .i64 U1.vr, .slice A1 U1.args.length c1] TT24 (0, 0))) := Lib.hid (by rw [hw_18]; exact set4_heap _ _ _ _ X0_17.out); have T1_18 := Lib.hid (T1_17.out.move (w' := w_18) (P' := fun b => b ∉ [Y, X, sb]) (fun b hb hp => ⟨D_18.out.block b hb (fun e => hp (by rw [show b = X from e]; simp)), hp⟩) D_18.out.size); have T2_18 := Lib.hid (T2_17.out.move (w' := w_18) (P' := fun b => b ∉ [Y, X, sb]) (fun b hb hp => ⟨D_18.out.block b hb (fun e => hp (by rw [show b = X from e]; simp)), hp⟩) D_18.out.size); have Y0_18 := Lib.hid ((D_18.out.block Y (Array.getElem?_eq_some_iff.1 Y0_17.out).1 (fun e => XY_16.out e.symm)).trans Y0_17.out); have B_18 := Lib.hid (B_17.out.trans' D_18.out (fun i hi e => by have e2 : i = X := e; have := ZX_11.out; omega)); have ZL_18 : Hid (∀ x ∈ [Y, X, sb], x < w_18.heap.size) := Lib.hid (fun x hx => Nat.lt_of_lt_of_le (ZL_17.out x hx) D_18.out.size); clear hw_18 y0 y1 y2 y3 k0 k1 k2 k3; refine WD_ready (rs := [9]) (by kernel_rfl) (by simp) ?_; refine AllD.last (o := _) rfl (by kernel_rfl) (fun K hK => ?_) AllD.nil
                            · obtain ⟨⟨y0, y1, y2, y3⟩, k0, k1, k2, k3⟩ := zero_cells Y0_18.out; rw [if_pos (by rfl)]; go_simp; refine hK.out _ _ ?_; clear hK K; (try simp only [Act.put, List.setIfInBounds_toArray, List.set_cons_zero, List.set_cons_succ]); obtain ⟨w_19, hw_19⟩ : ∃ z, z = ((((w_18.setCell ⟨Y, 0, none⟩ (.int .i64 U2.k)).setCell ⟨Y, 1, none⟩ (.string U2.nm)).setCell ⟨Y, 2, none⟩ (.int .i64 U2.vr)).setCell ⟨Y, 3, none⟩ (.slice A2 U2.args.length c2)) := ⟨_, rfl⟩
                              try rw [← hw_19]
                              have D_19 : Hid (Frm w_18 w_19 (· = Y)) := Lib.hid (by rw [hw_19]; exact (set4_frm w_18 Y (.int .i64 U2.k) (.string U2.nm) (.int .i64 U2.vr) (.slice A2 U2.args.length c2))); have YF_19 : Hid (w_19.heap[Y]? = some (.cells #[.int .i64 U2.k, .string U2.nm, .int .i64 U2.vr, .slice A2 U2.args.length c2] TT24 (0, 0))) := Lib.hid (by rw [hw_19]; exact set4_heap _ _ _ _ Y0_18.out); have T1_19 := Lib.hid (T1_18.out.move (w' := w_19) (P' := fun b => b ∉ [Y, X, sb]) (fun b hb hp => ⟨D_19.out.block b hb (fun e => hp (by rw [show b = Y from e]; simp)), hp⟩) D_19.out.size); have T2_19 := Lib.hid (T2_18.out.move (w' := w_19) (P' := fun b => b ∉ [Y, X, sb]) (fun b hb hp => ⟨D_19.out.block b hb (fun e => hp (by rw [show b = Y from e]; simp)), hp⟩) D_19.out.size); have XF_19 := Lib.hid ((D_19.out.block X (Array.getElem?_eq_some_iff.1 XF_18.out).1 (fun e => XY_16.out e)).trans XF_18.out); have B_19 := Lib.hid (B_18.out.trans' D_19.out (fun i hi e => by have e2 : i = Y := e; have := ZY_16.out; omega)); have ZL_19 : Hid (∀ x ∈ [Y, X, sb], x < w_19.heap.size) := Lib.hid (fun x hx => Nat.lt_of_lt_of_le (ZL_18.out x hx) D_19.out.size); clear hw_19 y0 y1 y2 y3 k0 k1 k2 k3
                              refine WD_done (by kernel_rfl) ?_ _
                              exact ⟨X, Y, f1, f2, A1, c1, A2, c2, _, _, _, _, _, _, by rfl, ⟨OK1.out, OK2.out, by rw [← HU1.out]; exact XF_19.out, by rw [← HU2.out]; exact YF_19.out, by rw [← HU1.out]; exact T1_19.out.weak (fun _ _ _ => trivial), by rw [← HU2.out]; exact T2_19.out.weak (fun _ _ _ => trivial), B_19.out⟩⟩
                    · rw [if_pos (by rfl)]; go_simp; refine hK.out _ _ (B_1.out.trans (Frm.of_below (below_alloc w_1 _) (Nat.le_refl _) _)) (fun hHeld => ?_); clear hK K; (try simp only [Act.put, List.setIfInBounds_toArray, List.set_cons_zero, List.set_cons_succ]); obtain ⟨w_20, hw_20⟩ : ∃ z, z = w_1.alloc (.cells #[.int .i64 0, .string ⟨#[]⟩, .int .i64 0, .slice none 0 0] TT24) := ⟨_, rfl⟩
                      try rw [← hw_20]
                      clear hHeld; have LB_20 : Hid (Below w_1.heap.size w_1 w_20) := Lib.hid (by rw [hw_20]; exact below_alloc w_1 _); have D_20 := Lib.hid (Frm.of_below LB_20.out (Nat.le_refl _) (· = sb)); have N_20 : Hid (w_20.heap[w_1.heap.size]? = some (.cells #[.int .i64 0, .string ⟨#[]⟩, .int .i64 0, .slice none 0 0] TT24 (0, 0))) := Lib.hid (by rw [hw_20]; exact heap_alloc_new w_1 _); obtain ⟨Y, hZ_20⟩ : ∃ Z, Z = w_1.heap.size := ⟨_, rfl⟩; rw [← hZ_20] at N_20 ⊢; have T1_20 := Lib.hid (T1_1.out.move (w' := w_20) (P' := fun b => b ∉ [Y, sb]) (fun b hb hp => ⟨D_20.out.block b hb (fun e => hp (by rw [show b = sb from e]; simp)), by rw [List.mem_cons, not_or]; exact ⟨by have h0 := hb; rw [← hZ_20] at h0; exact Nat.ne_of_lt h0, hp⟩⟩) D_20.out.size); have B_20 := Lib.hid (B_1.out.trans D_20.out); have ZL_20 : Hid (∀ x ∈ [Y, sb], x < w_20.heap.size) := Lib.hid (fun x hx => by rcases List.mem_cons.1 hx with h | h; (rw [h]; exact (Array.getElem?_eq_some_iff.1 N_20.out).1); exact Nat.lt_of_lt_of_le (ZL_1.out x h) D_20.out.size); have S_20 := Lib.hid (S_1.out.below LB_20.out); have ZY_20 : Hid (wC.heap.size ≤ Y) := Lib.hid (by rw [hZ_20]; exact B_1.out.size); clear hw_20 hZ_20; refine WD_ready (rs := [5, 6]) (by kernel_rfl) (by simp) ?_; refine AllD.cons (o := _) rfl (fun K hK => ?_) (AllD.cons (o := _) rfl (fun K hK => ?_) AllD.nil)
                      · rw [if_pos (by rfl)]; go_simp; refine (OV.out _ (20 + M) (20 + M + M) B_20.out (by omega) (by omega) rfl S_20.out).mono ?_; rintro e w_21 ⟨f2, A2, c2, ok_21, rfl, r_21, s_21, d_21⟩; unfold tv; obtain ⟨U2, hU2⟩ : ∃ U, U = renT f2 V := ⟨_, rfl⟩; rw [← hU2] at r_21 ⊢; have HU2 := Lib.hid hU2; clear hU2
                        try go_wp2_with fail
                        refine hK.out _ _ (B_20.out.trans d_21) (fun hHeld => ?_); clear hK K; (try simp only [Act.put, List.setIfInBounds_toArray, List.set_cons_zero, List.set_cons_succ]); clear hHeld; have OK2 := Lib.hid ok_21; have D_21 := Lib.hid d_21; have T1_21 := Lib.hid (T1_20.out.move (w' := w_21) (P' := fun b => b ∉ [Y, sb]) (fun b hb hp => ⟨D_21.out.block b hb (fun e => hp (by rw [show b = sb from e]; simp)), hp⟩) D_21.out.size); have Y0_21 := Lib.hid ((D_21.out.block Y (Array.getElem?_eq_some_iff.1 N_20.out).1 (by have := ZY_20.out; have := HC1.out; show ¬ Y = sb; omega)).trans N_20.out); have B_21 := Lib.hid (B_20.out.trans D_21.out); have ZL_21 : Hid (∀ x ∈ [Y, sb], x < w_21.heap.size) := Lib.hid (fun x hx => Nat.lt_of_lt_of_le (ZL_20.out x hx) D_21.out.size); have S_21 := Lib.hid s_21; have T2_21 := Lib.hid (r_21.weak (P' := fun b => b ∉ [Y, sb]) (fun b _ hp => notin_ge ZL_20.out hp)); clear ok_21 r_21 s_21 d_21; refine WD_ready (rs := [6]) (by kernel_rfl) (by simp) ?_; refine AllD.cons (o := _) rfl (fun K hK => ?_) AllD.nil
                        · rw [if_pos (by rfl)]; go_simp; refine hK.out _ _ (B_21.out.trans (Frm.of_below (below_alloc w_21 _) (Nat.le_refl _) _)) (fun hHeld => ?_); clear hK K; (try simp only [Act.put, List.setIfInBounds_toArray, List.set_cons_zero, List.set_cons_succ]); obtain ⟨w_22, hw_22⟩ : ∃ z, z = w_21.alloc (.cells #[.int .i64 0, .string ⟨#[]⟩, .int .i64 0, .slice none 0 0] TT24) := ⟨_, rfl⟩
                          try rw [← hw_22]
                          clear hHeld; have LB_22 : Hid (Below w_21.heap.size w_21 w_22) := Lib.hid (by rw [hw_22]; exact below_alloc w_21 _); have D_22 := Lib.hid (Frm.of_below LB_22.out (Nat.le_refl _) (· = sb)); have N_22 : Hid (w_22.heap[w_21.heap.size]? = some (.cells #[.int .i64 0, .string ⟨#[]⟩, .int .i64 0, .slice none 0 0] TT24 (0, 0))) := Lib.hid (by rw [hw_22]; exact heap_alloc_new w_21 _); obtain ⟨X, hZ_22⟩ : ∃ Z, Z = w_21.heap.size := ⟨_, rfl⟩; rw [← hZ_22] at N_22 ⊢; have T1_22 := Lib.hid (T1_21.out.move (w' := w_22) (P' := fun b => b ∉ [X, Y, sb]) (fun b hb hp => ⟨D_22.out.block b hb (fun e => hp (by rw [show b = sb from e]; simp)), by rw [List.mem_cons, not_or]; exact ⟨by have h0 := hb; rw [← hZ_22] at h0; exact Nat.ne_of_lt h0, hp⟩⟩) D_22.out.size); have T2_22 := Lib.hid (T2_21.out.move (w' := w_22) (P' := fun b => b ∉ [X, Y, sb]) (fun b hb hp => ⟨D_22.out.block b hb (fun e => hp (by rw [show b = sb from e]; simp)), by rw [List.mem_cons, not_or]; exact ⟨by have h0 := hb; rw [← hZ_22] at h0; exact Nat.ne_of_lt h0, hp⟩⟩) D_22.out.size); have Y0_22 := Lib.hid ((D_22.out.block Y (Array.getElem?_eq_some_iff.1 Y0_21.out).1 (by have := ZY_20.out; have := HC1.out; show ¬ Y = sb; omega)).trans Y0_21.out); have B_22 := Lib.hid (B_21.out.trans D_22.out); have ZL_22 : Hid (∀ x ∈ [X, Y, sb], x < w_22.heap.size) := Lib.hid (fun x hx => by rcases List.mem_cons.1 hx with h | h; (rw [h]; exact (Array.getElem?_eq_some_iff.1 N_22.out).1); exact Nat.lt_of_lt_of_le (ZL_21.out x h) D_22.out.size); have S_22 := Lib.hid (S_21.out.below LB_22.out); have ZX_22 : Hid (wC.heap.size ≤ X) := Lib.hid (by rw [hZ_22]; exact B_21.out.size); have XY_22 : Hid (X ≠ Y) := Lib.hid (by have h1 := (Array.getElem?_eq_some_iff.1 Y0_21.out).1; rw [← hZ_22] at h1; omega); clear hw_22 hZ_22; refine WD_ready (rs := [8]) (by kernel_rfl) (by simp) ?_; refine AllD.cons (o := _) rfl (fun K hK => ?_) AllD.nil
                          · obtain ⟨⟨y0, y1, y2, y3⟩, k0, k1, k2, k3⟩ := zero_cells N_22.out; rw [if_pos (by rfl)]; go_simp; refine hK.out _ _ (B_22.out.trans' (set4_frm w_22 X (.int .i64 U1.k) (.string U1.nm) (.int .i64 U1.vr) (.slice A1 U1.args.length c1)) (fun i hi e => by have e2 : i = X := e; have := ZX_22.out; omega)) (fun hHeld => ?_); clear hK K; (try simp only [Act.put, List.setIfInBounds_toArray, List.set_cons_zero, List.set_cons_succ]); clear hHeld; obtain ⟨w_23, hw_23⟩ : ∃ z, z = ((((w_22.setCell ⟨X, 0, none⟩ (.int .i64 U1.k)).setCell ⟨X, 1, none⟩ (.string U1.nm)).setCell ⟨X, 2, none⟩ (.int .i64 U1.vr)).setCell ⟨X, 3, none⟩ (.slice A1 U1.args.length c1)) := ⟨_, rfl⟩
                            try rw [← hw_23]
                            have D_23 : Hid (Frm w_22 w_23 (· = X)) := Lib.hid (by rw [hw_23]; exact (set4_frm w_22 X (.int .i64 U1.k) (.string U1.nm) (.int .i64 U1.vr) (.slice A1 U1.args.length c1))); have XF_23 : Hid (w_23.heap[X]? = some (.cells #[.int .i64 U1.k, .string U1.nm, .int .i64 U1.vr, .slice A1 U1.args.length c1] TT24 (0, 0))) := Lib.hid (by rw [hw_23]; exact set4_heap _ _ _ _ N_22.out); have T1_23 := Lib.hid (T1_22.out.move (w' := w_23) (P' := fun b => b ∉ [X, Y, sb]) (fun b hb hp => ⟨D_23.out.block b hb (fun e => hp (by rw [show b = X from e]; simp)), hp⟩) D_23.out.size); have T2_23 := Lib.hid (T2_22.out.move (w' := w_23) (P' := fun b => b ∉ [X, Y, sb]) (fun b hb hp => ⟨D_23.out.block b hb (fun e => hp (by rw [show b = X from e]; simp)), hp⟩) D_23.out.size); have Y0_23 := Lib.hid ((D_23.out.block Y (Array.getElem?_eq_some_iff.1 Y0_22.out).1 (fun e => XY_22.out e.symm)).trans Y0_22.out); have B_23 := Lib.hid (B_22.out.trans' D_23.out (fun i hi e => by have e2 : i = X := e; have := ZX_22.out; omega)); have ZL_23 : Hid (∀ x ∈ [X, Y, sb], x < w_23.heap.size) := Lib.hid (fun x hx => Nat.lt_of_lt_of_le (ZL_22.out x hx) D_23.out.size); clear hw_23 y0 y1 y2 y3 k0 k1 k2 k3; refine WD_ready (rs := [9]) (by kernel_rfl) (by simp) ?_; refine AllD.last (o := _) rfl (by kernel_rfl) (fun K hK => ?_) AllD.nil
                            · obtain ⟨⟨y0, y1, y2, y3⟩, k0, k1, k2, k3⟩ := zero_cells Y0_23.out; rw [if_pos (by rfl)]; go_simp; refine hK.out _ _ ?_; clear hK K; (try simp only [Act.put, List.setIfInBounds_toArray, List.set_cons_zero, List.set_cons_succ]); obtain ⟨w_24, hw_24⟩ : ∃ z, z = ((((w_23.setCell ⟨Y, 0, none⟩ (.int .i64 U2.k)).setCell ⟨Y, 1, none⟩ (.string U2.nm)).setCell ⟨Y, 2, none⟩ (.int .i64 U2.vr)).setCell ⟨Y, 3, none⟩ (.slice A2 U2.args.length c2)) := ⟨_, rfl⟩
                              try rw [← hw_24]
                              have D_24 : Hid (Frm w_23 w_24 (· = Y)) := Lib.hid (by rw [hw_24]; exact (set4_frm w_23 Y (.int .i64 U2.k) (.string U2.nm) (.int .i64 U2.vr) (.slice A2 U2.args.length c2))); have YF_24 : Hid (w_24.heap[Y]? = some (.cells #[.int .i64 U2.k, .string U2.nm, .int .i64 U2.vr, .slice A2 U2.args.length c2] TT24 (0, 0))) := Lib.hid (by rw [hw_24]; exact set4_heap _ _ _ _ Y0_23.out); have T1_24 := Lib.hid (T1_23.out.move (w' := w_24) (P' := fun b => b ∉ [X, Y, sb]) (fun b hb hp => ⟨D_24.out.block b hb (fun e => hp (by rw [show b = Y from e]; simp)), hp⟩) D_24.out.size); have T2_24 := Lib.hid (T2_23.out.move (w' := w_24) (P' := fun b => b ∉ [X, Y, sb]) (fun b hb hp => ⟨D_24.out.block b hb (fun e => hp (by rw [show b = Y from e]; simp)), hp⟩) D_24.out.size); have XF_24 := Lib.hid ((D_24.out.block X (Array.getElem?_eq_some_iff.1 XF_23.out).1 (fun e => XY_22.out e)).trans XF_23.out); have B_24 := Lib.hid (B_23.out.trans' D_24.out (fun i hi e => by have e2 : i = Y := e; have := ZY_20.out; omega)); have ZL_24 : Hid (∀ x ∈ [X, Y, sb], x < w_24.heap.size) := Lib.hid (fun x hx => Nat.lt_of_lt_of_le (ZL_23.out x hx) D_24.out.size); clear hw_24 y0 y1 y2 y3 k0 k1 k2 k3
                              refine WD_done (by kernel_rfl) ?_ _
                              exact ⟨X, Y, f1, f2, A1, c1, A2, c2, _, _, _, _, _, _, by rfl, ⟨OK1.out, OK2.out, by rw [← HU1.out]; exact XF_24.out, by rw [← HU2.out]; exact YF_24.out, by rw [← HU1.out]; exact T1_24.out.weak (fun _ _ _ => trivial), by rw [← HU2.out]; exact T2_24.out.weak (fun _ _ _ => trivial), B_24.out⟩⟩
                      · rw [if_pos (by rfl)]; go_simp; refine hK.out _ _ (B_20.out.trans (Frm.of_below (below_alloc w_20 _) (Nat.le_refl _) _)) (fun hHeld => ?_); clear hK K; (try simp only [Act.put, List.setIfInBounds_toArray, List.set_cons_zero, List.set_cons_succ]); obtain ⟨w_25, hw_25⟩ : ∃ z, z = w_20.alloc (.cells #[.int .i64 0, .string ⟨#[]⟩, .int .i64 0, .slice none 0 0] TT24) := ⟨_, rfl⟩
                        try rw [← hw_25]
                        clear hHeld; have LB_25 : Hid (Below w_20.heap.size w_20 w_25) := Lib.hid (by rw [hw_25]; exact below_alloc w_20 _); have D_25 := Lib.hid (Frm.of_below LB_25.out (Nat.le_refl _) (· = sb)); have N_25 : Hid (w_25.heap[w_20.heap.size]? = some (.cells #[.int .i64 0, .string ⟨#[]⟩, .int .i64 0, .slice none 0 0] TT24 (0, 0))) := Lib.hid (by rw [hw_25]; exact heap_alloc_new w_20 _); obtain ⟨X, hZ_25⟩ : ∃ Z, Z = w_20.heap.size := ⟨_, rfl⟩; rw [← hZ_25] at N_25 ⊢; have T1_25 := Lib.hid (T1_20.out.move (w' := w_25) (P' := fun b => b ∉ [X, Y, sb]) (fun b hb hp => ⟨D_25.out.block b hb (fun e => hp (by rw [show b = sb from e]; simp)), by rw [List.mem_cons, not_or]; exact ⟨by have h0 := hb; rw [← hZ_25] at h0; exact Nat.ne_of_lt h0, hp⟩⟩) D_25.out.size); have Y0_25 := Lib.hid ((D_25.out.block Y (Array.getElem?_eq_some_iff.1 N_20.out).1 (by have := ZY_20.out; have := HC1.out; show ¬ Y = sb; omega)).trans N_20.out); have B_25 := Lib.hid (B_20.out.trans D_25.out); have ZL_25 : Hid (∀ x ∈ [X, Y, sb], x < w_25.heap.size) := Lib.hid (fun x hx => by rcases List.mem_cons.1 hx with h | h; (rw [h]; exact (Array.getElem?_eq_some_iff.1 N_25.out).1); exact Nat.lt_of_lt_of_le (ZL_20.out x h) D_25.out.size); have S_25 := Lib.hid (S_20.out.below LB_25.out); have ZX_25 : Hid (wC.heap.size ≤ X) := Lib.hid (by rw [hZ_25]; exact B_20.out.size); have XY_25 : Hid (X ≠ Y) := Lib.hid (by have h1 := (Array.getElem?_eq_some_iff.1 N_20.out).1; rw [← hZ_25] at h1; omega); clear hw_25 hZ_25; refine WD_ready (rs := [5]) (by kernel_rfl) (by simp) ?_; refine AllD.cons (o := _) rfl (fun K hK => ?_) AllD.nil
                        · rw [if_pos (by rfl)]; go_simp; refine (OV.out _ (20 + M) (20 + M + M) B_25.out (by omega) (by omega) rfl S_25.out).mono ?_; rintro e w_26 ⟨f2, A2, c2, ok_26, rfl, r_26, s_26, d_26⟩; unfold tv; obtain ⟨U2, hU2⟩ : ∃ U, U = renT f2 V := ⟨_, rfl⟩; rw [← hU2] at r_26 ⊢; have HU2 := Lib.hid hU2; clear hU2
                          try go_wp2_with fail
                          refine hK.out _ _ (B_25.out.trans d_26) (fun hHeld => ?_); clear hK K; (try simp only [Act.put, List.setIfInBounds_toArray, List.set_cons_zero, List.set_cons_succ]); clear hHeld; have OK2 := Lib.hid ok_26; have D_26 := Lib.hid d_26; have T1_26 := Lib.hid (T1_25.out.move (w' := w_26) (P' := fun b => b ∉ [X, Y, sb]) (fun b hb hp => ⟨D_26.out.block b hb (fun e => hp (by rw [show b = sb from e]; simp)), hp⟩) D_26.out.size); have X0_26 := Lib.hid ((D_26.out.block X (Array.getElem?_eq_some_iff.1 N_25.out).1 (by have := ZX_25.out; have := HC1.out; show ¬ X = sb; omega)).trans N_25.out); have Y0_26 := Lib.hid ((D_26.out.block Y (Array.getElem?_eq_some_iff.1 Y0_25.out).1 (by have := ZY_20.out; have := HC1.out; show ¬ Y = sb; omega)).trans Y0_25.out); have B_26 := Lib.hid (B_25.out.trans D_26.out); have ZL_26 : Hid (∀ x ∈ [X, Y, sb], x < w_26.heap.size) := Lib.hid (fun x hx => Nat.lt_of_lt_of_le (ZL_25.out x hx) D_26.out.size); have S_26 := Lib.hid s_26; have T2_26 := Lib.hid (r_26.weak (P' := fun b => b ∉ [X, Y, sb]) (fun b _ hp => notin_ge ZL_25.out hp)); clear ok_26 r_26 s_26 d_26; refine WD_ready (rs := [8]) (by kernel_rfl) (by simp) ?_; refine AllD.cons (o := _) rfl (fun K hK => ?_) AllD.nil
                          · obtain ⟨⟨y0, y1, y2, y3⟩, k0, k1, k2, k3⟩ := zero_cells X0_26.out; rw [if_pos (by rfl)]; go_simp; refine hK.out _ _ (B_26.out.trans' (set4_frm w_26 X (.int .i64 U1.k) (.string U1.nm) (.int .i64 U1.vr) (.slice A1 U1.args.length c1)) (fun i hi e => by have e2 : i = X := e; have := ZX_25.out; omega)) (fun hHeld => ?_); clear hK K; (try simp only [Act.put, List.setIfInBounds_toArray, List.set_cons_zero, List.set_cons_succ]); clear hHeld; obtain ⟨w_27, hw_27⟩ : ∃ z, z = ((((w_26.setCell ⟨X, 0, none⟩ (.int .i64 U1.k)).setCell ⟨X, 1, none⟩ (.string U1.nm)).setCell ⟨X, 2, none⟩ (.int .i64 U1.vr)).setCell ⟨X, 3, none⟩ (.slice A1 U1.args.length c1)) := ⟨_, rfl⟩
                            try rw [← hw_27]
                            have D_27 : Hid (Frm w_26 w_27 (· = X)) := Lib.hid (by rw [hw_27]; exact (set4_frm w_26 X (.int .i64 U1.k) (.string U1.nm) (.int .i64 U1.vr) (.slice A1 U1.args.length c1))); have XF_27 : Hid (w_27.heap[X]? = some (.cells #[.int .i64 U1.k, .string U1.nm, .int .i64 U1.vr, .slice A1 U1.args.length c1] TT24 (0, 0))) := Lib.hid (by rw [hw_27]; exact set4_heap _ _ _ _ X0_26.out); have T1_27 := Lib.hid (T1_26.out.move (w' := w_27) (P' := fun b => b ∉ [X, Y, sb]) (fun b hb hp => ⟨D_27.out.block b hb (fun e => hp (by rw [show b = X from e]; simp)), hp⟩) D_27.out.size); have T2_27 := Lib.hid (T2_26.out.move (w' := w_27) (P' := fun b => b ∉ [X, Y, sb]) (fun b hb hp => ⟨D_27.out.block b hb (fun e => hp (by rw [show b = X from e]; simp)), hp⟩) D_27.out.size); have Y0_27 := Lib.hid ((D_27.out.block Y (Array.getElem?_eq_some_iff.1 Y0_26.out).1 (fun e => XY_25.out e.symm)).trans Y0_26.out); have B_27 := Lib.hid (B_26.out.trans' D_27.out (fun i hi e => by have e2 : i = X := e; have := ZX_25.out; omega)); have ZL_27 : Hid (∀ x ∈ [X, Y, sb], x < w_27.heap.size) := Lib.hid (fun x hx => Nat.lt_of_lt_of_le (ZL_26.out x hx) D_27.out.size); clear hw_27 y0 y1 y2 y3 k0 k1 k2 k3; refine WD_ready (rs := [9]) (by kernel_rfl) (by simp) ?_; refine AllD.last (o := _) rfl (by kernel_rfl) (fun K hK => ?_) AllD.nil
                            · obtain ⟨⟨y0, y1, y2, y3⟩, k0, k1, k2, k3⟩ := zero_cells Y0_27.out; rw [if_pos (by rfl)]; go_simp; refine hK.out _ _ ?_; clear hK K; (try simp only [Act.put, List.setIfInBounds_toArray, List.set_cons_zero, List.set_cons_succ]); obtain ⟨w_28, hw_28⟩ : ∃ z, z = ((((w_27.setCell ⟨Y, 0, none⟩ (.int .i64 U2.k)).setCell ⟨Y, 1, none⟩ (.string U2.nm)).setCell ⟨Y, 2, none⟩ (.int .i64 U2.vr)).setCell ⟨Y, 3, none⟩ (.slice A2 U2.args.length c2)) := ⟨_, rfl⟩
                              try rw [← hw_28]
                              have D_28 : Hid (Frm w_27 w_28 (· = Y)) := Lib.hid (by rw [hw_28]; exact (set4_frm w_27 Y (.int .i64 U2.k) (.string U2.nm) (.int .i64 U2.vr) (.slice A2 U2.args.length c2))); have YF_28 : Hid (w_28.heap[Y]? = some (.cells #[.int .i64 U2.k, .string U2.nm, .int .i64 U2.vr, .slice A2 U2.args.length c2] TT24 (0, 0))) := Lib.hid (by rw [hw_28]; exact set4_heap _ _ _ _ Y0_27.out); have T1_28 := Lib.hid (T1_27.out.move (w' := w_28) (P' := fun b => b ∉ [X, Y, sb]) (fun b hb hp => ⟨D_28.out.block b hb (fun e => hp (by rw [show b = Y from e]; simp)), hp⟩) D_28.out.size); have T2_28 := Lib.hid (T2_27.out.move (w' := w_28) (P' := fun b => b ∉ [X, Y, sb]) (fun b hb hp => ⟨D_28.out.block b hb (fun e => hp (by rw [show b = Y from e]; simp)), hp⟩) D_28.out.size); have XF_28 := Lib.hid ((D_28.out.block X (Array.getElem?_eq_some_iff.1 XF_27.out).1 (fun e => XY_25.out e)).trans XF_27.out); have B_28 := Lib.hid (B_27.out.trans' D_28.out (fun i hi e => by have e2 : i = Y := e; have := ZY_20.out; omega)); have ZL_28 : Hid (∀ x ∈ [X, Y, sb], x < w_28.heap.size) := Lib.hid (fun x hx => Nat.lt_of_lt_of_le (ZL_27.out x hx) D_28.out.size); clear hw_28 y0 y1 y2 y3 k0 k1 k2 k3
                              refine WD_done (by kernel_rfl) ?_ _
                              exact ⟨X, Y, f1, f2, A1, c1, A2, c2, _, _, _, _, _, _, by rfl, ⟨OK1.out, OK2.out, by rw [← HU1.out]; exact XF_28.out, by rw [← HU2.out]; exact YF_28.out, by rw [← HU1.out]; exact T1_28.out.weak (fun _ _ _ => trivial), by rw [← HU2.out]; exact T2_28.out.weak (fun _ _ _ => trivial), B_28.out⟩⟩
                  · rw [if_pos (by rfl)]; go_simp; refine hK.out _ _ (B_0.out.trans (Frm.of_below (below_alloc w_0 _) (Nat.le_refl _) _)) (fun hHeld => ?_); clear hK K; (try simp only [Act.put, List.setIfInBounds_toArray, List.set_cons_zero, List.set_cons_succ]); obtain ⟨w_29, hw_29⟩ : ∃ z, z = w_0.alloc (.cells #[.int .i64 0, .string ⟨#[]⟩, .int .i64 0, .slice none 0 0] TT24) := ⟨_, rfl⟩
                    try rw [← hw_29]
                    clear hHeld; have LB_29 : Hid (Below w_0.heap.size w_0 w_29) := Lib.hid (by rw [hw_29]; exact below_alloc w_0 _); have D_29 := Lib.hid (Frm.of_below LB_29.out (Nat.le_refl _) (· = sb)); have N_29 : Hid (w_29.heap[w_0.heap.size]? = some (.cells #[.int .i64 0, .string ⟨#[]⟩, .int .i64 0, .slice none 0 0] TT24 (0, 0))) := Lib.hid (by rw [hw_29]; exact heap_alloc_new w_0 _); obtain ⟨X, hZ_29⟩ : ∃ Z, Z = w_0.heap.size := ⟨_, rfl⟩; rw [← hZ_29] at N_29 ⊢; have B_29 := Lib.hid (B_0.out.trans D_29.out); have ZL_29 : Hid (∀ x ∈ [X, sb], x < w_29.heap.size) := Lib.hid (fun x hx => by rcases List.mem_cons.1 hx with h | h; (rw [h]; exact (Array.getElem?_eq_some_iff.1 N_29.out).1); exact Nat.lt_of_lt_of_le (ZL_0.out x h) D_29.out.size); have S_29 := Lib.hid (S_0.out.below LB_29.out); have ZX_29 : Hid (wC.heap.size ≤ X) := Lib.hid (by rw [hZ_29]; exact B_0.out.size); clear hw_29 hZ_29; refine WD_ready (rs := [2, 7]) (by kernel_rfl) (by simp) ?_; refine AllD.cons (o := _) rfl (fun K hK => ?_) (AllD.cons (o := _) rfl (fun K hK => ?_) AllD.nil)
                    · rw [if_pos (by rfl)]; go_simp; refine (OV.out _ 20 (20 + M) B_29.out (by omega) (by omega) rfl S_29.out).mono ?_; rintro e w_30 ⟨f1, A1, c1, ok_30, rfl, r_30, s_30, d_30⟩; unfold tv; obtain ⟨U1, hU1⟩ : ∃ U, U = renT f1 V := ⟨_, rfl⟩; rw [← hU1] at r_30 ⊢; have HU1 := Lib.hid hU1; clear hU1
                      try go_wp2_with fail
                      refine hK.out _ _ (B_29.out.trans d_30) (fun hHeld => ?_); clear hK K; (try simp only [Act.put, List.setIfInBounds_toArray, List.set_cons_zero, List.set_cons_succ]); clear hHeld; have OK1 := Lib.hid ok_30; have D_30 := Lib.hid d_30; have X0_30 := Lib.hid ((D_30.out.block X (Array.getElem?_eq_some_iff.1 N_29.out).1 (by have := ZX_29.out; have := HC1.out; show ¬ X = sb; omega)).trans N_29.out); have B_30 := Lib.hid (B_29.out.trans D_30.out); have ZL_30 : Hid (∀ x ∈ [X, sb], x < w_30.heap.size) := Lib.hid (fun x hx => Nat.lt_of_lt_of_le (ZL_29.out x hx) D_30.out.size); have S_30 := Lib.hid s_30; have T1_30 := Lib.hid (r_30.weak (P' := fun b => b ∉ [X, sb]) (fun b _ hp => notin_ge ZL_29.out hp)); clear ok_30 r_30 s_30 d_30; refine WD_ready (rs := [5, 7]) (by kernel_rfl) (by simp) ?_; refine AllD.cons (o := _) rfl (fun K hK => ?_) (AllD.cons (o := _) rfl (fun K hK => ?_) AllD.nil)
                      · rw [if_pos (by rfl)]; go_simp; refine (OV.out _ (20 + M) (20 + M + M) B_30.out (by omega) (by omega) rfl S_30.out).mono ?_; rintro e w_31 ⟨f2, A2, c2, ok_31, rfl, r_31, s_31, d_31⟩; unfold tv; obtain ⟨U2, hU2⟩ : ∃ U, U = renT f2 V := ⟨_, rfl⟩; rw [← hU2] at r_31 ⊢; have HU2 := Lib.hid hU2; clear hU2
                        try go_wp2_with fail
                        refine hK.out _ _ (B_30.out.trans d_31) (fun hHeld => ?_); clear hK K; (try simp only [Act.put, List.setIfInBounds_toArray, List.set_cons_zero, List.set_cons_succ]); clear hHeld; have OK2 := Lib.hid ok_31; have D_31 := Lib.hid d_31; have T1_31 := Lib.hid (T1_30.out.move (w' := w_31) (P' := fun b => b ∉ [X, sb]) (fun b hb hp => ⟨D_31.out.block b hb (fun e => hp (by rw [show b = sb from e]; simp)), hp⟩) D_31.out.size); have X0_31 := Lib.hid ((D_31.out.block X (Array.getElem?_eq_some_iff.1 X0_30.out).1 (by have := ZX_29.out; have := HC1.out; show ¬ X = sb; omega)).trans X0_30.out); have B_31 := Lib.hid (B_30.out.trans D_31.out); have ZL_31 : Hid (∀ x ∈ [X, sb], x < w_31.heap.size) := Lib.hid (fun x hx => Nat.lt_of_lt_of_le (ZL_30.out x hx) D_31.out.size); have S_31 := Lib.hid s_31; have T2_31 := Lib.hid (r_31.weak (P' := fun b => b ∉ [X, sb]) (fun b _ hp => notin_ge ZL_30.out hp)); clear ok_31 r_31 s_31 d_31; refine WD_ready (rs := [7]) (by kernel_rfl) (by simp) ?_; refine AllD.cons (o := _) rfl (fun K hK => ?_) AllD.nil
                        · rw [if_pos (by rfl)]; go_simp; refine hK.out _ _ (B_31.out.trans (Frm.of_below (below_alloc w_31 _) (Nat.le_refl _) _)) (fun hHeld => ?_); clear hK K; (try simp only [Act.put, List.setIfInBounds_toArray, List.set_cons_zero, List.set_cons_succ]); obtain ⟨w_32, hw_32⟩ : ∃ z, z = w_31.alloc (.cells #[.int .i64 0, .string ⟨#[]⟩, .int .i64 0, .slice none 0 0] TT24) := ⟨_, rfl⟩
                          try rw [← hw_32]
                          clear hHeld; have LB_32 : Hid (Below w_31.heap.size w_31 w_32) := Lib.hid (by rw [hw_32]; exact below_alloc w_31 _); have D_32 := Lib.hid (Frm.of_below LB_32.out (Nat.le_refl _) (· = sb)); have N_32 : Hid (w_32.heap[w_31.heap.size]? = some (.cells #[.int .i64 0, .string ⟨#[]⟩, .int .i64 0, .slice none 0 0] TT24 (0, 0))) := Lib.hid (by rw [hw_32]; exact heap_alloc_new w_31 _); obtain ⟨Y, hZ_32⟩ : ∃ Z, Z = w_31.heap.size := ⟨_, rfl⟩; rw [← hZ_32] at N_32 ⊢; have T1_32 := Lib.hid (T1_31.out.move (w' := w_32) (P' := fun b => b ∉ [Y, X, sb]) (fun b hb hp => ⟨D_32.out.block b hb (fun e => hp (by rw [show b = sb from e]; simp)), by rw [List.mem_cons, not_or]; exact ⟨by have h0 := hb; rw [← hZ_32] at h0; exact Nat.ne_of_lt h0, hp⟩⟩) D_32.out.size); have T2_32 := Lib.hid (T2_31.out.move (w' := w_32) (P' := fun b => b ∉ [Y, X, sb]) (fun b hb hp => ⟨D_32.out.block b hb (fun e => hp (by rw [show b = sb from e]; simp)), by rw [List.mem_cons, not_or]; exact ⟨by have h0 := hb; rw [← hZ_32] at h0; exact Nat.ne_of_lt h0, hp⟩⟩) D_32.out.size); have X0_32 := Lib.hid ((D_32.out.block X (Array.getElem?_eq_some_iff.1 X0_31.out).1 (by have := ZX_29.out; have := HC1.out; show ¬ X = sb; omega)).trans X0_31.out); have B_32 := Lib.hid (B_31.out.trans D_32.out); have ZL_32 : Hid (∀ x ∈ [Y, X, sb], x < w_32.heap.size) := Lib.hid (fun x hx => by rcases List.mem_cons.1 hx with h | h; (rw [h]; exact (Array.getElem?_eq_some_iff.1 N_32.out).1); exact Nat.lt_of_lt_of_le (ZL_31.out x h) D_32.out.size); have S_32 := Lib.hid (S_31.out.below LB_32.out); have ZY_32 : Hid (wC.heap.size ≤ Y) := Lib.hid (by rw [hZ_32]; exact B_31.out.size); have XY_32 : Hid (X ≠ Y) := Lib.hid (by have h1 := (Array.getElem?_eq_some_iff.1 X0_31.out).1; rw [← hZ_32] at h1; omega); clear hw_32 hZ_32; refine WD_ready (rs := [8]) (by kernel_rfl) (by simp) ?_; refine AllD.cons (o := _) rfl (fun K hK => ?_) AllD.nil
                          · obtain ⟨⟨y0, y1, y2, y3⟩, k0, k1, k2, k3⟩ := zero_cells X0_32.out; rw [if_pos (by rfl)]; go_simp; refine hK.out _ _ (B_32.out.trans' (set4_frm w_32 X (.int .i64 U1.k) (.string U1.nm) (.int .i64 U1.vr) (.slice A1 U1.args.length c1)) (fun i hi e => by have e2 : i = X := e; have := ZX_29.out; omega)) (fun hHeld => ?_); clear hK K; (try simp only [Act.put, List.setIfInBounds_toArray, List.set_cons_zero, List.set_cons_succ]); clear hHeld; obtain ⟨w_33, hw_33⟩ : ∃ z, z = ((((w_32.setCell ⟨X, 0, none⟩ (.int .i64 U1.k)).setCell ⟨X, 1, none⟩ (.string U1.nm)).setCell ⟨X, 2, none⟩ (.int .i64 U1.vr)).setCell ⟨X, 3, none⟩ (.slice A1 U1.args.length c1)) := ⟨_, rfl⟩
                            try rw [← hw_33]
                            have D_33 : Hid (Frm w_32 w_33 (· = X)) := Lib.hid (by rw [hw_33]; exact (set4_frm w_32 X (.int .i64 U1.k) (.string U1.nm) (.int .i64 U1.vr) (.slice A1 U1.args.length c1))); have XF_33 : Hid (w_33.heap[X]? = some (.cells #[.int .i64 U1.k, .string U1.nm, .int .i64 U1.vr, .slice A1 U1.args.length c1] TT24 (0, 0))) := Lib.hid (by rw [hw_33]; exact set4_heap _ _ _ _ X0_32.out); have T1_33 := Lib.hid (T1_32.out.move (w' := w_33) (P' := fun b => b ∉ [Y, X, sb]) (fun b hb hp => ⟨D_33.out.block b hb (fun e => hp (by rw [show b = X from e]; simp)), hp⟩) D_33.out.size); have T2_33 := Lib.hid (T2_32.out.move (w' := w_33) (P' := fun b => b ∉ [Y, X, sb]) (fun b hb hp => ⟨D_33.out.block b hb (fun e => hp (by rw [show b = X from e]; simp)), hp⟩) D_33.out.size); have Y0_33 := Lib.hid ((D_33.out.block Y (Array.getElem?_eq_some_iff.1 N_32.out).1 (fun e => XY_32.out e.symm)).trans N_32.out); have B_33 := Lib.hid (B_32.out.trans' D_33.out (fun i hi e => by have e2 : i = X := e; have := ZX_29.out; omega)); have ZL_33 : Hid (∀ x ∈ [Y, X, sb], x < w_33.heap.size) := Lib.hid (fun x hx => Nat.lt_of_lt_of_le (ZL_32.out x hx) D_33.out.size); clear hw_33 y0 y1 y2 y3 k0 k1 k2 k3; refine WD_ready (rs := [9]) (by kernel_rfl) (by simp) ?_; refine AllD.last (o := _) rfl (by kernel_rfl) (fun K hK => ?_) AllD.nil
                            · obtain ⟨⟨y0, y1, y2, y3⟩, k0, k1, k2, k3⟩ := zero_cells Y0_33.out; rw [if_pos (by rfl)]; go_simp; refine hK.out _ _ ?_; clear hK K; (try simp only [Act.put, List.setIfInBounds_toArray, List.set_cons_zero, List.set_cons_succ]); obtain ⟨w_34, hw_34⟩ : ∃ z, z = ((((w_33.setCell ⟨Y, 0, none⟩ (.int .i64 U2.k)).setCell ⟨Y, 1, none⟩ (.string U2.nm)).setCell ⟨Y, 2, none⟩ (.int .i64 U2.vr)).setCell ⟨Y, 3, none⟩ (.slice A2 U2.args.length c2)) := ⟨_, rfl⟩
                              try rw [← hw_34]
                              have D_34 : Hid (Frm w_33 w_34 (· = Y)) := Lib.hid (by rw [hw_34]; exact (set4_frm w_33 Y (.int .i64 U2.k) (.string U2.nm) (.int .i64 U2.vr) (.slice A2 U2.args.length c2))); have YF_34 : Hid (w_34.heap[Y]? = some (.cells #[.int .i64 U2.k, .string U2.nm, .int .i64 U2.vr, .slice A2 U2.args.length c2] TT24 (0, 0))) := Lib.hid (by rw [hw_34]; exact set4_heap _ _ _ _ Y0_33.out); have T1_34 := Lib.hid (T1_33.out.move (w' := w_34) (P' := fun b => b ∉ [Y, X, sb]) (fun b hb hp => ⟨D_34.out.block b hb (fun e => hp (by rw [show b = Y from e]; simp)), hp⟩) D_34.out.size); have T2_34 := Lib.hid (T2_33.out.move (w' := w_34) (P' := fun b => b ∉ [Y, X, sb]) (fun b hb hp => ⟨D_34.out.block b hb (fun e => hp (by rw [show b = Y from e]; simp)), hp⟩) D_34.out.size); have XF_34 := Lib.hid ((D_34.out.block X (Array.getElem?_eq_some_iff.1 XF_33.out).1 (fun e => XY_32.out e)).trans XF_33.out); have B_34 := Lib.hid (B_33.out.trans' D_34.out (fun i hi e => by have e2 : i = Y := e; have := ZY_32.out; omega)); have ZL_34 : Hid (∀ x ∈ [Y, X, sb], x < w_34.heap.size) := Lib.hid (fun x hx => Nat.lt_of_lt_of_le (ZL_33.out x hx) D_34.out.size); clear hw_34 y0 y1 y2 y3 k0 k1 k2 k3
                              refine WD_done (by kernel_rfl) ?_ _
                              exact ⟨X, Y, f1, f2, A1, c1, A2, c2, _, _, _, _, _, _, by rfl, ⟨OK1.out, OK2.out, by rw [← HU1.out]; exact XF_34.out, by rw [← HU2.out]; exact YF_34.out, by rw [← HU1.out]; exact T1_34.out.weak (fun _ _ _ => trivial), by rw [← HU2.out]; exact T2_34.out.weak (fun _ _ _ => trivial), B_34.out⟩⟩
                      · rw [if_pos (by rfl)]; go_simp; refine hK.out _ _ (B_30.out.trans (Frm.of_below (below_alloc w_30 _) (Nat.le_refl _) _)) (fun hHeld => ?_); clear hK K; (try simp only [Act.put, List.setIfInBounds_toArray, List.set_cons_zero, List.set_cons_succ]); obtain ⟨w_35, hw_35⟩ : ∃ z, z = w_30.alloc (.cells #[.int .i64 0, .string ⟨#[]⟩, .int .i64 0, .slice none 0 0] TT24) := ⟨_, rfl⟩
                        try rw [← hw_35]
                        clear hHeld; have LB_35 : Hid (Below w_30.heap.size w_30 w_35) := Lib.hid (by rw [hw_35]; exact below_alloc w_30 _); have D_35 := Lib.hid (Frm.of_below LB_35.out (Nat.le_refl _) (· = sb)); have N_35 : Hid (w_35.heap[w_30.heap.size]? = some (.cells #[.int .i64 0, .string ⟨#[]⟩, .int .i64 0, .slice none 0 0] TT24 (0, 0))) := Lib.hid (by rw [hw_35]; exact heap_alloc_new w_30 _); obtain ⟨Y, hZ_35⟩ : ∃ Z, Z = w_30.heap.size := ⟨_, rfl⟩; rw [← hZ_35] at N_35 ⊢; have T1_35 := Lib.hid (T1_30.out.move (w' := w_35) (P' := fun b => b ∉ [Y, X, sb]) (fun b hb hp => ⟨D_35.out.block b hb (fun e => hp (by rw [show b = sb from e]; simp)), by rw [List.mem_cons, not_or]; exact ⟨by have h0 := hb; rw [← hZ_35] at h0; exact Nat.ne_of_lt h0, hp⟩⟩) D_35.out.size); have X0_35 := Lib.hid ((D_35.out.block X (Array.getElem?_eq_some_iff.1 X0_30.out).1 (by have := ZX_29.out; have := HC1.out; show ¬ X = sb; omega)).trans X0_30.out); have B_35 := Lib.hid (B_30.out.trans D_35.out); have ZL_35 : Hid (∀ x ∈ [Y, X, sb], x < w_35.heap.size) := Lib.hid (fun x hx => by rcases List.mem_cons.1 hx with h | h; (rw [h]; exact (Array.getElem?_eq_some_iff.1 N_35.out).1); exact Nat.lt_of_lt_of_le (ZL_30.out x h) D_35.out.size); have S_35 := Lib.hid (S_30.out.below LB_35.out); have ZY_35 : Hid (wC.heap.size ≤ Y) := Lib.hid (by rw [hZ_35]; exact B_30.out.size); have XY_35 : Hid (X ≠ Y) := Lib.hid (by have h1 := (Array.getElem?_eq_some_iff.1 X0_30.out).1; rw [← hZ_35] at h1; omega); clear hw_35 hZ_35; refine WD_ready (rs := [5]) (by kernel_rfl) (by simp) ?_; refine AllD.cons (o := _) rfl (fun K hK => ?_) AllD.nil
                        · rw [if_pos (by rfl)]; go_simp; refine (OV.out _ (20 + M) (20 + M + M) B_35.out (by omega) (by omega) rfl S_35.out).mono ?_; rintro e w_36 ⟨f2, A2, c2, ok_36, rfl, r_36, s_36, d_36⟩; unfold tv; obtain ⟨U2, hU2⟩ : ∃ U, U = renT f2 V := ⟨_, rfl⟩; rw [← hU2] at r_36 ⊢; have HU2 := Lib.hid hU2; clear hU2
                          try go_wp2_with fail
                          refine hK.out _ _ (B_35.out.trans d_36) (fun hHeld => ?_); clear hK K; (try simp only [Act.put, List.setIfInBounds_toArray, List.set_cons_zero, List.set_cons_succ]); clear hHeld; have OK2 := Lib.hid ok_36; have D_36 := Lib.hid d_36; have T1_36 := Lib.hid (T1_35.out.move (w' := w_36) (P' := fun b => b ∉ [Y, X, sb]) (fun b hb hp => ⟨D_36.out.block b hb (fun e => hp (by rw [show b = sb from e]; simp)), hp⟩) D_36.out.size); have X0_36 := Lib.hid ((D_36.out.block X (Array.getElem?_eq_some_iff.1 X0_35.out).1 (by have := ZX_29.out; have := HC1.out; show ¬ X = sb; omega)).trans X0_35.out); have Y0_36 := Lib.hid ((D_36.out.block Y (Array.getElem?_eq_some_iff.1 N_35.out).1 (by have := ZY_35.out; have := HC1.out; show ¬ Y = sb; omega)).trans N_35.out); have B_36 := Lib.hid (B_35.out.trans D_36.out); have ZL_36 : Hid (∀ x ∈ [Y, X, sb], x < w_36.heap.size) := Lib.hid (fun x hx => Nat.lt_of_lt_of_le (ZL_35.out x hx) D_36.out.size); have S_36 := Lib.hid s_36; have T2_36 := Lib.hid (r_36.weak (P' := fun b => b ∉ [Y, X, sb]) (fun b _ hp => notin_ge ZL_35.out hp)); clear ok_36 r_36 s_36 d_36; refine WD_ready (rs := [8]) (by kernel_rfl) (by simp) ?_; refine AllD.cons (o := _) rfl (fun K hK => ?_) AllD.nil
                          · obtain ⟨⟨y0, y1, y2, y3⟩, k0, k1, k2, k3⟩ := zero_cells X0_36.out; rw [if_pos (by rfl)]; go_simp; refine hK.out _ _ (B_36.out.trans' (set4_frm w_36 X (.int .i64 U1.k) (.string U1.nm) (.int .i64 U1.vr) (.slice A1 U1.args.length c1)) (fun i hi e => by have e2 : i = X := e; have := ZX_29.out; omega)) (fun hHeld => ?_); clear hK K; (try simp only [Act.put, List.setIfInBounds_toArray, List.set_cons_zero, List.set_cons_succ]); clear hHeld; obtain ⟨w_37, hw_37⟩ : ∃ z, z = ((((w_36.setCell ⟨X, 0, none⟩ (.int .i64 U1.k)).setCell ⟨X, 1, none⟩ (.string U1.nm)).setCell ⟨X, 2, none⟩ (.int .i64 U1.vr)).setCell ⟨X, 3, none⟩ (.slice A1 U1.args.length c1)) := ⟨_, rfl⟩
                            try rw [← hw_37]
                            have D_37 : Hid (Frm w_36 w_37 (· = X)) := Lib.hid (by rw [hw_37]; exact (set4_frm w_36 X (.int .i64 U1.k) (.string U1.nm) (.int .i64 U1.vr) (.slice A1 U1.args.length c1))); have XF_37 : Hid (w_37.heap[X]? = some (.cells #[.int .i64 U1.k, .string U1.nm, .int .i64 U1.vr, .slice A1 U1.args.length c1] TT24 (0, 0))) := Lib.hid (by rw [hw_37]; exact set4_heap _ _ _ _ X0_36.out); have T1_37 := Lib.hid (T1_36.out.move (w' := w_37) (P' := fun b => b ∉ [Y, X, sb]) (fun b hb hp => ⟨D_37.out.block b hb (fun e => hp (by rw [show b = X from e]; simp)), hp⟩) D_37.out.size); have T2_37 := Lib.hid (T2_36.out.move (w' := w_37) (P' := fun b => b ∉ [Y, X, sb]) (fun b hb hp => ⟨D_37.out.block b hb (fun e => hp (by rw [show b = X from e]; simp)), hp⟩) D_37.out.size); have Y0_37 := Lib.hid ((D_37.out.block Y (Array.getElem?_eq_some_iff.1 Y0_36.out).1 (fun e => XY_35.out e.symm)).trans Y0_36.out); have B_37 := Lib.hid (B_36.out.trans' D_37.out (fun i hi e => by have e2 : i = X := e; have := ZX_29.out; omega)); have ZL_37 : Hid (∀ x ∈ [Y, X, sb], x < w_37.heap.size) := Lib.hid (fun x hx => Nat.lt_of_lt_of_le (ZL_36.out x hx) D_37.out.size); clear hw_37 y0 y1 y2 y3 k0 k1 k2 k3; refine WD_ready (rs := [9]) (by kernel_rfl) (by simp) ?_; refine AllD.last (o := _) rfl (by kernel_rfl) (fun K hK => ?_) AllD.nil
                            · obtain ⟨⟨y0, y1, y2, y3⟩, k0, k1, k2, k3⟩ := zero_cells Y0_37.out; rw [if_pos (by rfl)]; go_simp; refine hK.out _ _ ?_; clear hK K; (try simp only [Act.put, List.setIfInBounds_toArray, List.set_cons_zero, List.set_cons_succ]); obtain ⟨w_38, hw_38⟩ : ∃ z, z = ((((w_37.setCell ⟨Y, 0, none⟩ (.int .i64 U2.k)).setCell ⟨Y, 1, none⟩ (.string U2.nm)).setCell ⟨Y, 2, none⟩ (.int .i64 U2.vr)).setCell ⟨Y, 3, none⟩ (.slice A2 U2.args.length c2)) := ⟨_, rfl⟩
                              try rw [← hw_38]
                              have D_38 : Hid (Frm w_37 w_38 (· = Y)) := Lib.hid (by rw [hw_38]; exact (set4_frm w_37 Y (.int .i64 U2.k) (.string U2.nm) (.int .i64 U2.vr) (.slice A2 U2.args.length c2))); have YF_38 : Hid (w_38.heap[Y]? = some (.cells #[.int .i64 U2.k, .string U2.nm, .int .i64 U2.vr, .slice A2 U2.args.length c2] TT24 (0, 0))) := Lib.hid (by rw [hw_38]; exact set4_heap _ _ _ _ Y0_37.out); have T1_38 := Lib.hid (T1_37.out.move (w' := w_38) (P' := fun b => b ∉ [Y, X, sb]) (fun b hb hp => ⟨D_38.out.block b hb (fun e => hp (by rw [show b = Y from e]; simp)), hp⟩) D_38.out.size); have T2_38 := Lib.hid (T2_37.out.move (w' := w_38) (P' := fun b => b ∉ [Y, X, sb]) (fun b hb hp => ⟨D_38.out.block b hb (fun e => hp (by rw [show b = Y from e]; simp)), hp⟩) D_38.out.size); have XF_38 := Lib.hid ((D_38.out.block X (Array.getElem?_eq_some_iff.1 XF_37.out).1 (fun e => XY_35.out e)).trans XF_37.out); have B_38 := Lib.hid (B_37.out.trans' D_38.out (fun i hi e => by have e2 : i = Y := e; have := ZY_35.out; omega)); have ZL_38 : Hid (∀ x ∈ [Y, X, sb], x < w_38.heap.size) := Lib.hid (fun x hx => Nat.lt_of_lt_of_le (ZL_37.out x hx) D_38.out.size); clear hw_38 y0 y1 y2 y3 k0 k1 k2 k3
                              refine WD_done (by kernel_rfl) ?_ _
                              exact ⟨X, Y, f1, f2, A1, c1, A2, c2, _, _, _, _, _, _, by rfl, ⟨OK1.out, OK2.out, by rw [← HU1.out]; exact XF_38.out, by rw [← HU2.out]; exact YF_38.out, by rw [← HU1.out]; exact T1_38.out.weak (fun _ _ _ => trivial), by rw [← HU2.out]; exact T2_38.out.weak (fun _ _ _ => trivial), B_38.out⟩⟩
                    · rw [if_pos (by rfl)]; go_simp; refine hK.out _ _ (B_29.out.trans (Frm.of_below (below_alloc w_29 _) (Nat.le_refl _) _)) (fun hHeld => ?_); clear hK K; (try simp only [Act.put, List.setIfInBounds_toArray, List.set_cons_zero, List.set_cons_succ]); obtain ⟨w_39, hw_39⟩ : ∃ z, z = w_29.alloc (.cells #[.int .i64 0, .string ⟨#[]⟩, .int .i64 0, .slice none 0 0] TT24) := ⟨_, rfl⟩
                      try rw [← hw_39]
                      clear hHeld; have LB_39 : Hid (Below w_29.heap.size w_29 w_39) := Lib.hid (by rw [hw_39]; exact below_alloc w_29 _); have D_39 := Lib.hid (Frm.of_below LB_39.out (Nat.le_refl _) (· = sb)); have N_39 : Hid (w_39.heap[w_29.heap.size]? = some (.cells #[.int .i64 0, .string ⟨#[]⟩, .int .i64 0, .slice none 0 0] TT24 (0, 0))) := Lib.hid (by rw [hw_39]; exact heap_alloc_new w_29 _); obtain ⟨Y, hZ_39⟩ : ∃ Z, Z = w_29.heap.size := ⟨_, rfl⟩; rw [← hZ_39] at N_39 ⊢; have X0_39 := Lib.hid ((D_39.out.block X (Array.getElem?_eq_some_iff.1 N_29.out).1 (by have := ZX_29.out; have := HC1.out; show ¬ X = sb; omega)).trans N_29.out); have B_39 := Lib.hid (B_29.out.trans D_39.out); have ZL_39 : Hid (∀ x ∈ [Y, X, sb], x < w_39.heap.size) := Lib.hid (fun x hx => by rcases List.mem_cons.1 hx with h | h; (rw [h]; exact (Array.getElem?_eq_some_iff.1 N_39.out).1); exact Nat.lt_of_lt_of_le (ZL_29.out x h) D_39.out.size); have S_39 := Lib.hid (S_29.out.below LB_39.out); have ZY_39 : Hid (wC.heap.size ≤ Y) := Lib.hid (by rw [hZ_39]; exact B_29.out.size); have XY_39 : Hid (X ≠ Y) := Lib.hid (by have h1 := (Array.getElem?_eq_some_iff.1 N_29.out).1; rw [← hZ_39] at h1; omega); clear hw_39 hZ_39; refine WD_ready (rs := [2]) (by kernel_rfl) (by simp) ?_; refine AllD.cons (o := _) rfl (fun K hK => ?_) AllD.nil
                      · rw [if_pos (by rfl)]; go_simp; refine (OV.out _ 20 (20 + M) B_39.out (by omega) (by omega) rfl S_39.out).mono ?_; rintro e w_40 ⟨f1, A1, c1, ok_40, rfl, r_40, s_40, d_40⟩; unfold tv; obtain ⟨U1, hU1⟩ : ∃ U, U = renT f1 V := ⟨_, rfl⟩; rw [← hU1] at r_40 ⊢; have HU1 := Lib.hid hU1; clear hU1
                        try go_wp2_with fail
                        refine hK.out _ _ (B_39.out.trans d_40) (fun hHeld => ?_); clear hK K; (try simp only [Act.put, List.setIfInBounds_toArray, List.set_cons_zero, List.set_cons_succ]); clear hHeld; have OK1 := Lib.hid ok_40; have D_40 := Lib.hid d_40; have X0_40 := Lib.hid ((D_40.out.block X (Array.getElem?_eq_some_iff.1 X0_39.out).1 (by have := ZX_29.out; have := HC1.out; show ¬ X = sb; omega)).trans X0_39.out); have Y0_40 := Lib.hid ((D_40.out.block Y (Array.getElem?_eq_some_iff.1 N_39.out).1 (by have := ZY_39.out; have := HC1.out; show ¬ Y = sb; omega)).trans N_39.out); have B_40 := Lib.hid (B_39.out.trans D_40.out); have ZL_40 : Hid (∀ x ∈ [Y, X, sb], x < w_40.heap.size) := Lib.hid (fun x hx => Nat.lt_of_lt_of_le (ZL_39.out x hx) D_40.out.size); have S_40 := Lib.hid s_40; have T1_40 := Lib.hid (r_40.weak (P' := fun b => b ∉ [Y, X, sb]) (fun b _ hp => notin_ge ZL_39.out hp)); clear ok_40 r_40 s_40 d_40; refine WD_ready (rs := [5]) (by kernel_rfl) (by simp) ?_; refine AllD.cons (o := _) rfl (fun K hK => ?_) AllD.nil
                        · rw [if_pos (by rfl)]; go_simp; refine (OV.out _ (20 + M) (20 + M + M) B_40.out (by omega) (by omega) rfl S_40.out).mono ?_; rintro e w_41 ⟨f2, A2, c2, ok_41, rfl, r_41, s_41, d_41⟩; unfold tv; obtain ⟨U2, hU2⟩ : ∃ U, U = renT f2 V := ⟨_, rfl⟩; rw [← hU2] at r_41 ⊢; have HU2 := Lib.hid hU2; clear hU2
                          try go_wp2_with fail
                          refine hK.out _ _ (B_40.out.trans d_41) (fun hHeld => ?_); clear hK K; (try simp only [Act.put, List.setIfInBounds_toArray, List.set_cons_zero, List.set_cons_succ]); clear hHeld; have OK2 := Lib.hid ok_41; have D_41 := Lib.hid d_41; have T1_41 := Lib.hid (T1_40.out.move (w' := w_41) (P' := fun b => b ∉ [Y, X, sb]) (fun b hb hp => ⟨D_41.out.block b hb (fun e => hp (by rw [show b = sb from e]; simp)), hp⟩) D_41.out.size); have X0_41 := Lib.hid ((D_41.out.block X (Array.getElem?_eq_some_iff.1 X0_40.out).1 (by have := ZX_29.out; have := HC1.out; show ¬ X = sb; omega)).trans X0_40.out); have Y0_41 := Lib.hid ((D_41.out.block Y (Array.getElem?_eq_some_iff.1 Y0_40.out).1 (by have := ZY_39.out; have := HC1.out; show ¬ Y = sb; omega)).trans Y0_40.out); have B_41 := Lib.hid (B_40.out.trans D_41.out); have ZL_41 : Hid (∀ x ∈ [Y, X, sb], x < w_41.heap.size) := Lib.hid (fun x hx => Nat.lt_of_lt_of_le (ZL_40.out x hx) D_41.out.size); have S_41 := Lib.hid s_41; have T2_41 := Lib.hid (r_41.weak (P' := fun b => b ∉ [Y, X, sb]) (fun b _ hp => notin_ge ZL_40.out hp)); clear ok_41 r_41 s_41 d_41; refine WD_ready (rs := [8]) (by kernel_rfl) (by simp) ?_; refine AllD.cons (o := _) rfl (fun K hK => ?_) AllD.nil
                          · obtain ⟨⟨y0, y1, y2, y3⟩, k0, k1, k2, k3⟩ := zero_cells X0_41.out; rw [if_pos (by rfl)]; go_simp; refine hK.out _ _ (B_41.out.trans' (set4_frm w_41 X (.int .i64 U1.k) (.string U1.nm) (.int .i64 U1.vr) (.slice A1 U1.args.length c1)) (fun i hi e => by have e2 : i = X := e; have := ZX_29.out; omega)) (fun hHeld => ?_); clear hK K; (try simp only [Act.put, List.setIfInBounds_toArray, List.set_cons_zero, List.set_cons_succ]); clear hHeld; obtain ⟨w_42, hw_42⟩ : ∃ z, z = ((((w_41.setCell ⟨X, 0, none⟩ (.int .i64 U1.k)).setCell ⟨X, 1, none⟩ (.string U1.nm)).setCell ⟨X, 2, none⟩ (.int .i64 U1.vr)).setCell ⟨X, 3, none⟩ (.slice A1 U1.args.length c1)) := ⟨_, rfl⟩
                            try rw [← hw_42]
                            have D_42 : Hid (Frm w_41 w_42 (· = X)) := Lib.hid (by rw [hw_42]; exact (set4_frm w_41 X (.int .i64 U1.k) (.string U1.nm) (.int .i64 U1.vr) (.slice A1 U1.args.length c1))); have XF_42 : Hid (w_42.heap[X]? = some (.cells #[.int .i64 U1.k, .string U1.nm, .int .i64 U1.vr, .slice A1 U1.args.length c1] TT24 (0, 0))) := Lib.hid (by rw [hw_42]; exact set4_heap _ _ _ _ X0_41.out); have T1_42 := Lib.hid (T1_41.out.move (w' := w_42) (P' := fun b => b ∉ [Y, X, sb]) (fun b hb hp => ⟨D_42.out.block b hb (fun e => hp (by rw [show b = X from e]; simp)), hp⟩) D_42.out.size); have T2_42 := Lib.hid (T2_41.out.move (w' := w_42) (P' := fun b => b ∉ [Y, X, sb]) (fun b hb hp => ⟨D_42.out.block b hb (fun e => hp (by rw [show b = X from e]; simp)), hp⟩) D_42.out.size); have Y0_42 := Lib.hid ((D_42.out.block Y (Array.getElem?_eq_some_iff.1 Y0_41.out).1 (fun e => XY_39.out e.symm)).trans Y0_41.out); have B_42 := Lib.hid (B_41.out.trans' D_42.out (fun i hi e => by have e2 : i = X := e; have := ZX_29.out; omega)); have ZL_42 : Hid (∀ x ∈ [Y, X, sb], x < w_42.heap.size) := Lib.hid (fun x hx => Nat.lt_of_lt_of_le (ZL_41.out x hx) D_42.out.size); clear hw_42 y0 y1 y2 y3 k0 k1 k2 k3; refine WD_ready (rs := [9]) (by kernel_rfl) (by simp) ?_; refine AllD.last (o := _) rfl (by kernel_rfl) (fun K hK => ?_) AllD.nil
                            · obtain ⟨⟨y0, y1, y2, y3⟩, k0, k1, k2, k3⟩ := zero_cells Y0_42.out; rw [if_pos (by rfl)]; go_simp; refine hK.out _ _ ?_; clear hK K; (try simp only [Act.put, List.setIfInBounds_toArray, List.set_cons_zero, List.set_cons_succ]); obtain ⟨w_43, hw_43⟩ : ∃ z, z = ((((w_42.setCell ⟨Y, 0, none⟩ (.int .i64 U2.k)).setCell ⟨Y, 1, none⟩ (.string U2.nm)).setCell ⟨Y, 2, none⟩ (.int .i64 U2.vr)).setCell ⟨Y, 3, none⟩ (.slice A2 U2.args.length c2)) := ⟨_, rfl⟩
                              try rw [← hw_43]
                              have D_43 : Hid (Frm w_42 w_43 (· = Y)) := Lib.hid (by rw [hw_43]; exact (set4_frm w_42 Y (.int .i64 U2.k) (.string U2.nm) (.int .i64 U2.vr) (.slice A2 U2.args.length c2))); have YF_43 : Hid (w_43.heap[Y]? = some (.cells #[.int .i64 U2.k, .string U2.nm, .int .i64 U2.vr, .slice A2 U2.args.length c2] TT24 (0, 0))) := Lib.hid (by rw [hw_43]; exact set4_heap _ _ _ _ Y0_42.out); have T1_43 := Lib.hid (T1_42.out.move (w' := w_43) (P' := fun b => b ∉ [Y, X, sb]) (fun b hb hp => ⟨D_43.out.block b hb (fun e => hp (by rw [show b = Y from e]; simp)), hp⟩) D_43.out.size); have T2_43 := Lib.hid (T2_42.out.move (w' := w_43) (P' := fun b => b ∉ [Y, X, sb]) (fun b hb hp => ⟨D_43.out.block b hb (fun e => hp (by rw [show b = Y from e]; simp)), hp⟩) D_43.out.size); have XF_43 := Lib.hid ((D_43.out.block X (Array.getElem?_eq_some_iff.1 XF_42.out).1 (fun e => XY_39.out e)).trans XF_42.out); have B_43 := Lib.hid (B_42.out.trans' D_43.out (fun i hi e => by have e2 : i = Y := e; have := ZY_39.out; omega)); have ZL_43 : Hid (∀ x ∈ [Y, X, sb], x < w_43.heap.size) := Lib.hid (fun x hx => Nat.lt_of_lt_of_le (ZL_42.out x hx) D_43.out.size); clear hw_43 y0 y1 y2 y3 k0 k1 k2 k3
                              refine WD_done (by kernel_rfl) ?_ _
                              exact ⟨X, Y, f1, f2, A1, c1, A2, c2, _, _, _, _, _, _, by rfl, ⟨OK1.out, OK2.out, by rw [← HU1.out]; exact XF_43.out, by rw [← HU2.out]; exact YF_43.out, by rw [← HU1.out]; exact T1_43.out.weak (fun _ _ _ => trivial), by rw [← HU2.out]; exact T2_43.out.weak (fun _ _ _ => trivial), B_43.out⟩⟩
                  · rw [if_pos (by rfl)]; go_simp; refine hK.out _ _ (B_0.out.trans (Frm.of_below (below_alloc w_0 _) (Nat.le_refl _) _)) (fun hHeld => ?_); clear hK K; (try simp only [Act.put, List.setIfInBounds_toArray, List.set_cons_zero, List.set_cons_succ]); obtain ⟨w_44, hw_44⟩ : ∃ z, z = w_0.alloc (.cells #[.int .i64 0, .string ⟨#[]⟩, .int .i64 0, .slice none 0 0] TT24) := ⟨_, rfl⟩
                    try rw [← hw_44]
                    clear hHeld; have LB_44 : Hid (Below w_0.heap.size w_0 w_44) := Lib.hid (by rw [hw_44]; exact below_alloc w_0 _); have D_44 := Lib.hid (Frm.of_below LB_44.out (Nat.le_refl _) (· = sb)); have N_44 : Hid (w_44.heap[w_0.heap.size]? = some (.cells #[.int .i64 0, .string ⟨#[]⟩, .int .i64 0, .slice none 0 0] TT24 (0, 0))) := Lib.hid (by rw [hw_44]; exact heap_alloc_new w_0 _); obtain ⟨Y, hZ_44⟩ : ∃ Z, Z = w_0.heap.size := ⟨_, rfl⟩; rw [← hZ_44] at N_44 ⊢; have B_44 := Lib.hid (B_0.out.trans D_44.out); have ZL_44 : Hid (∀ x ∈ [Y, sb], x < w_44.heap.size) := Lib.hid (fun x hx => by rcases List.mem_cons.1 hx with h | h; (rw [h]; exact (Array.getElem?_eq_some_iff.1 N_44.out).1); exact Nat.lt_of_lt_of_le (ZL_0.out x h) D_44.out.size); have S_44 := Lib.hid (S_0.out.below LB_44.out); have ZY_44 : Hid (wC.heap.size ≤ Y) := Lib.hid (by rw [hZ_44]; exact B_0.out.size); clear hw_44 hZ_44; refine WD_ready (rs := [2, 6]) (by kernel_rfl) (by simp) ?_; refine AllD.cons (o := _) rfl (fun K hK => ?_) (AllD.cons (o := _) rfl (fun K hK => ?_) AllD.nil)
                    · rw [if_pos (by rfl)]; go_simp; refine (OV.out _ 20 (20 + M) B_44.out (by omega) (by omega) rfl S_44.out).mono ?_; rintro e w_45 ⟨f1, A1, c1, ok_45, rfl, r_45, s_45, d_45⟩; unfold tv; obtain ⟨U1, hU1⟩ : ∃ U, U = renT f1 V := ⟨_, rfl⟩; rw [← hU1] at r_45 ⊢; have HU1 := Lib.hid hU1; clear hU1
                      try go_wp2_with fail
                      refine hK.out _ _ (B_44.out.trans d_45) (fun hHeld => ?_); clear hK K; (try simp only [Act.put, List.setIfInBounds_toArray, List.set_cons_zero, List.set_cons_succ]); clear hHeld; have OK1 := Lib.hid ok_45; have D_45 := Lib.hid d_45; have Y0_45 := Lib.hid ((D_45.out.block Y (Array.getElem?_eq_some_iff.1 N_44.out).1 (by have := ZY_44.out; have := HC1.out; show ¬ Y = sb; omega)).trans N_44.out); have B_45 := Lib.hid (B_44.out.trans D_45.out); have ZL_45 : Hid (∀ x ∈ [Y, sb], x < w_45.heap.size) := Lib.hid (fun x hx => Nat.lt_of_lt_of_le (ZL_44.out x hx) D_45.out.size); have S_45 := Lib.hid s_45; have T1_45 := Lib.hid (r_45.weak (P' := fun b => b ∉ [Y, sb]) (fun b _ hp => notin_ge ZL_44.out hp)); clear ok_45 r_45 s_45 d_45; refine WD_ready (rs := [5, 6]) (by kernel_rfl) (by simp) ?_; refine AllD.cons (o := _) rfl (fun K hK => ?_) (AllD.cons (o := _) rfl (fun K hK => ?_) AllD.nil)
                      · rw [if_pos (by rfl)]; go_simp; refine (OV.out _ (20 + M) (20 + M + M) B_45.out (by omega) (by omega) rfl S_45.out).mono ?_; rintro e w_46 ⟨f2, A2, c2, ok_46, rfl, r_46, s_46, d_46⟩; unfold tv; obtain ⟨U2, hU2⟩ : ∃ U, U = renT f2 V := ⟨_, rfl⟩; rw [← hU2] at r_46 ⊢; have HU2 := Lib.hid hU2; clear hU2
                        try go_wp2_with fail
                        refine hK.out _ _ (B_45.out.trans d_46) (fun hHeld => ?_); clear hK K; (try simp only [Act.put, List.setIfInBounds_toArray, List.set_cons_zero, List.set_cons_succ]); clear hHeld; have OK2 := Lib.hid ok_46; have D_46 := Lib.hid d_46; have T1_46 := Lib.hid (T1_45.out.move (w' := w_46) (P' := fun b => b ∉ [Y, sb]) (fun b hb hp => ⟨D_46.out.block b hb (fun e => hp (by rw [show b = sb from e]; simp)), hp⟩) D_46.out.size); have Y0_46 := Lib.hid ((D_46.out.block Y (Array.getElem?_eq_some_iff.1 Y0_45.out).1 (by have := ZY_44.out; have := HC1.out; show ¬ Y = sb; omega)).trans Y0_45.out); have B_46 := Lib.hid (B_45.out.trans D_46.out); have ZL_46 : Hid (∀ x ∈ [Y, sb], x < w_46.heap.size) := Lib.hid (fun x hx => Nat.lt_of_lt_of_le (ZL_45.out x hx) D_46.out.size); have S_46 := Lib.hid s_46; have T2_46 := Lib.hid (r_46.weak (P' := fun b => b ∉ [Y, sb]) (fun b _ hp => notin_ge ZL_45.out hp)); clear ok_46 r_46 s_46 d_46; refine WD_ready (rs := [6]) (by kernel_rfl) (by simp) ?_; refine AllD.cons (o := _) rfl (fun K hK => ?_) AllD.nil
                        · rw [if_pos (by rfl)]; go_simp; refine hK.out _ _ (B_46.out.trans (Frm.of_below (below_alloc w_46 _) (Nat.le_refl _) _)) (fun hHeld => ?_); clear hK K; (try simp only [Act.put, List.setIfInBounds_toArray, List.set_cons_zero, List.set_cons_succ]); obtain ⟨w_47, hw_47⟩ : ∃ z, z = w_46.alloc (.cells #[.int .i64 0, .string ⟨#[]⟩, .int .i64 0, .slice none 0 0] TT24) := ⟨_, rfl⟩
                          try rw [← hw_47]
                          clear hHeld; have LB_47 : Hid (Below w_46.heap.size w_46 w_47) := Lib.hid (by rw [hw_47]; exact below_alloc w_46 _); have D_47 := Lib.hid (Frm.of_below LB_47.out (Nat.le_refl _) (· = sb)); have N_47 : Hid (w_47.heap[w_46.heap.size]? = some (.cells #[.int .i64 0, .string ⟨#[]⟩, .int .i64 0, .slice none 0 0] TT24 (0, 0))) := Lib.hid (by rw [hw_47]; exact heap_alloc_new w_46 _); obtain ⟨X, hZ_47⟩ : ∃ Z, Z = w_46.heap.size := ⟨_, rfl⟩; rw [← hZ_47] at N_47 ⊢; have T1_47 := Lib.hid (T1_46.out.move (w' := w_47) (P' := fun b => b ∉ [X, Y, sb]) (fun b hb hp => ⟨D_47.out.block b hb (fun e => hp (by rw [show b = sb from e]; simp)), by rw [List.mem_cons, not_or]; exact ⟨by have h0 := hb; rw [← hZ_47] at h0; exact Nat.ne_of_lt h0, hp⟩⟩) D_47.out.size); have T2_47 := Lib.hid (T2_46.out.move (w' := w_47) (P' := fun b => b ∉ [X, Y, sb]) (fun b hb hp => ⟨D_47.out.block b hb (fun e => hp (by rw [show b = sb from e]; simp)), by rw [List.mem_cons, not_or]; exact ⟨by have h0 := hb; rw [← hZ_47] at h0; exact Nat.ne_of_lt h0, hp⟩⟩) D_47.out.size); have Y0_47 := Lib.hid ((D_47.out.block Y (Array.getElem?_eq_some_iff.1 Y0_46.out).1 (by have := ZY_44.out; have := HC1.out; show ¬ Y = sb; omega)).trans Y0_46.out); have B_47 := Lib.hid (B_46.out.trans D_47.out); have ZL_47 : Hid (∀ x ∈ [X, Y, sb], x < w_47.heap.size) := Lib.hid (fun x hx => by rcases List.mem_cons.1 hx with h | h; (rw [h]; exact (Array.getElem?_eq_some_iff.1 N_47.out).1); exact Nat.lt_of_lt_of_le (ZL_46.out x h) D_47.out.size); have S_47 := Lib.hid (S_46.out.below LB_47.out); have ZX_47 : Hid (wC.heap.size ≤ X) := Lib.hid (by rw [hZ_47]; exact B_46.out.size); have XY_47 : Hid (X ≠ Y) := Lib.hid (by have h1 := (Array.getElem?_eq_some_iff.1 Y0_46.out).1; rw [← hZ_47] at h1; omega); clear hw_47 hZ_47; refine WD_ready (rs := [8]) (by kernel_rfl) (by simp) ?_; refine AllD.cons (o := _) rfl (fun K hK => ?_) AllD.nil
                          · obtain ⟨⟨y0, y1, y2, y3⟩, k0, k1, k2, k3⟩ := zero_cells N_47.out; rw [if_pos (by rfl)]; go_simp; refine hK.out _ _ (B_47.out.trans' (set4_frm w_47 X (.int .i64 U1.k) (.string U1.nm) (.int .i64 U1.vr) (.slice A1 U1.args.length c1)) (fun i hi e => by have e2 : i = X := e; have := ZX_47.out; omega)) (fun hHeld => ?_); clear hK K; (try simp only [Act.put, List.setIfInBounds_toArray, List.set_cons_zero, List.set_cons_succ]); clear hHeld; obtain ⟨w_48, hw_48⟩ : ∃ z, z = ((((w_47.setCell ⟨X, 0, none⟩ (.int .i64 U1.k)).setCell ⟨X, 1, none⟩ (.string U1.nm)).setCell ⟨X, 2, none⟩ (.int .i64 U1.vr)).setCell ⟨X, 3, none⟩ (.slice A1 U1.args.length c1)) := ⟨_, rfl⟩
                            try rw [← hw_48]
                            have D_48 : Hid (Frm w_47 w_48 (· = X)) := Lib.hid (by rw [hw_48]; exact (set4_frm w_47 X (.int .i64 U1.k) (.string U1.nm) (.int .i64 U1.vr) (.slice A1 U1.args.length c1))); have XF_48 : Hid (w_48.heap[X]? = some (.cells #[.int .i64 U1.k, .string U1.nm, .int .i64 U1.vr, .slice A1 U1.args.length c1] TT24 (0, 0))) := Lib.hid (by rw [hw_48]; exact set4_heap _ _ _ _ N_47.out); have T1_48 := Lib.hid (T1_47.out.move (w' := w_48) (P' := fun b => b ∉ [X, Y, sb]) (fun b hb hp => ⟨D_48.out.block b hb (fun e => hp (by rw [show b = X from e]; simp)), hp⟩) D_48.out.size); have T2_48 := Lib.hid (T2_47.out.move (w' := w_48) (P' := fun b => b ∉ [X, Y, sb]) (fun b hb hp => ⟨D_48.out.block b hb (fun e => hp (by rw [show b = X from e]; simp)), hp⟩) D_48.out.size); have Y0_48 := Lib.hid ((D_48.out.block Y (Array.getElem?_eq_some_iff.1 Y0_47.out).1 (fun e => XY_47.out e.symm)).trans Y0_47.out); have B_48 := Lib.hid (B_47.out.trans' D_48.out (fun i hi e => by have e2 : i = X := e; have := ZX_47.out; omega)); have ZL_48 : Hid (∀ x ∈ [X, Y, sb], x < w_48.heap.size) := Lib.hid (fun x hx => Nat.lt_of_lt_of_le (ZL_47.out x hx) D_48.out.size); clear hw_48 y0 y1 y2 y3 k0 k1 k2 k3; refine WD_ready (rs := [9]) (by kernel_rfl) (by simp) ?_; refine AllD.last (o := _) rfl (by kernel_rfl) (fun K hK => ?_) AllD.nil
                            · obtain ⟨⟨y0, y1, y2, y3⟩, k0, k1, k2, k3⟩ := zero_cells Y0_48.out; rw [if_pos (by rfl)]; go_simp; refine hK.out _ _ ?_; clear hK K; (try simp only [Act.put, List.setIfInBounds_toArray, List.set_cons_zero, List.set_cons_succ]); obtain ⟨w_49, hw_49⟩ : ∃ z, z = ((((w_48.setCell ⟨Y, 0, none⟩ (.int .i64 U2.k)).setCell ⟨Y, 1, none⟩ (.string U2.nm)).setCell ⟨Y, 2, none⟩ (.int .i64 U2.vr)).setCell ⟨Y, 3, none⟩ (.slice A2 U2.args.length c2)) := ⟨_, rfl⟩
                              try rw [← hw_49]
                              have D_49 : Hid (Frm w_48 w_49 (· = Y)) := Lib.hid (by rw [hw_49]; exact (set4_frm w_48 Y (.int .i64 U2.k) (.string U2.nm) (.int .i64 U2.vr) (.slice A2 U2.args.length c2))); have YF_49 : Hid (w_49.heap[Y]? = some (.cells #[.int .i64 U2.k, .string U2.nm, .int .i64 U2.vr, .slice A2 U2.args.length c2] TT24 (0, 0))) := Lib.hid (by rw [hw_49]; exact set4_heap _ _ _ _ Y0_48.out); have T1_49 := Lib.hid (T1_48.out.move (w' := w_49) (P' := fun b => b ∉ [X, Y, sb]) (fun b hb hp => ⟨D_49.out.block b hb (fun e => hp (by rw [show b = Y from e]; simp)), hp⟩) D_49.out.size); have T2_49 := Lib.hid (T2_48.out.move (w' := w_49) (P' := fun b => b ∉ [X, Y, sb]) (fun b hb hp => ⟨D_49.out.block b hb (fun e => hp (by rw [show b = Y from e]; simp)), hp⟩) D_49.out.size); have XF_49 := Lib.hid ((D_49.out.block X (Array.getElem?_eq_some_iff.1 XF_48.out).1 (fun e => XY_47.out e)).trans XF_48.out); have B_49 := Lib.hid (B_48.out.trans' D_49.out (fun i hi e => by have e2 : i = Y := e; have := ZY_44.out; omega)); have ZL_49 : Hid (∀ x ∈ [X, Y, sb], x < w_49.heap.size) := Lib.hid (fun x hx => Nat.lt_of_lt_of_le (ZL_48.out x hx) D_49.out.size); clear hw_49 y0 y1 y2 y3 k0 k1 k2 k3
                              refine WD_done (by kernel_rfl) ?_ _
                              exact ⟨X, Y, f1, f2, A1, c1, A2, c2, _, _, _, _, _, _, by rfl, ⟨OK1.out, OK2.out, by rw [← HU1.out]; exact XF_49.out, by rw [← HU2.out]; exact YF_49.out, by rw [← HU1.out]; exact T1_49.out.weak (fun _ _ _ => trivial), by rw [← HU2.out]; exact T2_49.out.weak (fun _ _ _ => trivial), B_49.out⟩⟩
                      · rw [if_pos (by rfl)]; go_simp; refine hK.out _ _ (B_45.out.trans (Frm.of_below (below_alloc w_45 _) (Nat.le_refl _) _)) (fun hHeld => ?_); clear hK K; (try simp only [Act.put, List.setIfInBounds_toArray, List.set_cons_zero, List.set_cons_succ]); obtain ⟨w_50, hw_50⟩ : ∃ z, z = w_45.alloc (.cells #[.int .i64 0, .string ⟨#[]⟩, .int .i64 0, .slice none 0 0] TT24) := ⟨_, rfl⟩
                        try rw [← hw_50]
                        clear hHeld; have LB_50 : Hid (Below w_45.heap.size w_45 w_50) := Lib.hid (by rw [hw_50]; exact below_alloc w_45 _); have D_50 := Lib.hid (Frm.of_below LB_50.out (Nat.le_refl _) (· = sb)); have N_50 : Hid (w_50.heap[w_45.heap.size]? = some (.cells #[.int .i64 0, .string ⟨#[]⟩, .int .i64 0, .slice none 0 0] TT24 (0, 0))) := Lib.hid (by rw [hw_50]; exact heap_alloc_new w_45 _); obtain ⟨X, hZ_50⟩ : ∃ Z, Z = w_45.heap.size := ⟨_, rfl⟩; rw [← hZ_50] at N_50 ⊢; have T1_50 := Lib.hid (T1_45.out.move (w' := w_50) (P' := fun b => b ∉ [X, Y, sb]) (fun b hb hp => ⟨D_50.out.block b hb (fun e => hp (by rw [show b = sb from e]; simp)), by rw [List.mem_cons, not_or]; exact ⟨by have h0 := hb; rw [← hZ_50] at h0; exact Nat.ne_of_lt h0, hp⟩⟩) D_50.out.size); have Y0_50 := Lib.hid ((D_50.out.block Y (Array.getElem?_eq_some_iff.1 Y0_45.out).1 (by have := ZY_44.out; have := HC1.out; show ¬ Y = sb; omega)).trans Y0_45.out); have B_50 := Lib.hid (B_45.out.trans D_50.out); have ZL_50 : Hid (∀ x ∈ [X, Y, sb], x < w_50.heap.size) := Lib.hid (fun x hx => by rcases List.mem_cons.1 hx with h | h; (rw [h]; exact (Array.getElem?_eq_some_iff.1 N_50.out).1); exact Nat.lt_of_lt_of_le (ZL_45.out x h) D_50.out.size); have S_50 := Lib.hid (S_45.out.below LB_50.out); have ZX_50 : Hid (wC.heap.size ≤ X) := Lib.hid (by rw [hZ_50]; exact B_45.out.size); have XY_50 : Hid (X ≠ Y) := Lib.hid (by have h1 := (Array.getElem?_eq_some_iff.1 Y0_45.out).1; rw [← hZ_50] at h1; omega); clear hw_50 hZ_50; refine WD_ready (rs := [5]) (by kernel_rfl) (by simp) ?_; refine AllD.cons (o := _) rfl (fun K hK => ?_) AllD.nil
                        · rw [if_pos (by rfl)]; go_simp; refine (OV.out _ (20 + M) (20 + M + M) B_50.out (by omega) (by omega) rfl S_50.out).mono ?_; rintro e w_51 ⟨f2, A2, c2, ok_51, rfl, r_51, s_51, d_51⟩; unfold tv; obtain ⟨U2, hU2⟩ : ∃ U, U = renT f2 V := ⟨_, rfl⟩; rw [← hU2] at r_51 ⊢; have HU2 := Lib.hid hU2; clear hU2
                          try go_wp2_with fail
                          refine hK.out _ _ (B_50.out.trans d_51) (fun hHeld => ?_); clear hK K; (try simp only [Act.put, List.setIfInBounds_toArray, List.set_cons_zero, List.set_cons_succ]); clear hHeld; have OK2 := Lib.hid ok_51; have D_51 := Lib.hid d_51; have T1_51 := Lib.hid (T1_50.out.move (w' := w_51) (P' := fun b => b ∉ [X, Y, sb]) (fun b hb hp => ⟨D_51.out.block b hb (fun e => hp (by rw [show b = sb from e]; simp)), hp⟩) D_51.out.size); have X0_51 := Lib.hid ((D_51.out.block X (Array.getElem?_eq_some_iff.1 N_50.out).1 (by have := ZX_50.out; have := HC1.out; show ¬ X = sb; omega)).trans N_50.out); have Y0_51 := Lib.hid ((D_51.out.block Y (Array.getElem?_eq_some_iff.1 Y0_50.out).1 (by have := ZY_44.out; have := HC1.out; show ¬ Y = sb; omega)).trans Y0_50.out); have B_51 := Lib.hid (B_50.out.trans D_51.out); have ZL_51 : Hid (∀ x ∈ [X, Y, sb], x < w_51.heap.size) := Lib.hid (fun x hx => Nat.lt_of_lt_of_le (ZL_50.out x hx) D_51.out.size); have S_51 := Lib.hid s_51; have T2_51 := Lib.hid (r_51.weak (P' := fun b => b ∉ [X, Y, sb]) (fun b _ hp => notin_ge ZL_50.out hp)); clear ok_51 r_51 s_51 d_51; refine WD_ready (rs := [8]) (by kernel_rfl) (by simp) ?_; refine AllD.cons (o := _) rfl (fun K hK => ?_) AllD.nil
                          · obtain ⟨⟨y0, y1, y2, y3⟩, k0, k1, k2, k3⟩ := zero_cells X0_51.out; rw [if_pos (by rfl)]; go_simp; refine hK.out _ _ (B_51.out.trans' (set4_frm w_51 X (.int .i64 U1.k) (.string U1.nm) (.int .i64 U1.vr) (.slice A1 U1.args.length c1)) (fun i hi e => by have e2 : i = X := e; have := ZX_50.out; omega)) (fun hHeld => ?_); clear hK K; (try simp only [Act.put, List.setIfInBounds_toArray, List.set_cons_zero, List.set_cons_succ]); clear hHeld; obtain ⟨w_52, hw_52⟩ : ∃ z, z = ((((w_51.setCell ⟨X, 0, none⟩ (.int .i64 U1.k)).setCell ⟨X, 1, none⟩ (.string U1.nm)).setCell ⟨X, 2, none⟩ (.int .i64 U1.vr)).setCell ⟨X, 3, none⟩ (.slice A1 U1.args.length c1)) := ⟨_, rfl⟩
                            try rw [← hw_52]
                            have D_52 : Hid (Frm w_51 w_52 (· = X)) := Lib.hid (by rw [hw_52]; exact (set4_frm w_51 X (.int .i64 U1.k) (.string U1.nm) (.int .i64 U1.vr) (.slice A1 U1.args.length c1))); have XF_52 : Hid (w_52.heap[X]? = some (.cells #[.int .i64 U1.k, .string U1.nm, .int .i64 U1.vr, .slice A1 U1.args.length c1] TT24 (0, 0))) := Lib.hid (by rw [hw_52]; exact set4_heap _ _ _ _ X0_51.out); have T1_52 := Lib.hid (T1_51.out.move (w' := w_52) (P' := fun b => b ∉ [X, Y, sb]) (fun b hb hp => ⟨D_52.out.block b hb (fun e => hp (by rw [show b = X from e]; simp)), hp⟩) D_52.out.size); have T2_52 := Lib.hid (T2_51.out.move (w' := w_52) (P' := fun b => b ∉ [X, Y, sb]) (fun b hb hp => ⟨D_52.out.block b hb (fun e => hp (by rw [show b = X from e]; simp)), hp⟩) D_52.out.size); have Y0_52 := Lib.hid ((D_52.out.block Y (Array.getElem?_eq_some_iff.1 Y0_51.out).1 (fun e => XY_50.out e.symm)).trans Y0_51.out); have B_52 := Lib.hid (B_51.out.trans' D_52.out (fun i hi e => by have e2 : i = X := e; have := ZX_50.out; omega)); have ZL_52 : Hid (∀ x ∈ [X, Y, sb], x < w_52.heap.size) := Lib.hid (fun x hx => Nat.lt_of_lt_of_le (ZL_51.out x hx) D_52.out.size); clear hw_52 y0 y1 y2 y3 k0 k1 k2 k3; refine WD_ready (rs := [9]) (by kernel_rfl) (by simp) ?_; refine AllD.last (o := _) rfl (by kernel_rfl) (fun K hK => ?_) AllD.nil
                            · obtain ⟨⟨y0, y1, y2, y3⟩, k0, k1, k2, k3⟩ := zero_cells Y0_52.out; rw [if_pos (by rfl)]; go_simp; refine hK.out _ _ ?_; clear hK K; (try simp only [Act.put, List.setIfInBounds_toArray, List.set_cons_zero, List.set_cons_succ]); obtain ⟨w_53, hw_53⟩ : ∃ z, z = ((((w_52.setCell ⟨Y, 0, none⟩ (.int .i64 U2.k)).setCell ⟨Y, 1, none⟩ (.string U2.nm)).setCell ⟨Y, 2, none⟩ (.int .i64 U2.vr)).setCell ⟨Y, 3, none⟩ (.slice A2 U2.args.length c2)) := ⟨_, rfl⟩
                              try rw [← hw_53]
                              have D_53 : Hid (Frm w_52 w_53 (· = Y)) := Lib.hid (by rw [hw_53]; exact (set4_frm w_52 Y (.int .i64 U2.k) (.string U2.nm) (.int .i64 U2.vr) (.slice A2 U2.args.length c2))); have YF_53 : Hid (w_53.heap[Y]? = some (.cells #[.int .i64 U2.k, .string U2.nm, .int .i64 U2.vr, .slice A2 U2.args.length c2] TT24 (0, 0))) := Lib.hid (by rw [hw_53]; exact set4_heap _ _ _ _ Y0_52.out); have T1_53 := Lib.hid (T1_52.out.move (w' := w_53) (P' := fun b => b ∉ [X, Y, sb]) (fun b hb hp => ⟨D_53.out.block b hb (fun e => hp (by rw [show b = Y from e]; simp)), hp⟩) D_53.out.size); have T2_53 := Lib.hid (T2_52.out.move (w' := w_53) (P' := fun b => b ∉ [X, Y, sb]) (fun b hb hp => ⟨D_53.out.block b hb (fun e => hp (by rw [show b = Y from e]; simp)), hp⟩) D_53.out.size); have XF_53 := Lib.hid ((D_53.out.block X (Array.getElem?_eq_some_iff.1 XF_52.out).1 (fun e => XY_50.out e)).trans XF_52.out); have B_53 := Lib.hid (B_52.out.trans' D_53.out (fun i hi e => by have e2 : i = Y := e; have := ZY_44.out; omega)); have ZL_53 : Hid (∀ x ∈ [X, Y, sb], x < w_53.heap.size) := Lib.hid (fun x hx => Nat.lt_of_lt_of_le (ZL_52.out x hx) D_53.out.size); clear hw_53 y0 y1 y2 y3 k0 k1 k2 k3
                              refine WD_done (by kernel_rfl) ?_ _
                              exact ⟨X, Y, f1, f2, A1, c1, A2, c2, _, _, _, _, _, _, by rfl, ⟨OK1.out, OK2.out, by rw [← HU1.out]; exact XF_53.out, by rw [← HU2.out]; exact YF_53.out, by rw [← HU1.out]; exact T1_53.out.weak (fun _ _ _ => trivial), by rw [← HU2.out]; exact T2_53.out.weak (fun _ _ _ => trivial), B_53.out⟩⟩
                    · rw [if_pos (by rfl)]; go_simp; refine hK.out _ _ (B_44.out.trans (Frm.of_below (below_alloc w_44 _) (Nat.le_refl _) _)) (fun hHeld => ?_); clear hK K; (try simp only [Act.put, List.setIfInBounds_toArray, List.set_cons_zero, List.set_cons_succ]); obtain ⟨w_54, hw_54⟩ : ∃ z, z = w_44.alloc (.cells #[.int .i64 0, .string ⟨#[]⟩, .int .i64 0, .slice none 0 0] TT24) := ⟨_, rfl⟩
                      try rw [← hw_54]
                      clear hHeld; have LB_54 : Hid (Below w_44.heap.size w_44 w_54) := Lib.hid (by rw [hw_54]; exact below_alloc w_44 _); have D_54 := Lib.hid (Frm.of_below LB_54.out (Nat.le_refl _) (· = sb)); have N_54 : Hid (w_54.heap[w_44.heap.size]? = some (.cells #[.int .i64 0, .string ⟨#[]⟩, .int .i64 0, .slice none 0 0] TT24 (0, 0))) := Lib.hid (by rw [hw_54]; exact heap_alloc_new w_44 _); obtain ⟨X, hZ_54⟩ : ∃ Z, Z = w_44.heap.size := ⟨_, rfl⟩; rw [← hZ_54] at N_54 ⊢; have Y0_54 := Lib.hid ((D_54.out.block Y (Array.getElem?_eq_some_iff.1 N_44.out).1 (by have := ZY_44.out; have := HC1.out; show ¬ Y = sb; omega)).trans N_44.out); have B_54 := Lib.hid (B_44.out.trans D_54.out); have ZL_54 : Hid (∀ x ∈ [X, Y, sb], x < w_54.heap.size) := Lib.hid (fun x hx => by rcases List.mem_cons.1 hx with h | h; (rw [h]; exact (Array.getElem?_eq_some_iff.1 N_54.out).1); exact Nat.lt_of_lt_of_le (ZL_44.out x h) D_54.out.size); have S_54 := Lib.hid (S_44.out.below LB_54.out); have ZX_54 : Hid (wC.heap.size ≤ X) := Lib.hid (by rw [hZ_54]; exact B_44.out.size); have XY_54 : Hid (X ≠ Y) := Lib.hid (by have h1 := (Array.getElem?_eq_some_iff.1 N_44.out).1; rw [← hZ_54] at h1; omega); clear hw_54 hZ_54; refine WD_ready (rs := [2]) (by kernel_rfl) (by simp) ?_; refine AllD.cons (o := _) rfl (fun K hK => ?_) AllD.nil
                      · rw [if_pos (by rfl)]; go_simp; refine (OV.out _ 20 (20 + M) B_54.out (by omega) (by omega) rfl S_54.out).mono ?_; rintro e w_55 ⟨f1, A1, c1, ok_55, rfl, r_55, s_55, d_55⟩; unfold tv; obtain ⟨U1, hU1⟩ : ∃ U, U = renT f1 V := ⟨_, rfl⟩; rw [← hU1] at r_55 ⊢; have HU1 := Lib.hid hU1; clear hU1
                        try go_wp2_with fail
                        refine hK.out _ _ (B_54.out.trans d_55) (fun hHeld => ?_); clear hK K; (try simp only [Act.put, List.setIfInBounds_toArray, List.set_cons_zero, List.set_cons_succ]); clear hHeld; have OK1 := Lib.hid ok_55; have D_55 := Lib.hid d_55; have X0_55 := Lib.hid ((D_55.out.block X (Array.getElem?_eq_some_iff.1 N_54.out).1 (by have := ZX_54.out; have := HC1.out; show ¬ X = sb; omega)).trans N_54.out); have Y0_55 := Lib.hid ((D_55.out.block Y (Array.getElem?_eq_some_iff.1 Y0_54.out).1 (by have := ZY_44.out; have := HC1.out; show ¬ Y = sb; omega)).trans Y0_54.out); have B_55 := Lib.hid (B_54.out.trans D_55.out); have ZL_55 : Hid (∀ x ∈ [X, Y, sb], x < w_55.heap.size) := Lib.hid (fun x hx => Nat.lt_of_lt_of_le (ZL_54.out x hx) D_55.out.size); have S_55 := Lib.hid s_55; have T1_55 := Lib.hid (r_55.weak (P' := fun b => b ∉ [X, Y, sb]) (fun b _ hp => notin_ge ZL_54.out hp)); clear ok_55 r_55 s_55 d_55; refine WD_ready (rs := [5]) (by kernel_rfl) (by simp) ?_; refine AllD.cons (o := _) rfl (fun K hK => ?_) AllD.nil
                        · rw [if_pos (by rfl)]; go_simp; refine (OV.out _ (20 + M) (20 + M + M) B_55.out (by omega) (by omega) rfl S_55.out).mono ?_; rintro e w_56 ⟨f2, A2, c2, ok_56, rfl, r_56, s_56, d_56⟩; unfold tv; obtain ⟨U2, hU2⟩ : ∃ U, U = renT f2 V := ⟨_, rfl⟩; rw [← hU2] at r_56 ⊢; have HU2 := Lib.hid hU2; clear hU2
                          try go_wp2_with fail
                          refine hK.out _ _ (B_55.out.trans d_56) (fun hHeld => ?_); clear hK K; (try simp only [Act.put, List.setIfInBounds_toArray, List.set_cons_zero, List.set_cons_succ]); clear hHeld; have OK2 := Lib.hid ok_56; have D_56 := Lib.hid d_56; have T1_56 := Lib.hid (T1_55.out.move (w' := w_56) (P' := fun b => b ∉ [X, Y, sb]) (fun b hb hp => ⟨D_56.out.block b hb (fun e => hp (by rw [show b = sb from e]; simp)), hp⟩) D_56.out.size); have X0_56 := Lib.hid ((D_56.out.block X (Array.getElem?_eq_some_iff.1 X0_55.out).1 (by have := ZX_54.out; have := HC1.out; show ¬ X = sb; omega)).trans X0_55.out); have Y0_56 := Lib.hid ((D_56.out.block Y (Array.getElem?_eq_some_iff.1 Y0_55.out).1 (by have := ZY_44.out; have := HC1.out; show ¬ Y = sb; omega)).trans Y0_55.out); have B_56 := Lib.hid (B_55.out.trans D_56.out); have ZL_56 : Hid (∀ x ∈ [X, Y, sb], x < w_56.heap.size) := Lib.hid (fun x hx => Nat.lt_of_lt_of_le (ZL_55.out x hx) D_56.out.size); have S_56 := Lib.hid s_56; have T2_56 := Lib.hid (r_56.weak (P' := fun b => b ∉ [X, Y, sb]) (fun b _ hp => notin_ge ZL_55.out hp)); clear ok_56 r_56 s_56 d_56; refine WD_ready (rs := [8]) (by kernel_rfl) (by simp) ?_; refine AllD.cons (o := _) rfl (fun K hK => ?_) AllD.nil
                          · obtain ⟨⟨y0, y1, y2, y3⟩, k0, k1, k2, k3⟩ := zero_cells X0_56.out; rw [if_pos (by rfl)]; go_simp; refine hK.out _ _ (B_56.out.trans' (set4_frm w_56 X (.int .i64 U1.k) (.string U1.nm) (.int .i64 U1.vr) (.slice A1 U1.args.length c1)) (fun i hi e => by have e2 : i = X := e; have := ZX_54.out; omega)) (fun hHeld => ?_); clear hK K; (try simp only [Act.put, List.setIfInBounds_toArray, List.set_cons_zero, List.set_cons_succ]); clear hHeld; obtain ⟨w_57, hw_57⟩ : ∃ z, z = ((((w_56.setCell ⟨X, 0, none⟩ (.int .i64 U1.k)).setCell ⟨X, 1, none⟩ (.string U1.nm)).setCell ⟨X, 2, none⟩ (.int .i64 U1.vr)).setCell ⟨X, 3, none⟩ (.slice A1 U1.args.length c1)) := ⟨_, rfl⟩
                            try rw [← hw_57]
                            have D_57 : Hid (Frm w_56 w_57 (· = X)) := Lib.hid (by rw [hw_57]; exact (set4_frm w_56 X (.int .i64 U1.k) (.string U1.nm) (.int .i64 U1.vr) (.slice A1 U1.args.length c1))); have XF_57 : Hid (w_57.heap[X]? = some (.cells #[.int .i64 U1.k, .string U1.nm, .int .i64 U1.vr, .slice A1 U1.args.length c1] TT24 (0, 0))) := Lib.hid (by rw [hw_57]; exact set4_heap _ _ _ _ X0_56.out); have T1_57 := Lib.hid (T1_56.out.move (w' := w_57) (P' := fun b => b ∉ [X, Y, sb]) (fun b hb hp => ⟨D_57.out.block b hb (fun e => hp (by rw [show b = X from e]; simp)), hp⟩) D_57.out.size); have T2_57 := Lib.hid (T2_56.out.move (w' := w_57) (P' := fun b => b ∉ [X, Y, sb]) (fun b hb hp => ⟨D_57.out.block b hb (fun e => hp (by rw [show b = X from e]; simp)), hp⟩) D_57.out.size); have Y0_57 := Lib.hid ((D_57.out.block Y (Array.getElem?_eq_some_iff.1 Y0_56.out).1 (fun e => XY_54.out e.symm)).trans Y0_56.out); have B_57 := Lib.hid (B_56.out.trans' D_57.out (fun i hi e => by have e2 : i = X := e; have := ZX_54.out; omega)); have ZL_57 : Hid (∀ x ∈ [X, Y, sb], x < w_57.heap.size) := Lib.hid (fun x hx => Nat.lt_of_lt_of_le (ZL_56.out x hx) D_57.out.size); clear hw_57 y0 y1 y2 y3 k0 k1 k2 k3; refine WD_ready (rs := [9]) (by kernel_rfl) (by simp) ?_; refine AllD.last (o := _) rfl (by kernel_rfl) (fun K hK => ?_) AllD.nil
                            · obtain ⟨⟨y0, y1, y2, y3⟩, k0, k1, k2, k3⟩ := zero_cells Y0_57.out; rw [if_pos (by rfl)]; go_simp; refine hK.out _ _ ?_; clear hK K; (try simp only [Act.put, List.setIfInBounds_toArray, List.set_cons_zero, List.set_cons_succ]); obtain ⟨w_58, hw_58⟩ : ∃ z, z = ((((w_57.setCell ⟨Y, 0, none⟩ (.int .i64 U2.k)).setCell ⟨Y, 1, none⟩ (.string U2.nm)).setCell ⟨Y, 2, none⟩ (.int .i64 U2.vr)).setCell ⟨Y, 3, none⟩ (.slice A2 U2.args.length c2)) := ⟨_, rfl⟩
                              try rw [← hw_58]
                              have D_58 : Hid (Frm w_57 w_58 (· = Y)) := Lib.hid (by rw [hw_58]; exact (set4_frm w_57 Y (.int .i64 U2.k) (.string U2.nm) (.int .i64 U2.vr) (.slice A2 U2.args.length c2))); have YF_58 : Hid (w_58.heap[Y]? = some (.cells #[.int .i64 U2.k, .string U2.nm, .int .i64 U2.vr, .slice A2 U2.args.length c2] TT24 (0, 0))) := Lib.hid (by rw [hw_58]; exact set4_heap _ _ _ _ Y0_57.out); have T1_58 := Lib.hid (T1_57.out.move (w' := w_58) (P' := fun b => b ∉ [X, Y, sb]) (fun b hb hp => ⟨D_58.out.block b hb (fun e => hp (by rw [show b = Y from e]; simp)), hp⟩) D_58.out.size); have T2_58 := Lib.hid (T2_57.out.move (w' := w_58) (P' := fun b => b ∉ [X, Y, sb]) (fun b hb hp => ⟨D_58.out.block b hb (fun e => hp (by rw [show b = Y from e]; simp)), hp⟩) D_58.out.size); have XF_58 := Lib.hid ((D_58.out.block X (Array.getElem?_eq_some_iff.1 XF_57.out).1 (fun e => XY_54.out e)).trans XF_57.out); have B_58 := Lib.hid (B_57.out.trans' D_58.out (fun i hi e => by have e2 : i = Y := e; have := ZY_44.out; omega)); have ZL_58 : Hid (∀ x ∈ [X, Y, sb], x < w_58.heap.size) := Lib.hid (fun x hx => Nat.lt_of_lt_of_le (ZL_57.out x hx) D_58.out.size); clear hw_58 y0 y1 y2 y3 k0 k1 k2 k3
                              refine WD_done (by kernel_rfl) ?_ _
                              exact ⟨X, Y, f1, f2, A1, c1, A2, c2, _, _, _, _, _, _, by rfl, ⟨OK1.out, OK2.out, by rw [← HU1.out]; exact XF_58.out, by rw [← HU2.out]; exact YF_58.out, by rw [← HU1.out]; exact T1_58.out.weak (fun _ _ _ => trivial), by rw [← HU2.out]; exact T2_58.out.weak (fun _ _ _ => trivial), B_58.out⟩⟩
end Go.Proofs.YtifopogkbjhkjaaDoor
