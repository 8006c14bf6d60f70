import Derived.Test.YtifopogkbjhkjaaGreatDoorTs
namespace Go.Proofs.YtifopogkbjhkjaaGreatDoor
open Go.ChangeShapes Go.WideShapes Go.ChangeAt Go.RowKit
set_option linter.unusedVariables false
mutual
def cnt : TT → Int → Int
  | .mk _ _ _ args, most => cntTL args 1 most
def cntTL : List TT → Int → Int → Int
  | [], n, _ => n
  | a :: r, n, most => if most < n then n else cntTL r (n + cnt a (most - n)) most
end
theorem cnt_eq (V : TT) (m : Int) : cnt V m = cntTL V.args 1 m := by cases V; rw [cnt]; rfl
theorem cnt_le (V : TT) : ∀ m : Int, 1 ≤ cnt V m ∧ cnt V m ≤ nodes V := by
  refine TT.rec (motive_1 := fun V => ∀ m : Int, 1 ≤ cnt V m ∧ cnt V m ≤ nodes V) (motive_2 := fun l => ∀ n m : Int, n ≤ cntTL l n m ∧ cntTL l n m ≤ n + nodesL l) ?_ ?_ ?_ V
  · intro k nm vr args ih m
    rw [cnt, nodes]
    have := ih 1 m
    omega
  · intro n m; rw [cntTL, nodesL]; omega
  · intro a l ia il n m
    rw [cntTL, nodesL]
    split
    · omega
    · have h1 := ia (m - n)
      have h2 := il (n + cnt a (m - n)) m
      omega
theorem small_nodes {d : Nat} {V : TT} (h : bigT d V = false) (hd : d ≤ 7) : nodes V ≤ 5461 := by
  have h1 := nodes_small d V h
  have h2 : 4 ^ d ≤ 4 ^ 7 := Nat.pow_le_pow_right (by omega) hd
  have h3 : (4 : Nat) ^ 7 = 16384 := by decide
  omega
def CoI (w : World) (args : List TT) (most : Int) (n i : Value) (wr : World) : Prop := ∃ (k : Nat) (q : Int), k ≤ args.length ∧ i = .int .i64 k ∧ n = .int .i64 q ∧ 1 ≤ q ∧ q ≤ 5461 ∧ Hid (q ≤ 1 + nodesL (args.take k) ∧ cntTL args 1 most = cntTL (args.drop k) q most) ∧ Hid (Below w.heap.size w wr)
set_option maxRecDepth 100000 in
set_option maxHeartbeats 4000000 in
theorem count_any : ∀ (d : Nat) (V : TT) (v : Value) (most : Int) (w : World), d ≤ 7 → bigT d V = false → 0 ≤ most → most ≤ 1000 → TIn w any0 V v → Calls Tryz.prog 67 #[v, .int .i64 most] w fun e w' => e = .returned (.int .i64 (cnt V most)) ∧ Below w.heap.size w w' := by
  intro d
  induction d with
  | zero => intro V v most w _ h; cases h
  | succ d ih =>
    intro V v most w hd hbg hm0 hm1 ⟨A, c, hv, hA⟩
    have hnd := small_nodes hbg hd
    obtain ⟨hl4, -, b3⟩ := bigT_parts hbg
    subst hv
    rw [nodes_eq] at hnd
    rw [cnt_eq]
    have HI : Hid (∀ (V : TT) (v : Value) (most : Int) (w : World), bigT d V = false → 0 ≤ most → most ≤ 1000 → TIn w any0 V v → Calls Tryz.prog 67 #[v, .int .i64 most] w fun e w' => e = .returned (.int .i64 (cnt V most)) ∧ Below w.heap.size w w') := Lib.hid (fun V v most w => ih V v most w (by omega))
    have HB := Lib.hid b3
    have HA := Lib.hid hA
    unfold tv
    obtain ⟨args, ha⟩ : ∃ l, l = V.args := ⟨_, rfl⟩
    rw [← ha] at HA HB hnd hl4 ⊢
    have HND := Lib.hid hnd
    clear ih hA b3 hbg ha hnd
    have ST : Hid (Below w.heap.size w (w.alloc (.cells #[.int .i64 V.k, .string V.nm, .int .i64 V.vr, .slice A args.length c] 24))) := Lib.hid (below_alloc _ _)
    go_enter Tryz.func67, Tryz.ntmps67
    go_wp2
    go_loopw [5, 11] (fun n i wr => CoI w args most n i wr) (fun _ i _ => args.length - (intOf i).toNat)
    case atStart => exact ⟨0, 1, by omega, rfl, rfl, by omega, by omega, Lib.hid ⟨by simp [nodesL], rfl⟩, ST⟩
    case round =>
      obtain ⟨k, q, hk, rfl, rfl, hq1, hq2, HQ, HW⟩ := hrel
      by_cases hlt : k < args.length
      · have hlti : (k : Int) < (args.length : Int) := by omega
        obtain ⟨b, o, rfl, hb, hr⟩ := HA.out.at (by omega)
        obtain ⟨A', c', x0, x1, x2, x3, hin⟩ := hr wr HW.out k hlt
        have HDROP : Hid (args.drop k = args[k] :: args.drop (k + 1)) := Lib.hid (List.drop_eq_getElem_cons hlt)
        by_cases hbr : most < q
        · have dq := decide_eq_true hbr
          have RES : Hid (cntTL args 1 most = q) := Lib.hid (by rw [HQ.out.2, HDROP.out, cntTL, if_pos hbr])
          have HW2 := Lib.hid (bt HW.out (below_alloc wr (.cells #[.int .i64 args[k].k, .string args[k].nm, .int .i64 args[k].vr, .slice A' args[k].args.length c'] 24)))
          clear hr hin hb HI
          go_wp2
          go_ret
          exact ⟨by rw [RES.out]; rfl, HW2.out⟩
        · have dq := decide_eq_false hbr
          have hcl := cnt_le args[k] (most - q)
          have hnt : (nodesL (args.take (k + 1)) : Nat) ≤ nodesL args := nodesL_take_le args (k + 1)
          have hnt2 := nodesL_take args k hlt
          have hq9 := HQ.out.1
          have hnd9 := HND.out
          have CALL : Hid (∀ W, Below wr.heap.size wr W → Calls Tryz.prog 67 #[.agg #[.int .i64 args[k].k, .string args[k].nm, .int .i64 args[k].vr, .slice A' args[k].args.length c'], .int .i64 (most - q)] W fun e w' => e = .returned (.int .i64 (cnt args[k] (most - q))) ∧ Below W.heap.size W w') := Lib.hid (fun W hW => HI.out args[k] _ (most - q) W (HB.out _ (List.getElem_mem hlt)) (by omega) (by omega) (hin.later hW))
          obtain ⟨C, hC⟩ : ∃ z, z = cnt args[k] (most - q) := ⟨_, rfl⟩
          rw [← hC] at CALL hcl
          have NX : Hid (q + C ≤ 1 + nodesL (args.take (k + 1)) ∧ cntTL args 1 most = cntTL (args.drop (k + 1)) (q + C) most) := Lib.hid ⟨by omega, by rw [HQ.out.2, HDROP.out, cntTL, if_neg hbr, ← hC]⟩
          have hs1 : 1 ≤ q + C := by omega
          have hs2 : q + C ≤ 5461 := by omega
          have hm9 : 0 ≤ most - q := by omega
          clear hr hin hb HI hnt hnt2 hq9 hnd9 HQ hC
          go_wp2_with fail
          refine (CALL.out _ (below_alloc wr _)).mono ?_; rintro e w1 ⟨rfl, hb1⟩
          have HW1 := Lib.hid (bt HW.out (bt (below_alloc wr (.cells #[.int .i64 args[k].k, .string args[k].nm, .int .i64 args[k].vr, .slice A' args[k].args.length c'] 24)) hb1))
          clear hb1 CALL x0 x1 x2 x3
          go_wp2
          go_roundw
          case rel => exact ⟨k + 1, q + C, by omega, by go_num, rfl, hs1, hs2, NX, HW1⟩
          case measure => simp [intOf]; omega
      · have RES : Hid (cntTL args 1 most = q) := Lib.hid (by rw [HQ.out.2, List.drop_of_length_le (by omega), cntTL])
        have hge : ¬ (k : Int) < (args.length : Int) := by omega
        go_wp2
        go_ret
        exact ⟨by rw [RES.out]; rfl, HW.out⟩
/-- Size. -/
def sizeT (V : TT) : Int := min (cnt V 500) 501
set_option maxRecDepth 100000 in
set_option maxHeartbeats 1000000 in
theorem size_any {d : Nat} {V : TT} {v : Value} {w : World} (hd : d ≤ 7) (hbg : bigT d V = false) (h : TIn w any0 V v) : Calls Tryz.prog 44 #[v] w fun e w' => e = .returned (.int .i64 (sizeT V)) ∧ Below w.heap.size w w' := by
  have CN := Lib.hid (fun W (hW : Below w.heap.size w W) => count_any d V v 500 W hd hbg (by omega) (by omega) (h.later hW))
  have hle := cnt_le V 500
  have hnd := small_nodes hbg hd
  obtain ⟨A, c, rfl, -⟩ := h
  unfold sizeT
  obtain ⟨C, hC⟩ : ∃ z, z = cnt V 500 := ⟨_, rfl⟩
  rw [← hC] at CN hle ⊢
  unfold tv at CN ⊢
  clear hC hbg
  by_cases h5 : C ≤ 501
  all_goals (
    first | rw [Int.min_eq_left h5] | rw [Int.min_eq_right (by omega)]
    go_enter Tryz.func44, Tryz.ntmps44
    go_wp2_with fail
    refine (CN.out _ (below_alloc w _)).mono ?_; rintro e w1 ⟨rfl, hb1⟩
    have HB := Lib.hid (bt (below_alloc w (.cells #[.int .i64 V.k, .string V.nm, .int .i64 V.vr, .slice A V.args.length c] 24)) hb1)
    clear hb1 CN
    go_wp2
    go_ret
    exact ⟨rfl, HB.out⟩)
end Go.Proofs.YtifopogkbjhkjaaGreatDoor
namespace Go.Proofs.YtifopogkbjhkjaaGreatDoor
open Go.ChangeShapes Go.WideShapes Go.ChangeAt Go.RowKit
set_option linter.unusedVariables false
/-- how many arguments a kind has. -/
def arT (k : Int) : Int := if k = 5 then 2 else if k = 6 then 1 else 0
set_option maxRecDepth 100000 in
set_option maxHeartbeats 1000000 in
theorem arity_any (k : Int) (w : World) : Calls Tryz.prog 68 #[.int .i64 k] w fun e w' => e = .returned (.int .i64 (arT k)) ∧ w = w' := by
  unfold arT
  by_cases h5 : k = 5
  · rw [if_pos h5]
    have q5 : (k == 5) = true := by rw [h5]; rfl
    clear h5
    go_enter Tryz.func68, Tryz.ntmps68
    go_wp2
    go_ret
    exact ⟨rfl, rfl⟩
  rw [if_neg h5]
  have q5 : (k == 5) = false := beq_eq_false_iff_ne.2 h5
  by_cases h6 : k = 6
  · rw [if_pos h6]
    have q6 : (k == 6) = true := by rw [h6]; rfl
    clear h5 h6
    go_enter Tryz.func68, Tryz.ntmps68
    go_wp2
    go_ret
    exact ⟨rfl, rfl⟩
  · rw [if_neg h6]
    have q6 : (k == 6) = false := beq_eq_false_iff_ne.2 h6
    clear h5 h6
    go_enter Tryz.func68, Tryz.ntmps68
    go_wp2
    go_ret
    exact ⟨rfl, rfl⟩
def emptyB (s : ByteArray) : Bool := s.toList.isEmpty
/-- a node is as it may be. -/
def headOk (V : TT) : Bool := decide (1 ≤ V.k) && decide (V.k ≤ 7) && decide ((V.args.length : Int) = arT V.k) && ((!emptyB V.nm) == (V.k == 4)) && decide (0 ≤ V.vr) && decide (V.vr ≤ 1999) && (V.vr == 0 || V.k == 7)
mutual
def shp : TT → Bool
  | .mk k nm vr args => headOk (.mk k nm vr args) && shpL args
def shpL : List TT → Bool
  | [] => true
  | a :: l => shp a && shpL l
end
theorem shp_eq (V : TT) : shp V = (headOk V && shpL V.args) := by cases V; rw [shp]; rfl
theorem shpL_all : ∀ l : List TT, shpL l = true ↔ ∀ a ∈ l, shp a = true
  | [] => by simp [shpL]
  | a :: l => by rw [shpL, Bool.and_eq_true, shpL_all l]; simp
theorem box4 (w : World) (V : TT) (A : Option Addr) (c n : Nat) (t : TypeId) : (w.alloc (.cells #[.int .i64 V.k, .string V.nm, .int .i64 V.vr, .slice A n c] t)).heap[w.heap.size]? = some (.cells #[.int .i64 V.k, .string V.nm, .int .i64 V.vr, .slice A n c] t (0, 0)) := heap_alloc_new w _
theorem cell4 {w : World} {b n c : Nat} {V : TT} {A : Option Addr} {t : TypeId} {fr : Nat × Nat} (h : w.heap[b]? = some (.cells #[.int .i64 V.k, .string V.nm, .int .i64 V.vr, .slice A n c] t fr)) : w.cell? ⟨b, 0, none⟩ = some (.int .i64 V.k) ∧ w.cell? ⟨b, 1, none⟩ = some (.string V.nm) ∧ w.cell? ⟨b, 2, none⟩ = some (.int .i64 V.vr) ∧ w.cell? ⟨b, 3, none⟩ = some (.slice A n c) := by simp [World.cell?, h]
end Go.Proofs.YtifopogkbjhkjaaGreatDoor
