import Derived.Test.YtclilpabdcdeoaaDoorTy
import Derived.Test.YtclilpabdcdeoaaDoorCg
namespace Go.Proofs.YtclilpabdcdeoaaDoor
open Go.ChangeShapes Go.WideShapes Go.ChangeAt Go.RowKit
set_option linter.unusedVariables false
theorem kp_below {R : Nat} {w w' : World} (hb : Below w.heap.size w w') : Kp R w w' := fun k c t _ _ h => (hb.block k (Array.getElem?_eq_some_iff.1 h).1).trans h
theorem RS.later {w0 w w' : World} {R : Nat} {cs ks : Value} {s : ByteArray} (h : RS w0 w R cs ks s) (hb : Below w.heap.size w w') : RS w0 w' R cs ks s := by
  obtain ⟨A, n, cap, h1, h2⟩ := h.at_
  exact ⟨h.below.trans (hb.mono h.below.size), h.hR, A, n, cap, (hb.block R h.lt).trans h1, own_keep h2 (fun g _ hg => hb.block g hg)⟩
theorem named_tt (s : ByteArray) (w : World) : Calls Tryd.prog 45 #[.string s] w fun e w' => e = .returned (.agg #[.int .i64 (namedT s).k, .string (namedT s).nm, .int .i64 0, .slice none 0 0]) ∧ Below w.heap.size w w' := (tyOf_eq s).1 ▸ named_any s w
theorem piecesT_len (g : VT → TT → ByteArray) (ts : List ByteArray) : ∀ (l : List VT) (i : Nat), l.length ≤ (piecesT g ts i l).size
  | [], i => Nat.zero_le _
  | a :: l, i => by
    show (a :: l).length ≤ (headT i ++ pieceT g ts i a ++ piecesT g ts (i + 1) l).size
    have := piecesT_len g ts l (i + 1)
    have h2 : (headT i).size = 2 := by unfold headT; split <;> rfl
    simp only [ByteArray.size_append, List.length_cons]; omega
/-- the recursive call, at an argument. -/
def RecA (w0 : World) (R : Nat) (cs ks : Value) (g : VT → TT → ByteArray) (a : VT) (wi : Int) : Prop := ∀ (W : World) (s : ByteArray) (b o : Nat) (t : TT), t.args = [] → t.vr = 0 → RS w0 W R cs ks s → (s ++ g a t).size ≤ 900000 → okV w0 a b o →
  Calls Tryd.prog 31 #[.pointer (some ⟨R, 0, none⟩), .pointer (some ⟨b, o, none⟩), .agg #[.int .i64 t.k, .string t.nm, .int .i64 0, .slice none 0 0], .int .i64 wi] W fun e w' => e = .returned (.tuple #[]) ∧ Hid (RS w0 w' R cs ks (s ++ g a t)) ∧ Hid (Kp R W w')
def ConI (w0 w : World) (R : Nat) (cs ks : Value) (g : VT → TT → ByteArray) (ts : List ByteArray) (args : List VT) (p : ByteArray) (i : Value) (wr : World) : Prop := ∃ k : Nat, k ≤ args.length ∧ i = .int .i64 k ∧ RS w0 wr R cs ks (p ++ piecesT g ts 0 (args.take k)) ∧ Kp R w wr
set_option maxRecDepth 100000 in
set_option maxHeartbeats 8000000 in
theorem construct_any {w0 w : World} {R vb vo ck c : Nat} {cs : Value} {s : ByteArray} {wi : Int} {Ak A : Option Addr} {cons : List CN} {g : VT → TT → ByteArray} {V : VT}
    (h : RS w0 w R cs (.slice Ak cons.length ck) s) (hc : CRow w0 Ak cons) (hl : cons.length ≤ 1000000) (hw0 : 0 ≤ wi) (hw : wi < 50)
    (hv2 : Has w0 w R vb (vo + 2) (.string V.nm)) (hv3 : Has w0 w R vb (vo + 3) (.slice A V.args.length c)) (hA : VRow w0 A V.args) (hV : ∀ a, a ∈ V.args → RecA w0 R cs (.slice Ak cons.length ck) g a (wi + 1)) (hs : (s ++ constrT g cons V).size ≤ 900000) :
    Calls Tryd.prog 38 #[.pointer (some ⟨R, 0, none⟩), .pointer (some ⟨vb, vo, none⟩), .int .i64 wi] w fun e w' => e = .returned (.tuple #[]) ∧ Hid (RS w0 w' R cs (.slice Ak cons.length ck) (s ++ constrT g cons V)) ∧ Hid (Kp R w w') := by
  obtain ⟨args, hargs⟩ : ∃ l, l = V.args := ⟨_, rfl⟩
  obtain ⟨nm, hnm⟩ : ∃ l, l = V.nm := ⟨_, rfl⟩
  have hct : constrT g cons V = if args.length = 0 then nm else nm ++ piecesT g (typesOf cons nm) 0 args ++ closeT := by rw [hargs, hnm]; rfl
  rw [← hargs] at hv3 hA hV; rw [← hnm] at hv2
  rw [hct] at hs ⊢
  have v2 := hv2.cell h.below
  have v3 := hv3.cell h.below
  have HV3 := Lib.hid hv3
  have HV2 := Lib.hid hv2
  have HVV := Lib.hid hV
  have HBw := Lib.hid h.below
  clear hV hv2 hv3 hct hargs hnm
  by_cases h0 : args.length = 0
  · rw [if_pos h0] at hs ⊢
    have TX : Hid (∀ q, Calls Tryd.prog 35 #[.pointer (some ⟨R, 0, none⟩), .string nm] (w.drewN q) fun e w' => e = .returned (.tuple #[]) ∧ Hid (RS w0 w' R cs (.slice Ak cons.length ck) (s ++ nm)) ∧ Hid (Kp R w w')) := Lib.hid (fun q =>
      (text_any nm (h.drewN q) (by rw [ByteArray.size_append] at hs; omega)))
    have d : ((args.length : Int) == 0) = true := by rw [h0]; rfl
    clear h hs
    go_enter Tryd.func38, Tryd.ntmps38
    go_wp2_with fail
    refine (TX.out 0).mono ?_; rintro e w1 ⟨rfl, H1, K1⟩
    have v3 := (HV3.out.kp K1.out).cell H1.out.below
    have HH0 := Lib.hid h0
    clear TX h0
    go_wp2
    first | go_end0 | (simp only [Exit.inBlock, Exit.then]; refine bodyPost_ret (results_none rfl _ _ _) rfl ?_) | refine bodyPost_ret (results_none rfl _ _ _) rfl ?_
    exact ⟨rfl, H1, K1⟩
  rw [if_neg h0] at hs ⊢
  obtain ⟨ts, hts⟩ : ∃ l, l = typesOf cons nm := ⟨_, rfl⟩
  rw [← hts] at hs ⊢
  obtain ⟨p, hp⟩ : ∃ p, p = s ++ nm := ⟨_, rfl⟩
  have hsz : (p ++ piecesT g ts 0 args ++ closeT).size ≤ 900000 := by rw [hp]; simpa only [ByteArray.append_assoc] using hs
  have hfin : s ++ (nm ++ piecesT g ts 0 args ++ closeT) = p ++ piecesT g ts 0 args ++ closeT := by rw [hp]; simp only [ByteArray.append_assoc]
  rw [hfin]
  have hbound : ∀ k, (p ++ piecesT g ts 0 (args.take k)).size ≤ 899999 := fun k => by
    have := piecesT_le g ts args k
    have hc1 : closeT.size = 1 := rfl
    simp only [ByteArray.size_append] at hsz ⊢; omega
  have hla : args.length ≤ 900000 := by
    have := piecesT_len g ts args 0
    simp only [ByteArray.size_append] at hsz; omega
  have hp2 : (s ++ nm).size ≤ 899999 := by have := hbound 0; rw [hp] at this; simpa [piecesT] using this
  have HSZ := Lib.hid hsz
  have HBD := Lib.hid hbound
  have HTS := Lib.hid hts
  have HHP := Lib.hid hp
  have TX : Hid (∀ q, Calls Tryd.prog 35 #[.pointer (some ⟨R, 0, none⟩), .string nm] (w.drewN q) fun e w' => e = .returned (.tuple #[]) ∧ Hid (RS w0 w' R cs (.slice Ak cons.length ck) p) ∧ Hid (Kp R w w')) := Lib.hid (fun q => by
    have h1 := text_any nm (h.drewN q) (by rw [ByteArray.size_append] at hp2; omega)
    rw [hp]; exact h1)
  have d : ((args.length : Int) == 0) = false := beq_eq_false_iff_ne.2 (by omega)
  have HC := Lib.hid hc
  obtain ⟨b, o, rfl, hb, hrow⟩ : ∃ b o, A = some ⟨b, o, none⟩ ∧ b < w0.heap.size ∧ okL w0 args b o := by
    rcases hA with h1 | h1
    · exact absurd h1 h0
    · exact h1
  have HROW := Lib.hid hrow
  have HH0 := Lib.hid h0
  clear h hs hsz hfin hbound hp2 hts hp hc hA hrow hb h0
  go_enter Tryd.func38, Tryd.ntmps38
  go_wp2_with fail
  refine (TX.out 0).mono ?_; rintro e w1 ⟨rfl, H1, K1⟩
  have v3 := (HV3.out.kp K1.out).cell H1.out.below
  have v2 := (HV2.out.kp K1.out).cell H1.out.below
  have TY : Hid (∀ q, Calls Tryd.prog 44 #[.pointer (some ⟨R, 0, none⟩), .string nm] (w1.drewN q) fun e w' => TxAns w0 ts e ∧ w1.drewN q = w') := Lib.hid (fun q => by rw [HTS.out]; exact types_any (H1.out.drewN q) HC.out hl)
  clear TX HC HTS HBw
  go_wp2_with fail
  refine (TY.out 0).mono ?_; rintro e w2 ⟨⟨At, ct, rfl, ht⟩, rfl⟩
  have HT := Lib.hid ht
  have HPQ : Hid (p ++ piecesT g ts 0 (args.take 0) = p) := Lib.hid (by simp [piecesT])
  clear TY ht
  go_wp2_with fail
  go_loopw [7, 31] (fun _ i wr => ConI w0 w R cs (.slice Ak cons.length ck) g ts args p i wr) (fun _ i _ => args.length - (intOf i).toNat)
  case atStart => exact ⟨0, by omega, rfl, by rw [HPQ.out]; exact H1.out, K1.out⟩
  case round =>
    obtain ⟨k, hk, rfl, hr, hkp⟩ := hrel
    have HR := Lib.hid hr
    have KP := Lib.hid hkp
    clear hr hkp H1 K1 v2 v3 HPQ
    by_cases hlt : k < args.length
    · have HPT := Lib.hid (piecesT_take g ts args k hlt)
      have HB1 := Lib.hid (HBD.out (k + 1))
      have HVK := Lib.hid (okL_at HROW.out k hlt)
      have HMEM := Lib.hid (HVV.out args[k] (List.getElem_mem hlt))
      have hkl : (k : Int) < (args.length : Int) := by omega
      have hsum : (p ++ (piecesT g ts 0 (args.take k) ++ headT k ++ pieceT g ts k args[k])).size ≤ 899999 := by have := HB1.out; rw [HPT.out] at this; exact this
      obtain ⟨q0, hq0⟩ : ∃ q0, q0 = p ++ piecesT g ts 0 (args.take k) := ⟨_, rfl⟩
      have hall : p ++ (piecesT g ts 0 (args.take k) ++ headT k ++ pieceT g ts k args[k]) = q0 ++ headT k ++ pieceT g ts k args[k] := by rw [hq0]; simp only [ByteArray.append_assoc]
      rw [hall] at hsum
      have HALL : Hid (p ++ piecesT g ts 0 (args.take (k + 1)) = q0 ++ headT k ++ pieceT g ts k args[k]) := Lib.hid (by rw [HPT.out]; exact hall)
      have HR1 : Hid (RS w0 wr R cs (.slice Ak cons.length ck) q0) := Lib.hid (by rw [hq0]; exact HR.out)
      have HSUM := Lib.hid hsum
      clear HR HPT HB1 hall hq0 hsum
      by_cases ht : k < ts.length
      · have dt := decide_eq_true ht
        have dti : decide ((k : Int) < (ts.length : Int)) = true := decide_eq_true (by omega)
        have hti : (k : Int) < (ts.length : Int) := by omega
        obtain ⟨tb, to_, rfl, htb, htr⟩ : ∃ b o, At = some ⟨b, o, none⟩ ∧ b < w0.heap.size ∧ ∀ i (h : i < ts.length), w0.cell? ⟨b, o + i, none⟩ = some (.string ts[i]) := by
          rcases HT.out with h1 | h1
          · omega
          · exact h1
        have HTC := Lib.hid (htr k ht)
        have HTB := Lib.hid htb
        have HPC : Hid (pieceT g ts k args[k] = g args[k] (namedT ts[k])) := Lib.hid (by unfold pieceT; rw [dif_pos ht])
        have HNT := Lib.hid (show (namedT ts[k]).args = [] ∧ (namedT ts[k]).vr = 0 from ⟨(tyOf_eq ts[k]).2.1, (tyOf_eq ts[k]).2.2⟩)
        clear htr htb
        have TH : Hid (∀ q, Calls Tryd.prog 35 #[.pointer (some ⟨R, 0, none⟩), .string (headT k)] (wr.drewN q) fun e w' => e = .returned (.tuple #[]) ∧ Hid (RS w0 w' R cs (.slice Ak cons.length ck) (q0 ++ headT k)) ∧ Hid (Kp R wr w')) := Lib.hid (fun q => text_any (headT k) (HR1.out.drewN q) (by have := HSUM.out; simp only [ByteArray.size_append] at this ⊢; omega))
        by_cases hk0 : k = 0
        all_goals
          first
            | (have hd0 : headT k = ⟨#[32, 40]⟩ := by rw [hk0]; rfl
               rw [hd0] at TH
               have dk : ((k : Int) == 0) = true := by rw [hk0]; rfl
               have HD0 := Lib.hid hd0
               clear hk0 hd0)
            | (have hd0 : headT k = ⟨#[44, 32]⟩ := by unfold headT; rw [if_neg hk0]; rfl
               rw [hd0] at TH
               have dk : ((k : Int) == 0) = false := beq_eq_false_iff_ne.2 (by omega)
               have HD0 := Lib.hid hd0
               clear hk0 hd0)
          go_wp2_with fail
          refine (TH.out 0).mono ?_; rintro e w3 ⟨rfl, H3, K3⟩
          have HK3 := Lib.hid (KP.out.trans K3.out)
          have v3 := (HV3.out.kp HK3.out).cell H3.out.below
          have t3 := (H3.out.below.cell (p := ⟨tb, to_ + k, none⟩) HTB.out).trans HTC.out
          have H3' : Hid (RS w0 w3 R cs (.slice Ak cons.length ck) (q0 ++ headT k)) := Lib.hid (by rw [HD0.out]; exact H3.out)
          have hwr : IntKind.i64.wrap (wi + 1) = wi + 1 := IntWalk.i64_in _ (by omega)
          clear TH K3 KP HR1 HD0 H3
          go_wp2
          refine wp_region_held_drew (S := fun w' => w'.cell? ⟨vb, vo + 3, none⟩ = some (.slice (some ⟨b, o, none⟩) args.length c) ∧ w'.cell? ⟨tb, to_ + k, none⟩ = some (.string ts[k])) (by kernel_rfl) ?_ (fun hHeld => ?_)
          · (try dsimp only); go_keep
          refine wpAnyH_take (i := 0) (oi := { dst := some 44, op := Go.Op.move (Go.Operand.tmp 0), type := 86, pos := _, after := #[], guard := none }) (v := ?v0) rfl (by kernel_rfl) (by kernel_rfl) (by kernel_rfl) (fun _ _ _ h => h) (Or.inl ⟨by rfl, ?hy0⟩) (by assumption) ?_
          case hy0 => (intro wz hSw; (try dsimp only at hSw); go_simp; try with_reducible rfl)
          (try simp only [Act.put, List.setIfInBounds_toArray, List.set_cons_zero, List.set_cons_succ])
          refine wpAnyH_take (i := 1) (oi := { dst := some 45, op := Go.Op.move (Go.Operand.tmp 1), type := 81, pos := _, after := #[], guard := none }) (v := ?v1) rfl (by kernel_rfl) (by kernel_rfl) (by kernel_rfl) (fun _ _ _ h => h) (Or.inl ⟨by rfl, ?hy1⟩) (by assumption) ?_
          case hy1 => (intro wz hSw; (try dsimp only at hSw); go_simp; try with_reducible rfl)
          (try simp only [Act.put, List.setIfInBounds_toArray, List.set_cons_zero, List.set_cons_succ])
          refine wpAnyH_take (i := 2) (oi := { dst := some 46, op := Go.Op.nilCheck (Go.Operand.tmp 45), type := 0, pos := _, after := #[{ on := 1, ground := Go.Ground.data }], guard := none }) (v := ?v2) rfl (by kernel_rfl) (by kernel_rfl) (by kernel_rfl) (fun _ _ _ h => h) (Or.inl ⟨by rfl, ?hy2⟩) (by assumption) ?_
          case hy2 => (intro wz hSw; (try dsimp only at hSw); go_simp; try with_reducible rfl)
          (try simp only [Act.put, List.setIfInBounds_toArray, List.set_cons_zero, List.set_cons_succ])
          refine wpAnyH_take (i := 3) (oi := { dst := some 47, op := Go.Op.fieldAddr 26 (Go.Operand.tmp 46) 3, type := 0, pos := _, after := #[{ on := 2, ground := Go.Ground.data }], guard := none }) (v := ?v3) rfl (by kernel_rfl) (by kernel_rfl) (by kernel_rfl) (fun _ _ _ h => h) (Or.inl ⟨by rfl, ?hy3⟩) (by assumption) ?_
          case hy3 => (intro wz hSw; (try dsimp only at hSw); go_simp; try with_reducible rfl)
          (try simp only [Act.put, List.setIfInBounds_toArray, List.set_cons_zero, List.set_cons_succ])
          refine wpAnyH_take (i := 4) (oi := { dst := some 48, op := Go.Op.load 23 (Go.Operand.tmp 47), type := 23, pos := _, after := #[{ on := 3, ground := Go.Ground.data }], guard := none }) (v := ?v4) rfl (by kernel_rfl) (by kernel_rfl) (by kernel_rfl) (fun _ _ _ h => h) (Or.inl ⟨by rfl, ?hy4⟩) (by assumption) ?_
          case hy4 => (intro wz hSw; (try dsimp only at hSw); go_simp; try with_reducible rfl)
          (try simp only [Act.put, List.setIfInBounds_toArray, List.set_cons_zero, List.set_cons_succ])
          refine wpAnyH_take (i := 5) (oi := { dst := some 49, op := Go.Op.move (Go.Operand.tmp 7), type := 3, pos := _, after := #[], guard := none }) (v := ?v5) rfl (by kernel_rfl) (by kernel_rfl) (by kernel_rfl) (fun _ _ _ h => h) (Or.inl ⟨by rfl, ?hy5⟩) (by assumption) ?_
          case hy5 => (intro wz hSw; (try dsimp only at hSw); go_simp; try with_reducible rfl)
          (try simp only [Act.put, List.setIfInBounds_toArray, List.set_cons_zero, List.set_cons_succ])
          refine wpAnyH_take (i := 6) (oi := { dst := some 50, op := Go.Op.indexAddr 23 (Go.Operand.tmp 48) (Go.Operand.tmp 49), type := 0, pos := _, after := #[{ on := 4, ground := Go.Ground.data }, { on := 5, ground := Go.Ground.data }], guard := none }) (v := ?v6) rfl (by kernel_rfl) (by kernel_rfl) (by kernel_rfl) (fun _ _ _ h => h) (Or.inl ⟨by rfl, ?hy6⟩) (by assumption) ?_
          case hy6 => (intro wz hSw; (try dsimp only at hSw); go_simp; try with_reducible rfl)
          (try simp only [Act.put, List.setIfInBounds_toArray, List.set_cons_zero, List.set_cons_succ])
          refine wpAnyH_take (i := 7) (oi := { dst := some 51, op := Go.Op.move (Go.Operand.tmp 6), type := 35, pos := _, after := #[], guard := none }) (v := ?v7) rfl (by kernel_rfl) (by kernel_rfl) (by kernel_rfl) (fun _ _ _ h => h) (Or.inl ⟨by rfl, ?hy7⟩) (by assumption) ?_
          case hy7 => (intro wz hSw; (try dsimp only at hSw); go_simp; try with_reducible rfl)
          (try simp only [Act.put, List.setIfInBounds_toArray, List.set_cons_zero, List.set_cons_succ])
          refine wpAnyH_take (i := 8) (oi := { dst := some 52, op := Go.Op.move (Go.Operand.tmp 7), type := 3, pos := _, after := #[], guard := none }) (v := ?v8) rfl (by kernel_rfl) (by kernel_rfl) (by kernel_rfl) (fun _ _ _ h => h) (Or.inl ⟨by rfl, ?hy8⟩) (by assumption) ?_
          case hy8 => (intro wz hSw; (try dsimp only at hSw); go_simp; try with_reducible rfl)
          (try simp only [Act.put, List.setIfInBounds_toArray, List.set_cons_zero, List.set_cons_succ])
          refine wpAnyH_take (i := 9) (oi := { dst := some 53, op := Go.Op.indexAddr 35 (Go.Operand.tmp 51) (Go.Operand.tmp 52), type := 0, pos := _, after := #[{ on := 7, ground := Go.Ground.data }, { on := 8, ground := Go.Ground.data }], guard := none }) (v := ?v9) rfl (by kernel_rfl) (by kernel_rfl) (by kernel_rfl) (fun _ _ _ h => h) (Or.inl ⟨by rfl, ?hy9⟩) (by assumption) ?_
          case hy9 => (intro wz hSw; (try dsimp only at hSw); go_simp; try with_reducible rfl)
          (try simp only [Act.put, List.setIfInBounds_toArray, List.set_cons_zero, List.set_cons_succ])
          refine wpAnyH_take (i := 10) (oi := { dst := some 54, op := Go.Op.load 9 (Go.Operand.tmp 53), type := 9, pos := _, after := #[{ on := 9, ground := Go.Ground.data }], guard := none }) (v := ?v10) rfl (by kernel_rfl) (by kernel_rfl) (by kernel_rfl) (fun _ _ _ h => h) (Or.inl ⟨by rfl, ?hy10⟩) (by assumption) ?_
          case hy10 => (intro wz hSw; (try dsimp only at hSw); go_simp; try with_reducible rfl)
          (try simp only [Act.put, List.setIfInBounds_toArray, List.set_cons_zero, List.set_cons_succ])
          refine wpAnyH_take (i := 12) (oi := { dst := some 56, op := Go.Op.move (Go.Operand.tmp 2), type := 3, pos := _, after := #[], guard := none }) (v := ?v12) rfl (by kernel_rfl) (by kernel_rfl) (by kernel_rfl) (fun _ _ _ h => h) (Or.inl ⟨by rfl, ?hy12⟩) (by assumption) ?_
          case hy12 => (intro wz hSw; (try dsimp only at hSw); go_simp; try with_reducible rfl)
          (try simp only [Act.put, List.setIfInBounds_toArray, List.set_cons_zero, List.set_cons_succ])
          refine wpAnyH_take (i := 13) (oi := { dst := some 57, op := Go.Op.binOp Go.BinOp.add 3 (Go.Operand.tmp 56) (Go.Operand.const (Go.Value.int Go.IntKind.i64 1)) 3, type := 3, pos := _, after := #[{ on := 12, ground := Go.Ground.data }], guard := none }) (v := ?v13) rfl (by kernel_rfl) (by kernel_rfl) (by kernel_rfl) (fun _ _ _ h => h) (Or.inl ⟨by rfl, ?hy13⟩) (by assumption) ?_
          case hy13 => (intro wz hSw; (try dsimp only at hSw); go_simp; try with_reducible rfl)
          (try simp only [Act.put, List.setIfInBounds_toArray, List.set_cons_zero, List.set_cons_succ])
          refine wpAnyH_ready (rs := [11]) (by kernel_rfl) (by simp) ?_
          refine AllReadyH.cons (o := { dst := some 55, op := Go.Op.call { callee := Go.Callee.value (Go.Operand.func 45), args := #[Go.Operand.tmp 54], argTypes := #[9] }, type := 34, pos := _, after := #[{ on := 10, ground := Go.Ground.data }], guard := none }) rfl (fun K hK => ?_) AllReadyH.nil
          go_simp
          refine Calls.mono (named_tt ts[k] _) ?_; rintro e w4 ⟨rfl, hb4⟩
          have H4 : Hid (RS w0 w4 R cs (.slice Ak cons.length ck) (q0 ++ headT k)) := Lib.hid ((H3'.out.drewN 1).later hb4)
          have K4 : Hid (Kp R w3 w4) := Lib.hid ((kp_drewN R w3 1).trans (kp_below hb4))
          have v4 := (HV3.out.kp (HK3.out.trans K4.out)).cell H4.out.below
          have t4 := (H4.out.below.cell (p := ⟨tb, to_ + k, none⟩) HTB.out).trans HTC.out
          clear hb4
          go_wp2_with fail
          refine hK.out _ _ ?_ (fun hHeld => ?_)
          · (try dsimp only); go_keep
          clear hK K
          (try simp only [Act.put, List.setIfInBounds_toArray, List.set_cons_zero, List.set_cons_succ])
          refine wpAnyH_ready (rs := [14]) (by kernel_rfl) (by simp) ?_
          refine AllReadyH.cons (o := { dst := some 58, op := Go.Op.call { callee := Go.Callee.value (Go.Operand.func 31), args := #[Go.Operand.tmp 44, Go.Operand.tmp 50, Go.Operand.tmp 55, Go.Operand.tmp 57], argTypes := #[86, 81, 34, 3] }, type := 0, pos := _, after := #[{ on := 0, ground := Go.Ground.data }, { on := 6, ground := Go.Ground.data }, { on := 11, ground := Go.Ground.data }, { on := 13, ground := Go.Ground.data }, { on := 11, ground := Go.Ground.chain }], guard := none }) rfl (fun K hK => ?_) AllReadyH.nil
          go_simp
          refine Calls.mono (HMEM.out w4 (q0 ++ headT k) b (o + k * 7) (namedT ts[k]) HNT.out.1 HNT.out.2 H4.out (by have := HSUM.out; rw [HPC.out] at this; omega) HVK.out) ?_; rintro e w5 ⟨rfl, H5', K5'⟩
          have H5 : Hid (RS w0 w5 R cs (.slice Ak cons.length ck) (q0 ++ headT k ++ pieceT g ts k args[k])) := Lib.hid (by rw [HPC.out]; exact H5'.out)
          have K5 : Hid (Kp R w3 w5) := Lib.hid (K4.out.trans K5'.out)
          have v5 := (HV3.out.kp (HK3.out.trans K5.out)).cell H5.out.below
          have t5 := (H5.out.below.cell (p := ⟨tb, to_ + k, none⟩) HTB.out).trans HTC.out
          clear H5' K5'
          go_wp2_with fail
          refine hK.out _ _ ?_ (fun hHeld => ?_)
          · (try dsimp only); go_keep
          clear hK K
          (try simp only [Act.put, List.setIfInBounds_toArray, List.set_cons_zero, List.set_cons_succ])
          refine wpAnyH_done (by kernel_rfl) ?_ _
          clear hwr
          go_wp2
          go_roundw
          case rel => exact ⟨k + 1, by omega, by go_num, by rw [HALL.out]; exact H5.out, HK3.out.trans K5.out⟩
          case measure => simp [intOf]; omega
      · have dt := decide_eq_false ht
        have dti : decide ((k : Int) < (ts.length : Int)) = false := decide_eq_false (by omega)
        have HPC : Hid (pieceT g ts k args[k] = markT) := Lib.hid (by unfold pieceT; rw [dif_neg ht])
        have TH : Hid (∀ q, Calls Tryd.prog 35 #[.pointer (some ⟨R, 0, none⟩), .string (headT k)] (wr.drewN q) fun e w' => e = .returned (.tuple #[]) ∧ Hid (RS w0 w' R cs (.slice Ak cons.length ck) (q0 ++ headT k)) ∧ Hid (Kp R wr w')) := Lib.hid (fun q => text_any (headT k) (HR1.out.drewN q) (by have := HSUM.out; simp only [ByteArray.size_append] at this ⊢; omega))
        by_cases hk0 : k = 0
        all_goals
          first
            | (have hd0 : headT k = ⟨#[32, 40]⟩ := by rw [hk0]; rfl
               rw [hd0] at TH
               have dk : ((k : Int) == 0) = true := by rw [hk0]; rfl
               have HD0 := Lib.hid hd0
               clear hk0 hd0)
            | (have hd0 : headT k = ⟨#[44, 32]⟩ := by unfold headT; rw [if_neg hk0]; rfl
               rw [hd0] at TH
               have dk : ((k : Int) == 0) = false := beq_eq_false_iff_ne.2 (by omega)
               have HD0 := Lib.hid hd0
               clear hk0 hd0)
          go_wp2_with fail
          refine (TH.out 0).mono ?_; rintro e w3 ⟨rfl, H3, K3⟩
          have HK3 := Lib.hid (KP.out.trans K3.out)
          have TM : Hid (∀ q, Calls Tryd.prog 35 #[.pointer (some ⟨R, 0, none⟩), .string ⟨#[63]⟩] (w3.drewN q) fun e w' => e = .returned (.tuple #[]) ∧ Hid (RS w0 w' R cs (.slice Ak cons.length ck) (q0 ++ headT k ++ pieceT g ts k args[k])) ∧ Hid (Kp R w3 w')) := Lib.hid (fun q => by
            rw [HPC.out, HD0.out]
            refine text_any markT (H3.out.drewN q) ?_
            have := HSUM.out; rw [HPC.out, HD0.out] at this; simp only [ByteArray.size_append] at this ⊢; omega)
          clear TH K3 KP HR1 HD0 H3
          go_wp2_with fail
          refine (TM.out 0).mono ?_; rintro e w5 ⟨rfl, H5, K5⟩
          clear TM
          go_wp2
          go_roundw
          case rel => exact ⟨k + 1, by omega, by go_num, by rw [HALL.out]; exact H5.out, HK3.out.trans K5.out⟩
          case measure => simp [intOf]; omega
    · have HTK : Hid (args.take k = args) := Lib.hid (List.take_of_length_le (by omega))
      have TC : Hid (∀ q, Calls Tryd.prog 35 #[.pointer (some ⟨R, 0, none⟩), .string ⟨#[41]⟩] (wr.drewN q) fun e w' => e = .returned (.tuple #[]) ∧ Hid (RS w0 w' R cs (.slice Ak cons.length ck) (p ++ piecesT g ts 0 args ++ closeT)) ∧ Hid (Kp R wr w')) := Lib.hid (fun q => by
        have h1 := HR.out; rw [HTK.out] at h1
        refine text_any closeT (h1.drewN q) ?_
        have := HSZ.out; rw [ByteArray.size_append] at this; omega)
      have hge : ¬ (k : Int) < (args.length : Int) := by omega
      clear HTK HR HVV HROW HT
      go_wp2_with fail
      refine (TC.out 0).mono ?_; rintro e w5 ⟨rfl, H5, K5⟩
      clear TC
      go_wp2
      first | go_end0 | (simp only [Exit.inBlock, Exit.then]; refine bodyPost_ret (results_none rfl _ _ _) rfl ?_) | refine bodyPost_ret (results_none rfl _ _ _) rfl ?_
      exact ⟨rfl, H5, Lib.hid (KP.out.trans K5.out)⟩
end Go.Proofs.YtclilpabdcdeoaaDoor
