import Derived.Test.YtaidlcnfkdaijaaPieces
import Derived.Laws.MakeOwn
namespace Go.Proofs.Ytaidlcnfkdaijaa
open Go.ChangeShapes Go.WideShapes Go.ChangeAt Go.RowKit
set_option linter.unusedVariables false
def tot (l : List (List Nat)) : Nat := (l.map List.length).sum
theorem tot_snoc (l : List (List Nat)) (p : List Nat) : tot (l ++ [p]) = tot l + p.length := by simp [tot]
theorem below_grown {B : Nat} {w a b : World} (h : Below B w a) {g : Nat} (gr : a.grownBy b (some g)) (hg : B ≤ g) (hB : B ≤ a.heap.size) : Below B w b :=
  ⟨gr.os.trans h.os, gr.tape.trans h.tape, gr.output.trans h.output, Nat.le_trans h.size gr.size, fun k hk => (gr.block k (by omega) (by intro e; injection e with e; omega)).trans (h.block k hk)⟩
theorem RObj.alloc (w : World) (ov bv : Value) : RObj (w.alloc (Obj.cells #[ov, bv] 36)) w.heap.size ov bv := by
  unfold RObj
  show (w.heap.push _)[w.heap.size]? = _
  simp
def APost (w : World) (B : Nat) (old b : List Nat) (e : Ending) (w' : World) : Prop := match PS old b with
  | none => e = .returned (.tuple #[.slice none 0 0, .int .i64 3]) ∧ Below w.heap.size w w'
  | some l => ∃ v, e = .returned (.tuple #[v, .int .i64 0]) ∧ Below w.heap.size w w' ∧ w'.ownsRow w.heap.size 5 1 v l.flatten.length (bys l.flatten)
theorem APost.none_ {w : World} {B : Nat} {old b : List Nat} {e : Ending} {w' : World} (h : PS old b = none) (he : e = .returned (.tuple #[.slice none 0 0, .int .i64 3])) (hw : Below w.heap.size w w') : APost w B old b e w' := by
  unfold APost; rw [h]; exact ⟨he, hw⟩
set_option maxRecDepth 100000 in
theorem apply_any {w : World} {no co n cap h o : Nat} {A B : Option Addr} {old b : List Nat}
   (hn : b.length = n) (hB : 0 < n → B = some ⟨h, o, none⟩ ∧ h < w.heap.size ∧ ∀ j, j < b.length → w.cell? ⟨h, o + j, none⟩ = some (.int .u8 (b.getD j 0 : Nat))) (hl : n ≤ 420) (hcap : n ≤ cap)
    (hol : old.length = no) (hno : no ≤ co) (hno2 : no ≤ 420) (hold : 0 < no → ∃ ho oo, A = some ⟨ho, oo, none⟩ ∧ ho < w.heap.size ∧ ∀ j, j < no → w.cell? ⟨ho, oo + j, none⟩ = some (.int .u8 (old.getD j 0 : Nat))) :
    Calls Try.prog 9 #[.slice A no co, .slice B n cap] w fun e w' => APost w w.heap.size old b e w' := by
  have HB := Lib.hid hB; have HO := Lib.hid hold; clear hB hold
  go_enter Try.func9, Try.ntmps9
  go_wp2
  go_loopw [6, 7, 8] (fun s r p wr => ∃ (g o' n' cap' cnt T : Nat) (B' : Option Addr) (done : List (List Nat)) (rest : List Nat), s = .int .u64 T ∧ r = .pointer (some ⟨g, 0, none⟩) ∧ Hid (T = tot done) ∧ Hid (w.heap.size ≤ g) ∧ Hid (RObj wr g (.slice A no co) (.slice B' n' cap')) ∧ Hid (0 < n' → B' = some ⟨h, o', none⟩ ∧ h < w.heap.size ∧ ∀ j, j < rest.length → w.cell? ⟨h, o' + j, none⟩ = some (.int .u8 (rest.getD j 0 : Nat))) ∧ rest.length = n' ∧ n' ≤ cap' ∧ cnt + n' ≤ n ∧ T ≤ 840 * cnt ∧ Hid (Below w.heap.size w wr) ∧ Hid (PS old b = (PS old rest).map (done ++ ·))) (fun _ r _ wr => lenAt wr r)
  case atStart => exact ⟨w.heap.size, o, n, cap, 0, 0, B, [], b, rfl, rfl, Lib.hid rfl, Lib.hid (Nat.le_refl _), Lib.hid (RObj.alloc w _ _), HB, hn, hcap, by omega, by omega, Lib.hid (below_alloc w _), Lib.hid (by simp)⟩
  case round =>
    obtain ⟨g, o', n', cap', cnt, T, B', done, rest, rfl, rfl, hT, hg, ro, hB', hrl, hcap', hcnt, hT2, hbw, hps⟩ := hrel
    have c0 := ro.out.c0; have c1 := ro.out.c1
    by_cases hlt : 0 < n'
    · obtain ⟨rfl, hh, hcell⟩ := hB'.out hlt
      have RO := Lib.hid ro.out
      have HG := Lib.hid hg.out
      have hgn : h ≠ g := by have := hg.out; omega
      have CN : Hid (Calls Try.prog 14 #[.pointer (some ⟨g, 0, none⟩)] wr fun e w' => NextPost wr g h n' (.slice A no co) old rest e w') := Lib.hid (next_any RO.out hgn hrl hlt (fun j hj => by
          rw [hbw.out.cell (p := ⟨h, o' + j, none⟩) hh]; exact hcell j hj) (by omega) hcap' hol hno (by omega) (fun h0 => by
          obtain ⟨ho, oo, e1, e2, e3⟩ := HO.out h0
          have := HG.out
          refine ⟨ho, oo, e1, by omega, Nat.lt_of_lt_of_le e2 hbw.out.size, fun j hj => ?_⟩
          rw [hbw.out.cell (p := ⟨ho, oo + j, none⟩) e2]; exact e3 j hj))
      have HH := Lib.hid hh
      have HBW := Lib.hid hbw.out
      clear hcell hh hbw ro
      have HPS : Hid (PS old b = match nextS old rest with | none => none | some (p, rest') => (PS old rest').map ((done ++ [p]) ++ ·)) := Lib.hid (by
        rw [hps.out, PS_step old rest (by omega)]
        cases nextS old rest with
        | none => rfl
        | some pr => obtain ⟨p, rest'⟩ := pr; simp only [Option.map_map]; cases PS old rest' <;> simp)
      obtain ⟨x, hx⟩ : ∃ x, x = nextS old rest := ⟨_, rfl⟩
      have HL : Hid (∀ p rest', x = some (p, rest') → rest'.length < rest.length ∧ 0 < p.length ∧ p.length ≤ old.length + rest.length) := Lib.hid (fun p rest' e => nextS_len old rest p rest' (by rw [← hx, e]))
      unfold NextPost at CN
      rw [← hx] at CN HPS
      clear hx hps
      cases x with
      | none =>
        have E1 : Hid (PS old b = none) := HPS.out
        clear HPS HL
        go_wp2_with fail
        refine CN.out.mono ?_
        rintro e w2 ⟨rfl, gr⟩
        have BW := Lib.hid (below_grown HBW.out gr HG.out (HBW.out.size))
        clear CN gr c0 c1
        go_wp2
        go_ret2
        exact APost.none_ E1.out rfl BW.out
      | some pr =>
        obtain ⟨p, rest'⟩ := pr
        have hpl := HL.out p rest' rfl
        clear HL
        go_wp2_with fail
        refine CN.out.mono ?_
        rintro e w2 ⟨hp, op, cp, rfl, gr, hp0, hpc, _, _, _, o2, n2, cap2, r2, hr2, hc2, hn2, hcell2⟩
        have BW := Lib.hid (below_grown HBW.out gr HG.out (HBW.out.size))
        have SZ := Lib.hid gr.size
        clear CN gr c0 c1
        have c0 := r2.c0; have c1 := r2.c1
        have R2 := Lib.hid r2; have HC2 := Lib.hid hcell2
        clear r2 hcell2
        have ne0 : (((p.length : Nat) : Int) == 0) = false := beq_eq_false_iff_ne.2 (by omega)
        go_wp2
        refine ⟨⟨w2.heap.size, o2, n2, cap2, cnt + 1, T + p.length, _, done ++ [p], rest', by simp, rfl, Lib.hid (by rw [tot_snoc, hT.out]), Lib.hid (Nat.le_trans HBW.out.size SZ.out), Lib.hid (RObj.alloc w2 _ _), Lib.hid (fun _ => ⟨rfl, HH.out, fun j hj => ?_⟩), hr2, hc2, by omega, ?_, Lib.hid (BW.out.alloc BW.out.size _), HPS⟩, ?_⟩
        · rw [← BW.out.cell (p := ⟨h, o2 + j, none⟩) HH.out]; exact HC2.out j hj
        · omega
        · rw [lenAt_eq (RObj.alloc w2 _ _), lenAt_eq RO.out]; exact hn2
    · obtain rfl : n' = 0 := by omega
      have HPS : Hid (PS old b = some done) := Lib.hid (by
        obtain rfl : rest = [] := List.length_eq_zero_iff.1 hrl
        rw [hps.out]; simp [PS, piecesS])
      have HBW := Lib.hid hbw.out
      have g1 : decide ((4194304 : Int) < (T : Nat)) = false := decide_eq_false (by omega)
      obtain ⟨i0, hi0, hz0, hz1, hz2⟩ := info_parts info5
      obtain ⟨w3, hmk, own3, gr3⟩ := run_make_own (P := Try.prog) wr w.heap.size 22 5 i0 (.int .u8 0) 1 Try.underlying22 hi0 hz0 hz1 .i64 .u64 T (by rw [hz2]; omega) (by unfold maxLen; omega) hbw.out.size
      have B3 : Hid (Below w.heap.size w w3) := Lib.hid (hbw.out.grown gr3 hbw.out.size (fun k hk => by cases hk))
      have OWN3 := Lib.hid own3
      have BLT3 := Lib.hid (own3.lt _ rfl)
      clear hps hB' ro hbw hg hT own3 gr3 hrl HBW
      go_wp2_with fail
      have HDN := Lib.hid HPS.out
      obtain ⟨l0, hl0⟩ : ∃ l0, l0 = done := ⟨_, rfl⟩
      rw [← hl0] at HDN
      clear HPS hl0 c0 c1 hT2 hcap' hcnt hmk g1
      go_loopw [9, 10] (fun v r wr => ∃ (g o' n' cap' cnt T : Nat) (B' : Option Addr) (done : List (List Nat)) (rest : List Nat), r = .pointer (some ⟨g, 0, none⟩) ∧ Hid (T = done.flatten.length) ∧ Hid (w.heap.size ≤ g) ∧ Hid (RObj wr g (.slice A no co) (.slice B' n' cap')) ∧ Hid (0 < n' → B' = some ⟨h, o', none⟩ ∧ h < w.heap.size ∧ ∀ j, j < rest.length → w.cell? ⟨h, o' + j, none⟩ = some (.int .u8 (rest.getD j 0 : Nat))) ∧ rest.length = n' ∧ n' ≤ cap' ∧ cnt + n' ≤ n ∧ T ≤ 840 * cnt ∧ Hid (Below w.heap.size w wr) ∧ Hid (PS old b = (PS old rest).map (done ++ ·)) ∧ Hid (wr.ownsRow w.heap.size 5 1 v T (bys done.flatten)) ∧ Hid (v.ownBlock ≠ some g)) (fun _ r wr => lenAt wr r)
      case atStart => exact ⟨w3.heap.size, o, n, cap, 0, 0, B, [], b, rfl, Lib.hid rfl, Lib.hid B3.out.size, Lib.hid (RObj.alloc w3 _ _), HB, hn, hcap, by omega, by omega, Lib.hid (B3.out.alloc B3.out.size _), Lib.hid (by simp), Lib.hid (OWN3.out.alloc _), Lib.hid (by intro e; have e : some wr.heap.size = some w3.heap.size := e; injection e with e; have := BLT3.out.2; omega)⟩
      case round =>
        clear BLT3 OWN3
        clear B3
        obtain ⟨g, o', n', cap', cnt, T, B', done, rest, rfl, hT, hg, ro, hB', hrl, hcap', hcnt, hT2, hbw, hps, own, hvg⟩ := hrel
        have c0 := ro.out.c0; have c1 := ro.out.c1
        by_cases hlt : 0 < n'
        · obtain ⟨rfl, hh, hcell⟩ := hB'.out hlt
          have RO := Lib.hid ro.out
          have HG := Lib.hid hg.out
          have OWN := Lib.hid own.out
          have HVG := Lib.hid hvg.out
          have HTT := Lib.hid hT.out
          have hgn : h ≠ g := by have := hg.out; omega
          have CN : Hid (Calls Try.prog 14 #[.pointer (some ⟨g, 0, none⟩)] wr fun e w' => NextPost wr g h n' (.slice A no co) old rest e w') := Lib.hid (next_any RO.out hgn hrl hlt (fun j hj => by
              rw [hbw.out.cell (p := ⟨h, o' + j, none⟩) hh]; exact hcell j hj) (by omega) hcap' hol hno (by omega) (fun h0 => by
              obtain ⟨ho, oo, e1, e2, e3⟩ := HO.out h0
              have := HG.out
              refine ⟨ho, oo, e1, by omega, Nat.lt_of_lt_of_le e2 hbw.out.size, fun j hj => ?_⟩
              rw [hbw.out.cell (p := ⟨ho, oo + j, none⟩) e2]; exact e3 j hj))
          have HH := Lib.hid hh
          have HBW := Lib.hid hbw.out
          have HPS : Hid (PS old b = match nextS old rest with | none => none | some (p, rest') => (PS old rest').map ((done ++ [p]) ++ ·)) := Lib.hid (by
            rw [hps.out, PS_step old rest (by omega)]
            cases nextS old rest with
            | none => rfl
            | some pr => obtain ⟨p, rest'⟩ := pr; simp only [Option.map_map]; cases PS old rest' <;> simp)
          clear hcell hh hbw ro hps own hvg hT hg
          obtain ⟨x, hx⟩ : ∃ x, x = nextS old rest := ⟨_, rfl⟩
          have HL : Hid (∀ p rest', x = some (p, rest') → rest'.length < rest.length ∧ 0 < p.length ∧ p.length ≤ old.length + rest.length) := Lib.hid (fun p rest' e => nextS_len old rest p rest' (by rw [← hx, e]))
          unfold NextPost at CN
          rw [← hx] at CN HPS
          clear hx
          cases x with
          | none => exact absurd (HPS.out.symm.trans HDN.out) (by simp)
          | some pr =>
            obtain ⟨p, rest'⟩ := pr
            have hpl := HL.out p rest' rfl
            clear HL
            go_wp2_with fail
            refine CN.out.mono ?_
            rintro e w2 ⟨hp, op, cp, rfl, gr, hp0, hpc, hpg, hpw, hpcell, o2, n2, cap2, r2, hr2, hc2, hn2, hcell2⟩
            have BW := Lib.hid (below_grown HBW.out gr HG.out (HBW.out.size))
            have SZ := Lib.hid gr.size
            have OWN2 := Lib.hid (OWN.out.kept gr (.inr HVG.out))
            have PC : Hid (∀ j u, (bys p)[j]? = some u → w2.cell? ((⟨hp, op, none⟩ : Addr).add j) = some u) := Lib.hid (fun j u hu => by
              have hj : j < p.length := by rw [← bys_len p]; exact (List.getElem?_eq_some_iff.1 hu).1
              have e1 : (⟨hp, op, none⟩ : Addr).add j = ⟨hp, op + j, none⟩ := Go.WideShapes.add_plain hp op j
              rw [e1, World.cell?_of_block (gr.block hp hpw (by intro e; injection e with e; exact hpg e)), hpcell j hj]
              simp [bys, List.getElem?_eq_getElem hj] at hu
              rw [← hu]; simp [List.getD, hj])
            clear CN gr c0 c1 hpcell OWN
            have R2 := Lib.hid r2; have HC2 := Lib.hid hcell2
            clear r2 hcell2
            go_wp2_with (at_builtin; refine wpList_append_own_at _ rfl (.tmp 39) (.tmp 40) 22 rfl w.heap.size 5 i0 (.int .u8 0) 1 1 Try.underlying22 hi0 hz0 hz1 hz2 rfl (by decide) _ T (bys done.flatten) rfl OWN2.out ⟨hp, op, none⟩ p.length cp (bys p) rfl (by simp [bys]) PC.out (bys_one p) (by unfold maxLen; omega) (by omega) BW.out.size ?_)
            intro v2 w3' own4 gr4 _ at4
            have B4 : Hid (Below w.heap.size w w3') := Lib.hid (BW.out.grown gr4 BW.out.size (fun k hk => (OWN2.out.lt k hk).1))
            have R4 : Hid (RObj w3' g (.slice A no co) (.slice (some ⟨h, o2, none⟩) n2 cap2)) := Lib.hid ((gr4.block g R2.out.lt (fun e => HVG.out e.symm)).trans R2.out)
            have SZ2 := Lib.hid gr4.size
            have V2 : Hid (v2.ownBlock ≠ some w3'.heap.size) := Lib.hid (by intro e; have := (own4.lt _ e).2; omega)
            have OWN4 : Hid (w3'.ownsRow w.heap.size 5 1 v2 (T + p.length) (bys (done ++ [p]).flatten)) := Lib.hid (by rw [List.flatten_append, bys_app]; simpa using own4)
            have c0 := R4.out.c0; have c1 := R4.out.c1
            clear own4 gr4 at4
            go_wp2
            refine ⟨⟨w3'.heap.size, o2, n2, cap2, cnt + 1, T + p.length, _, done ++ [p], rest', rfl, Lib.hid (by rw [HTT.out]; simp), Lib.hid B4.out.size, Lib.hid (RObj.alloc w3' _ _), Lib.hid (fun _ => ⟨rfl, HH.out, fun j hj => ?_⟩), hr2, hc2, by omega, ?_, Lib.hid (B4.out.alloc B4.out.size _), HPS, Lib.hid (OWN4.out.alloc _), V2⟩, ?_⟩
            · rw [← BW.out.cell (p := ⟨h, o2 + j, none⟩) HH.out]; exact HC2.out j hj
            · omega
            · rw [lenAt_eq (RObj.alloc w3' _ _), lenAt_eq RO.out]; exact hn2
        · have EQ : Hid (PS old b = some done) := Lib.hid (by
            obtain rfl : rest = [] := List.length_eq_zero_iff.1 (by omega)
            rw [hps.out]; simp [PS, piecesS])
          have P : Hid (∃ v, (Ending.returned (.tuple #[u9, .int .i64 0]) : Ending) = .returned (.tuple #[v, .int .i64 0]) ∧ Below w.heap.size w wr ∧ wr.ownsRow w.heap.size 5 1 v done.flatten.length (bys done.flatten)) := Lib.hid ⟨_, rfl, hbw.out, by rw [← hT.out]; exact own.out⟩
          have AP : Hid (APost w w.heap.size old b (.returned (.tuple #[u9, .int .i64 0])) wr) := Lib.hid (by unfold APost; rw [EQ.out]; exact P.out)
          clear P EQ hps own hvg hT hbw
          obtain rfl : n' = 0 := by omega
          go_wp2
          go_ret2
          exact AP.out
end Go.Proofs.Ytaidlcnfkdaijaa
