import Derived.Test.YtifopogkbjhkjaaGreatDoorTo
import Derived.Test.YtifopogkbjhkjaaGreatDoorShelf
import Derived.Lib.ItoaNum
import Derived.Lib.AppendStr
namespace Go.Proofs.YtifopogkbjhkjaaGreatDoor
open Go.ChangeShapes Go.WideShapes Go.ChangeAt Go.RowKit Go.WideMaps
set_option linter.unusedVariables false
set_option linter.unusedSimpArgs false
/-- the text of the i-th variable. -/
def letT (i : Nat) : ByteArray := if i ≤ 26 then ⟨#[39, UInt8.ofNat (96 + i)]⟩ else ⟨#[39]⟩ ++ ⟨(Lib.decDigits i).toArray⟩
set_option maxRecDepth 100000 in
set_option maxHeartbeats 1000000 in
theorem letter_any (i : Nat) (h0 : 1 ≤ i) (h1 : i < 100) (w : World) : Calls Tryz.prog 70 #[.int .i64 i] w fun e w' => e = .returned (.string (letT i)) ∧ Below w.heap.size w w' := by
  unfold letT
  by_cases h : i ≤ 26
  · rw [if_pos h]
    obtain ⟨bb, hbb⟩ : ∃ b, b = UInt8.ofNat (96 + i) := ⟨_, rfl⟩
    rw [← hbb]
    have d0 : decide ((26 : Int) < (i : Int)) = false := decide_eq_false (by omega)
    have w1 : IntKind.i64.wrap (97 + (i : Int)) = 97 + (i : Int) := IntWalk.i64_in _ (by omega)
    have w2 : IntKind.i64.wrap (97 + (i : Int) - 1) = 97 + (i : Int) - 1 := IntWalk.i64_in _ (by omega)
    go_enter Tryz.func70, Tryz.ntmps70
    have u1 : (bb.toNat : Int) = 97 + (i : Int) - 1 := by rw [hbb, UInt8.toNat_ofNat']; omega
    clear hbb
    have hb := heap_alloc_new w (.cells #[.int .u8 39, .int .u8 (97 + (i : Int) - 1)] 5)
    have hconv : (convert 81 9 (.slice (some ⟨w.heap.size, 0, none⟩) 2 2)).run Tryz.prog (w.alloc (.cells #[.int .u8 39, .int .u8 (97 + (i : Int) - 1)] 5)) = .ok (.string ⟨#[39, bb]⟩) (w.alloc (.cells #[.int .u8 39, .int .u8 (97 + (i : Int) - 1)] 5)) :=
      run_convert_bytes_back _ 81 9 5 ⟨w.heap.size, 0, none⟩ 2 [39, bb] Tryz.underlying81 Tryz.underlying5 Tryz.underlying9 (fun j hj => by
        match j, hj with
        | 0, _ => show World.cell? _ ⟨w.heap.size, 0, none⟩ = _; unfold World.cell?; rw [hb]; rfl
        | 1, _ => show World.cell? _ ⟨w.heap.size, 1, none⟩ = _; unfold World.cell?; rw [hb]; show some (Value.int .u8 (97 + (i : Int) - 1)) = some (.int .u8 (bb.toNat : Int)); rw [u1])
    go_wp2
    go_ret
    exact ⟨rfl, below_alloc _ _⟩
  · rw [if_neg h]
    have d0 : decide ((26 : Int) < (i : Int)) = true := decide_eq_true (by omega)
    have CI := Lib.hid (Tryz.strconv_Itoa_small i h1)
    have hdl : (Lib.decDigits i).length ≤ 2 := by
      by_cases h10 : i < 10
      · rw [Lib.decDigits_one h10]; simp
      · rw [Lib.decDigits_two h10 h1]; simp
    go_enter Tryz.func70, Tryz.ntmps70
    go_wp2_with fail
    refine (CI.out _).mono ?_; rintro e w1 ⟨rfl, rfl⟩
    go_wp2
    go_ret
    exact ⟨rfl, Below.refl _ _⟩
/-- something is written. -/
theorem vs_text {w w1 : World} {B R M n : Nat} {l : List Int} {f : Int → Option Int} {vv tv tv' : Value} {ts new : List Value} (s : VS w B R M l f n vv tv ts) (gr : w.grownBy w1 tv.ownBlock) (own1 : w1.ownsRow B 5 1 tv' (ts ++ new).length (ts ++ new)) (hB : B ≤ w.heap.size) :
    w1.heap[R]? = some (.cells #[.map (some M), vv, tv] 83 (0, 0)) ∧ VS (w1.setCell ⟨R, 2, none⟩ tv') B R M l f n vv tv' (ts ++ new) ∧ Below B w (w1.setCell ⟨R, 2, none⟩ tv') ∧ KeepT w (w1.setCell ⟨R, 2, none⟩ tv') := by
  obtain ⟨a1, a2, a3, a4, a5, a6⟩ := s.apart
  have fr : Frm w w1 (fun k => tv.ownBlock = some k) := Frm.of_grown gr (fun k h => h)
  have hobj := (fr.block R s.rlt a2).trans s.obj
  have fs : Frm w1 (w1.setCell ⟨R, 2, none⟩ tv') (· = R) := frm_set 2 _ rfl
  have hgR : tv'.ownBlock ≠ some R := fun e => by
    obtain ⟨cur, hc⟩ := own_type own1 e
    rw [hobj] at hc; injection hc with hc; injection hc with _ hc; cases hc
  refine ⟨hobj, ⟨by simp [World.setCell, Array.getElem?_modify, hobj], ?_, ?_, ?_, s.le⟩, ?_⟩
  · exact own_frm (own_frm s.vars fr (fun k h e => a6 k h e)) fs (fun k hk e => a1 (e ▸ hk))
  · exact own_frm own1 fs (fun k hk e => hgR (e ▸ hk))
  · exact (s.mp.frm fr a4).frm fs (fun e => a5 e.symm)
  · refine ⟨(fr.below (fun k hk => (s.text.lt k hk).1) hB).trans (fs.below (fun k hk => by rw [hk]; exact s.le.1) (Nat.le_trans hB fr.size)), (KeepT.of_frm fr (fun k cur hk h => ?_)).trans (KeepT.of_frm fs (fun k cur hk h => ?_))⟩
    · obtain ⟨cur2, hc⟩ := own_type s.text hk
      rw [hc] at h; injection h with h; injection h with _ h; cases h
    · rw [hk, hobj] at h; injection h with h; injection h with _ h; cases h
theorem strCells_app (a b : ByteArray) : Lib.strCells (a ++ b) = Lib.strCells a ++ Lib.strCells b := by
  unfold Lib.strCells
  rw [ByteArray.data_append, Array.toList_append, List.map_append]
theorem infoU : (Tryz.prog.info? 5).map (fun i => (i.zero, i.size, i.bytes)) = some (some (.int .u8 0), 1, 1) := by kernel_rfl
/-- the visitor, with a text. -/
def VX (w0 w : World) (R M : Nat) (l : List Int) (s : ByteArray) : Prop := VSt w0 w R M l (Lib.strCells s)
/-- what the walk needs where something is appended: the row, and what is when it is written. -/
theorem vx_open {w0 w : World} {R M : Nat} {l : List Int} {s : ByteArray} (h : VX w0 w R M l s) : ∃ A c, w.cell? ⟨R, 2, none⟩ = some (.slice A s.size c) ∧ w.ownsRow w0.heap.size 5 1 (.slice A s.size c) s.size (Lib.strCells s) ∧ w0.heap.size ≤ w.heap.size ∧
    (∀ (t : ByteArray) (tv' : Value) (w1 : World), w1.ownsRow w0.heap.size 5 1 tv' (s.size + t.size) (Lib.strCells s ++ Lib.strCells t) → w.grownBy w1 (Value.ownBlock (.slice A s.size c)) → w1.cell? ⟨R, 2, none⟩ = some (.slice A s.size c) ∧ w1.frozen? ⟨R, 2, none⟩ = false ∧ VX w0 (w1.setCell ⟨R, 2, none⟩ tv') R M l (s ++ t) ∧ KeepT w (w1.setCell ⟨R, 2, none⟩ tv')) := by
  obtain ⟨vv, tv, v, b⟩ := h
  obtain ⟨A, c, rfl⟩ := vform v.text
  rw [Lib.strCells_length] at v
  have ht := v.text
  rw [Lib.strCells_length] at ht
  refine ⟨A, c, v.cells.2.2.1, ht, b.size, fun t tv' w1 own1 gr => ?_⟩
  obtain ⟨h1, h2, h3, h4⟩ := vs_text (new := Lib.strCells t) v gr (by rw [List.length_append, Lib.strCells_length, Lib.strCells_length]; exact own1) b.size
  refine ⟨by simp [World.cell?, h1], by simp [World.frozen?, h1], ⟨vv, tv', ?_, b.trans h3⟩, h4⟩
  rw [strCells_app]; exact h2
end Go.Proofs.YtifopogkbjhkjaaGreatDoor
namespace Go.Proofs.YtifopogkbjhkjaaGreatDoor
open Go.ChangeShapes Go.WideShapes Go.ChangeAt Go.RowKit Go.WideMaps
set_option linter.unusedVariables false
set_option linter.unusedSimpArgs false
mutual
/-- what a type's text is, where l has come up so far. -/
def txt : TT → List Int → ByteArray
  | .mk k nm vr args, l => if k = 1 then ⟨#[105, 110, 116]⟩ else if k = 2 then ⟨#[98, 111, 111, 108]⟩ else if k = 3 then ⟨#[117, 110, 105, 116]⟩ else if k = 4 then nm
    else if k = 5 then ⟨#[40]⟩ ++ txtL true ⟨#[32, 45, 62, 32]⟩ args l ++ ⟨#[41]⟩ else if k = 6 then ⟨#[40]⟩ ++ txtL true ⟨#[]⟩ args l ++ ⟨#[32, 114, 101, 102, 41]⟩ else letT (posV (addV l vr) vr + 1)
def txtL : Bool → ByteArray → List TT → List Int → ByteArray
  | _, _, [], _ => ⟨#[]⟩
  | first, btw, a :: r, l => (if first then ⟨#[]⟩ else btw) ++ txt a l ++ txtL false btw r (varsT a l)
end
theorem txt_eq (V : TT) (l : List Int) : txt V l = if V.k = 1 then ⟨#[105, 110, 116]⟩ else if V.k = 2 then ⟨#[98, 111, 111, 108]⟩ else if V.k = 3 then ⟨#[117, 110, 105, 116]⟩ else if V.k = 4 then V.nm
    else if V.k = 5 then ⟨#[40]⟩ ++ txtL true ⟨#[32, 45, 62, 32]⟩ V.args l ++ ⟨#[41]⟩ else if V.k = 6 then ⟨#[40]⟩ ++ txtL true ⟨#[]⟩ V.args l ++ ⟨#[32, 114, 101, 102, 41]⟩ else letT (posV (addV l V.vr) V.vr + 1) := by cases V; rw [txt]; rfl
theorem ba_nil (a : ByteArray) : a ++ ⟨#[]⟩ = a := by
  apply ByteArray.ext
  rw [ByteArray.data_append]; simp
theorem txtL_take (btw : ByteArray) : ∀ (args : List TT) (first : Bool) (l : List Int) (k : Nat) (h : k < args.length), txtL first btw (args.take (k + 1)) l = txtL first btw (args.take k) l ++ ((if (first && k == 0) = true then ⟨#[]⟩ else btw) ++ txt args[k] (varsL (args.take k) l))
  | a :: r, first, l, 0, h => by
    simp only [List.take_succ_cons, List.take_zero, txtL, varsL, List.getElem_cons_zero]
    rw [ba_nil]
    cases first
    · simp; rw [show (⟨#[]⟩ : ByteArray) = ByteArray.empty from rfl]; simp
    · simp; rw [show (⟨#[]⟩ : ByteArray) = ByteArray.empty from rfl]; simp
  | a :: r, first, l, k + 1, h => by
    have ih := txtL_take btw r false (varsT a l) k (by simpa using h)
    simp only [List.take_succ_cons, txtL, varsL, List.getElem_cons_succ]
    rw [ih]
    simp [ByteArray.append_assoc]
end Go.Proofs.YtifopogkbjhkjaaGreatDoor
namespace Go.Proofs.YtifopogkbjhkjaaGreatDoor
open Go.ChangeShapes Go.WideShapes Go.ChangeAt Go.RowKit Go.WideMaps
set_option linter.unusedVariables false
set_option linter.unusedSimpArgs false
mutual
theorem varsT_ge : ∀ (V : TT) (l : List Int), l.length ≤ (varsT V l).length
  | .mk k nm vr args, l => by
    rw [varsT_eq]
    refine Nat.le_trans ?_ (varsL_ge args _)
    show l.length ≤ (if k = 7 then addV l vr else l).length
    split
    · exact (addV_len l vr).2
    · exact Nat.le_refl _
theorem varsL_ge : ∀ (args : List TT) (l : List Int), l.length ≤ (varsL args l).length
  | [], l => by rw [varsL]; exact Nat.le_refl _
  | a :: r, l => by rw [varsL]; exact Nat.le_trans (varsT_ge a l) (varsL_ge r _)
end
theorem varsL_app : ∀ (a b : List TT) (l : List Int), varsL (a ++ b) l = varsL b (varsL a l)
  | [], b, l => by simp [varsL]
  | x :: a, b, l => by rw [List.cons_append, varsL, varsL, varsL_app a b]
theorem varsL_take_le (args : List TT) (l : List Int) (k : Nat) : (varsL (args.take k) l).length ≤ (varsL args l).length := by
  have h := varsL_app (args.take k) (args.drop k) l
  rw [List.take_append_drop] at h
  rw [h]; exact varsL_ge _ _
theorem txtL_app (btw : ByteArray) : ∀ (a b : List TT) (first : Bool) (l : List Int), txtL first btw (a ++ b) l = txtL first btw a l ++ txtL (first && a.isEmpty) btw b (varsL a l)
  | [], b, first, l => by
    simp [txtL, varsL]
    rw [show (⟨#[]⟩ : ByteArray) = ByteArray.empty from rfl]; simp
  | x :: a, b, first, l => by
    rw [List.cons_append, txtL, txtL, varsL, txtL_app btw a b]
    simp [ByteArray.append_assoc]
theorem txtL_take_le (btw : ByteArray) (args : List TT) (first : Bool) (l : List Int) (k : Nat) : (txtL first btw (args.take k) l).size ≤ (txtL first btw args l).size := by
  have h := txtL_app btw (args.take k) (args.drop k) first l
  rw [List.take_append_drop] at h
  rw [h, ByteArray.size_append]; omega
theorem own_form {w : World} {B n : Nat} {v : Value} {xs : List Value} (h : w.ownsRow B 5 1 v n xs) : ∃ A cap, v = .slice A n cap := vform h
def WrPost (w0 : World) (R M : Nat) (l : List Int) (s : ByteArray) (w : World) (e : Ending) (w' : World) : Prop := e = .returned (.bool true) ∧ Hid (VX w0 w' R M l s) ∧ Hid (KeepT w w')
theorem VX.below {w0 w w' : World} {R M : Nat} {l : List Int} {s : ByteArray} (h : VX w0 w R M l s) (hb : Below w.heap.size w w') : VX w0 w' R M l s := VSt.below h hb
theorem VX.base {w0 w : World} {R M : Nat} {l : List Int} {s : ByteArray} (h : VX w0 w R M l s) : Below w0.heap.size w0 w := by obtain ⟨_, _, _, b⟩ := h; exact b
theorem TIn.both {w0 w W : World} {V : TT} {v : Value} (h : TIn w (· < w0.heap.size) V v) (h1 : Below w0.heap.size w0 w) (h2 : Below w0.heap.size w0 W) : TIn W (· < w0.heap.size) V v := by
  obtain ⟨A, c, e, hr⟩ := h
  exact ⟨A, c, e, hr.moveP (fun b _ hp => ⟨Nat.lt_of_lt_of_le hp h2.size, (h2.block b hp).trans (h1.block b hp).symm, hp⟩)⟩
set_option maxRecDepth 100000 in
set_option maxHeartbeats 8000000 in
/-- what stands between brackets. -/
theorem encl_of {args : List TT} {l : List Int} {s btw fin : ByteArray} {w0 w : World} {R M c : Nat} {A : Option Addr} {q : Int} (hq0 : 0 ≤ q) (hq1 : q ≤ 1000) (hl4 : args.length ≤ 4) (hbt : btw.size ≤ 4) (hfn : fin.size ≤ 5)
    (WR : ∀ k (h : k < args.length) (W : World) (l' : List Int) (s' : ByteArray) (v : Value), (varsT args[k] l').length ≤ 99 → s'.size + (txt args[k] l').size ≤ 900000 → TIn W (· < w0.heap.size) args[k] v → VX w0 W R M l' s' → Calls Tryz.prog 46 #[.pointer (some ⟨R, 0, none⟩), v, .int .i64 (q + 1)] W (WrPost w0 R M (varsT args[k] l') (s' ++ txt args[k] l') W))
    (HAZ : ∀ W, Below w0.heap.size w0 W → TRow W (· < w0.heap.size) A args) (hn : (varsL args l).length ≤ 99) (hs : s.size + 1 + (txtL true btw args l).size + fin.size ≤ 900000) (h : VX w0 w R M l s) :
    Calls Tryz.prog 69 #[.pointer (some ⟨R, 0, none⟩), .slice A args.length c, .string btw, .string fin, .int .i64 q] w (WrPost w0 R M (varsL args l) (s ++ ⟨#[40]⟩ ++ txtL true btw args l ++ fin) w) := by
  obtain ⟨i0, hi, hz0, hz1, hz2⟩ := info_parts infoU
  have wq : IntKind.i64.wrap (q + 1) = q + 1 := IntWalk.i64_in _ (by omega)
  have HWR := Lib.hid WR
  have HRW := Lib.hid HAZ
  have HV := Lib.hid (h.below (below_alloc w (.cells #[.int .u8 40] 5)))
  have hR : R < w.heap.size := by obtain ⟨_, _, v, _⟩ := h; exact v.rlt
  have K0 := Lib.hid (KeepT.below (below_alloc w (.cells #[.int .u8 40] 5)))
  obtain ⟨A1, c1, z1, own1, hB1, cl1⟩ := vx_open HV.out
  have z0 : w.cell? ⟨R, 2, none⟩ = some (.slice A1 s.size c1) := ((below_alloc w (.cells #[.int .u8 40] 5)).cell (p := ⟨R, 2, none⟩) hR).symm.trans z1
  have OWN := Lib.hid own1
  have CL1 := Lib.hid cl1
  have hBw := h.base.size
  have TT1 := Lib.hid (fun k => txtL_take_le btw args true l k)
  have TT2 := Lib.hid (fun k => varsL_take_le args l k)
  clear WR HAZ h own1 cl1 z1 hR
  go_enter Tryz.func69, Tryz.ntmps69
  go_wp2_with (at_builtin; refine wpList_append_lies _ rfl (.tmp 17) (.tmp 18) 81 rfl w0.heap.size 5 i0 (.int .u8 0) 1 1 Tryz.underlying81 hi hz0 hz1 hz2 rfl (by decide) (.slice A1 s.size c1) s.size (Lib.strCells s) rfl OWN.out ⟨w.heap.size, 0, none⟩ 1 1 [.int .u8 40] rfl rfl (World.news_of_block (cs := #[.int .u8 40]) (t := 5) (fr := (0, 0)) (heap_alloc_new _ _)) (by simp [Value.oneCell']) (by omega) (by unfold maxLen; omega) (by omega) (by simp; omega) (w.heap.size + 1) (by simp) ?_; intro g cap w2 own2 gr2 at2 hlt2; obtain ⟨y1, g1, vx2, k2⟩ := CL1.out ⟨#[40]⟩ _ w2 own2 gr2; have VX2 := Lib.hid vx2; have K2 := Lib.hid (K0.out.trans k2); clear vx2 k2 own2 gr2 at2)
  obtain ⟨w3, hw3⟩ : ∃ z, z = w2.setCell ⟨R, 2, none⟩ (.slice (some ⟨g, 0, none⟩) (s.size + 1) cap) := ⟨_, rfl⟩
  rw [← hw3] at VX2 K2 ⊢
  clear hw3 y1 g1 z0 CL1 OWN K0 HV
  go_loopw [24] (fun i wr => ∃ k : Nat, k ≤ args.length ∧ i = .int .i64 k ∧ Hid (VX w0 wr R M (varsL (args.take k) l) (s ++ ⟨#[40]⟩ ++ txtL true btw (args.take k) l)) ∧ Hid (KeepT w3 wr)) (fun i _ => args.length - (intOf i).toNat)
  case atStart => exact ⟨0, by omega, by first | rfl | trivial, Lib.hid (by rw [List.take_zero, varsL, txtL, ba_nil]; exact VX2.out), Lib.hid (KeepT.refl _)⟩
  case round =>
    obtain ⟨k, hk, rfl, VR, KR⟩ := hrel
    by_cases hlt : k < args.length
    · have hlti : (k : Int) < (args.length : Int) := by omega
      have hAr := HRW.out wr VR.out.base
      obtain ⟨b, o, rfl, hb, hr⟩ := hAr.at (by omega)
      obtain ⟨A', c', x0, x1, x2, x3, hin⟩ := hr wr (Below.refl _ _) k hlt
      have HX0 := Lib.hid (heap_alloc_new wr (.cells #[.int .i64 args[k].k, .string args[k].nm, .int .i64 args[k].vr, .slice A' args[k].args.length c'] 24))
      have KA := Lib.hid (KeepT.below (below_alloc wr (.cells #[.int .i64 args[k].k, .string args[k].nm, .int .i64 args[k].vr, .slice A' args[k].args.length c'] 24)))
      have VA := Lib.hid (VR.out.below (below_alloc wr (.cells #[.int .i64 args[k].k, .string args[k].nm, .int .i64 args[k].vr, .slice A' args[k].args.length c'] 24)))
      have hTV := varsL_take args l k hlt
      have hTX := txtL_take btw args true l k hlt
      have hle1 := TT1.out (k + 1)
      have hle2 := TT2.out (k + 1)
      have hle0 := TT1.out k
      rw [hTV] at hle2
      rw [hTX, ByteArray.size_append, ByteArray.size_append] at hle1
      have HTV := Lib.hid hTV
      obtain ⟨L, hL⟩ : ∃ L, L = varsL (args.take k) l := ⟨_, rfl⟩
      obtain ⟨X, hX⟩ : ∃ X, X = s ++ ⟨#[40]⟩ ++ txtL true btw (args.take k) l := ⟨_, rfl⟩
      have hXs : X.size = s.size + 1 + (txtL true btw (args.take k) l).size := by rw [hX, ByteArray.size_append, ByteArray.size_append]; rfl
      have HTX := Lib.hid (show s ++ ⟨#[40]⟩ ++ txtL true btw (args.take (k + 1)) l = X ++ ((if (true && k == 0) = true then ⟨#[]⟩ else btw) ++ txt args[k] L) by rw [hX, hL, hTX]; simp only [ByteArray.append_assoc])
      rw [← hL] at VA HTV hle2 hle1
      rw [← hX] at VA
      have hXt : X.size + ((if (true && k == 0) = true then (⟨#[]⟩ : ByteArray) else btw).size + (txt args[k] L).size) ≤ 900000 := by omega
      have hXb : X.size ≤ 900000 := by omega
      clear hXs hle0 hle1
      have WC := Lib.hid (fun W s' (h1 : (varsT args[k] L).length ≤ 99) (h2 : s'.size + (txt args[k] L).size ≤ 900000) (hW : VX w0 W R M L s') => HWR.out k hlt W L s' (tv args[k] A' c') h1 h2 (hin.both VR.out.base hW.base) hW)
      unfold tv at WC
      clear hr hb hin hTV hTX hL hX HWR HRW TT1 TT2 hAr
      cases k with
      | zero =>
        simp only [Nat.zero_mul, Nat.add_zero] at x0 x1 x2 x3
        have hg0 : ¬ (0 : Int) < ((0 : Nat) : Int) := by omega
        have CALL := Lib.hid (fun W (hW : VX w0 W R M L X) => WC.out W X (by omega) (by omega) hW)
        have VXW := VA
        have HTX : Hid (s ++ ⟨#[40]⟩ ++ txtL true btw (args.take (0 + 1)) l = X ++ txt args[0] L) := Lib.hid (by
          have := HTX.out
          rw [this]
          show X ++ (⟨#[]⟩ ++ txt args[0] L) = _
          rw [show (⟨#[]⟩ : ByteArray) = ByteArray.empty from rfl, ByteArray.empty_append])
        clear WC VA
        have KW := KA
        go_wp2_with fail
        refine (CALL.out _ VXW.out).mono ?_; rintro e w6 ⟨rfl, vx6, k6⟩
        have VX6 : Hid (VX w0 w6 R M (varsL (args.take (0 + 1)) l) (s ++ ⟨#[40]⟩ ++ txtL true btw (args.take (0 + 1)) l)) := Lib.hid (by rw [HTV.out, HTX.out]; exact vx6.out)
        have K6 := Lib.hid ((KR.out.trans KW.out).trans k6.out)
        clear vx6 k6 CALL
        go_wp2
        go_roundw
        case rel => exact ⟨0 + 1, by omega, by go_num, VX6, K6⟩
        case measure => simp [intOf]; omega
      | succ j =>
        have hg0 : (0 : Int) < ((j + 1 : Nat) : Int) := by omega
        have HTX : Hid (s ++ ⟨#[40]⟩ ++ txtL true btw (args.take (j + 1 + 1)) l = X ++ btw ++ txt args[j + 1] L) := Lib.hid (by
          have := HTX.out
          rw [this]
          show X ++ (btw ++ txt args[j + 1] L) = _
          rw [ByteArray.append_assoc])
        obtain ⟨A2, c2, z2, own2, hB2, cl2⟩ := vx_open VA.out
        have OWN2 := Lib.hid own2
        have CL2 := Lib.hid cl2
        clear own2 cl2
        go_wp2_with (at_builtin; refine Lib.wpList_append_own_string _ rfl (.tmp 35) (.tmp 36) 81 9 rfl w0.heap.size 5 i0 Tryz.underlying81 Tryz.underlying9 hi hz0 hz1 hz2 _ _ _ rfl OWN2.out btw rfl (by unfold maxLen; omega) (by omega) hB2 ?_)
        intro v4 w4 own4 gr4 hne4
        obtain ⟨y4, g4, vx4, k4⟩ := CL2.out btw v4 w4 own4 gr4
        obtain ⟨A4, c4, rfl⟩ := own_form own4
        have VXW := Lib.hid vx4
        have KW := Lib.hid (KA.out.trans k4)
        obtain ⟨b0, b1, b2, b3⟩ := cell4 (k4 _ _ HX0.out)
        have CALL := Lib.hid (fun W (hW : VX w0 W R M L (X ++ btw)) => WC.out W (X ++ btw) (by omega) (by rw [ByteArray.size_append]; have := hXt; simp at this; omega) hW)
        clear own4 gr4 hne4 vx4 k4 CL2 OWN2 WC VA z2
        go_wp2_with fail
        refine (CALL.out _ VXW.out).mono ?_; rintro e w6 ⟨rfl, vx6, k6⟩
        have VX6 : Hid (VX w0 w6 R M (varsL (args.take (j + 1 + 1)) l) (s ++ ⟨#[40]⟩ ++ txtL true btw (args.take (j + 1 + 1)) l)) := Lib.hid (by rw [HTV.out, HTX.out]; exact vx6.out)
        have K6 := Lib.hid ((KR.out.trans KW.out).trans k6.out)
        clear vx6 k6 CALL b0 b1 b2 b3
        go_wp2
        go_roundw
        case rel => exact ⟨j + 1 + 1, by omega, by go_num, VX6, K6⟩
        case measure => simp [intOf]; omega
    · have hge : ¬ (k : Int) < (args.length : Int) := by omega
      obtain rfl : k = args.length := by omega
      have VF : Hid (VX w0 wr R M (varsL args l) (s ++ ⟨#[40]⟩ ++ txtL true btw args l)) := Lib.hid (by have := VR.out; rwa [List.take_length] at this)
      obtain ⟨X, hX⟩ : ∃ X, X = s ++ ⟨#[40]⟩ ++ txtL true btw args l := ⟨_, rfl⟩
      have hXs : X.size = s.size + 1 + (txtL true btw args l).size := by rw [hX, ByteArray.size_append, ByteArray.size_append]; rfl
      have hXb : X.size ≤ 900000 := by have := hs; omega
      clear hXs
      rw [← hX] at VF ⊢
      obtain ⟨A2, c2, z2, own2, hB2, cl2⟩ := vx_open VF.out
      have OWN2 := Lib.hid own2
      have CL2 := Lib.hid cl2
      have HXX := Lib.hid hX
      clear own2 cl2 hX HWR HRW TT1 TT2
      go_wp2_with (at_builtin; refine Lib.wpList_append_own_string _ rfl (.tmp 51) (.tmp 52) 81 9 rfl w0.heap.size 5 i0 Tryz.underlying81 Tryz.underlying9 hi hz0 hz1 hz2 _ _ _ rfl OWN2.out fin rfl (by unfold maxLen; omega) (by omega) hB2 ?_)
      intro v4 w4 own4 gr4 hne4
      obtain ⟨y4, g4, vx4, k4⟩ := CL2.out fin v4 w4 own4 gr4
      obtain ⟨A4, c4, rfl⟩ := own_form own4
      have VXW := Lib.hid vx4
      have KW := Lib.hid ((K2.out.trans KR.out).trans k4)
      clear own4 gr4 hne4 vx4 k4 CL2 OWN2 z2
      go_wp2
      go_ret
      exact ⟨rfl, Lib.hid (by rw [← HXX.out]; exact VXW.out), KW⟩
end Go.Proofs.YtifopogkbjhkjaaGreatDoor
