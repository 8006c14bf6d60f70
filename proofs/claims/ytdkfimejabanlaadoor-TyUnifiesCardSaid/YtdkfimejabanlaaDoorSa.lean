import Derived.Test.YtdkfimejabanlaaDoorTo
import Derived.Test.YtdkfimejabanlaaDoorShelf
import Derived.Lib.ItoaNum
import Derived.Lib.AppendStr
namespace Go.Proofs.YtdkfimejabanlaaDoor
open Go.ChangeShapes Go.WideShapes Go.ChangeAt Go.RowKit Go.WideMaps
set_option linter.unusedVariables false
set_option linter.unusedSimpArgs false
/-- the text of the i-th variable. -/
def letT (i : Nat) : ByteArray := if i ≤ 26 then ⟨#[39, UInt8.ofNat (96 + i)]⟩ else ⟨#[39]⟩ ++ ⟨(Lib.decDigits i).toArray⟩
set_option maxRecDepth 100000 in
set_option maxHeartbeats 1000000 in
theorem letter_any (i : Nat) (h0 : 1 ≤ i) (h1 : i < 100) (w : World) : Calls Tryd.prog 55 #[.int .i64 i] w fun e w' => e = .returned (.string (letT i)) ∧ Below w.heap.size w w' := by
  unfold letT
  by_cases h : i ≤ 26
  · rw [if_pos h]
    obtain ⟨bb, hbb⟩ : ∃ b, b = UInt8.ofNat (96 + i) := ⟨_, rfl⟩
    rw [← hbb]
    have d0 : decide ((26 : Int) < (i : Int)) = false := decide_eq_false (by omega)
    have w1 : IntKind.i64.wrap (97 + (i : Int)) = 97 + (i : Int) := IntWalk.i64_in _ (by omega)
    have w2 : IntKind.i64.wrap (97 + (i : Int) - 1) = 97 + (i : Int) - 1 := IntWalk.i64_in _ (by omega)
    go_enter Tryd.func55, Tryd.ntmps55
    have u1 : (bb.toNat : Int) = 97 + (i : Int) - 1 := by rw [hbb, UInt8.toNat_ofNat']; omega
    clear hbb
    have hb := heap_alloc_new w (.cells #[.int .u8 39, .int .u8 (97 + (i : Int) - 1)] 5)
    have hconv : (convert 67 9 (.slice (some ⟨w.heap.size, 0, none⟩) 2 2)).run Tryd.prog (w.alloc (.cells #[.int .u8 39, .int .u8 (97 + (i : Int) - 1)] 5)) = .ok (.string ⟨#[39, bb]⟩) (w.alloc (.cells #[.int .u8 39, .int .u8 (97 + (i : Int) - 1)] 5)) :=
      run_convert_bytes_back _ 67 9 5 ⟨w.heap.size, 0, none⟩ 2 [39, bb] Tryd.underlying67 Tryd.underlying5 Tryd.underlying9 (fun j hj => by
        match j, hj with
        | 0, _ => show World.cell? _ ⟨w.heap.size, 0, none⟩ = _; unfold World.cell?; rw [hb]; rfl
        | 1, _ => show World.cell? _ ⟨w.heap.size, 1, none⟩ = _; unfold World.cell?; rw [hb]; show some (Value.int .u8 (97 + (i : Int) - 1)) = some (.int .u8 (bb.toNat : Int)); rw [u1])
    go_wp2
    go_ret
    exact ⟨rfl, below_alloc _ _⟩
  · rw [if_neg h]
    have d0 : decide ((26 : Int) < (i : Int)) = true := decide_eq_true (by omega)
    have CI := Lib.hid (Tryd.strconv_Itoa_small i h1)
    have hdl : (Lib.decDigits i).length ≤ 2 := by
      by_cases h10 : i < 10
      · rw [Lib.decDigits_one h10]; simp
      · rw [Lib.decDigits_two h10 h1]; simp
    go_enter Tryd.func55, Tryd.ntmps55
    go_wp2_with fail
    refine (CI.out _).mono ?_; rintro e w1 ⟨rfl, rfl⟩
    go_wp2
    go_ret
    exact ⟨rfl, Below.refl _ _⟩
/-- something is written. -/
theorem vs_text {w w1 : World} {B R M n : Nat} {l : List Int} {f : Int → Option Int} {vv tv tv' : Value} {ts new : List Value} (s : VS w B R M l f n vv tv ts) (gr : w.grownBy w1 tv.ownBlock) (own1 : w1.ownsRow B 5 1 tv' (ts ++ new).length (ts ++ new)) (hB : B ≤ w.heap.size) :
    w1.heap[R]? = some (.cells #[.map (some M), vv, tv] 69 (0, 0)) ∧ VS (w1.setCell ⟨R, 2, none⟩ tv') B R M l f n vv tv' (ts ++ new) ∧ Below B w (w1.setCell ⟨R, 2, none⟩ tv') ∧ KeepT w (w1.setCell ⟨R, 2, none⟩ tv') := by
  obtain ⟨a1, a2, a3, a4, a5, a6⟩ := s.apart
  have fr : Frm w w1 (fun k => tv.ownBlock = some k) := Frm.of_grown gr (fun k h => h)
  have hobj := (fr.block R s.rlt a2).trans s.obj
  have fs : Frm w1 (w1.setCell ⟨R, 2, none⟩ tv') (· = R) := frm_set 2 _ rfl
  have hgR : tv'.ownBlock ≠ some R := fun e => by
    obtain ⟨cur, hc⟩ := own_type own1 e
    rw [hobj] at hc; injection hc with hc; injection hc with _ hc; cases hc
  refine ⟨hobj, ⟨by simp [World.setCell, Array.getElem?_modify, hobj], ?_, ?_, ?_, s.le⟩, ?_⟩
  · exact own_frm (own_frm s.vars fr (fun k h e => a6 k h e)) fs (fun k hk e => a1 (e ▸ hk))
  · exact own_frm own1 fs (fun k hk e => hgR (e ▸ hk))
  · exact (s.mp.frm fr a4).frm fs (fun e => a5 e.symm)
  · refine ⟨(fr.below (fun k hk => (s.text.lt k hk).1) hB).trans (fs.below (fun k hk => by rw [hk]; exact s.le.1) (Nat.le_trans hB fr.size)), (KeepT.of_frm fr (fun k cur hk h => ?_)).trans (KeepT.of_frm fs (fun k cur hk h => ?_))⟩
    · obtain ⟨cur2, hc⟩ := own_type s.text hk
      rw [hc] at h; injection h with h; injection h with _ h; cases h
    · rw [hk, hobj] at h; injection h with h; injection h with _ h; cases h
theorem strCells_app (a b : ByteArray) : Lib.strCells (a ++ b) = Lib.strCells a ++ Lib.strCells b := by
  unfold Lib.strCells
  rw [ByteArray.data_append, Array.toList_append, List.map_append]
theorem infoU : (Tryd.prog.info? 5).map (fun i => (i.zero, i.size, i.bytes)) = some (some (.int .u8 0), 1, 1) := by kernel_rfl
/-- the visitor, with a text. -/
def VX (w0 w : World) (R M : Nat) (l : List Int) (s : ByteArray) : Prop := VSt w0 w R M l (Lib.strCells s)
/-- what the walk needs where something is appended: the row, and what is when it is written. -/
theorem vx_open {w0 w : World} {R M : Nat} {l : List Int} {s : ByteArray} (h : VX w0 w R M l s) : ∃ A c, w.cell? ⟨R, 2, none⟩ = some (.slice A s.size c) ∧ w.ownsRow w0.heap.size 5 1 (.slice A s.size c) s.size (Lib.strCells s) ∧ w0.heap.size ≤ w.heap.size ∧
    (∀ (t : ByteArray) (tv' : Value) (w1 : World), w1.ownsRow w0.heap.size 5 1 tv' (s.size + t.size) (Lib.strCells s ++ Lib.strCells t) → w.grownBy w1 (Value.ownBlock (.slice A s.size c)) → w1.cell? ⟨R, 2, none⟩ = some (.slice A s.size c) ∧ w1.frozen? ⟨R, 2, none⟩ = false ∧ VX w0 (w1.setCell ⟨R, 2, none⟩ tv') R M l (s ++ t) ∧ KeepT w (w1.setCell ⟨R, 2, none⟩ tv')) := by
  obtain ⟨vv, tv, v, b⟩ := h
  obtain ⟨A, c, rfl⟩ := vform v.text
  rw [Lib.strCells_length] at v
  have ht := v.text
  rw [Lib.strCells_length] at ht
  refine ⟨A, c, v.cells.2.2.1, ht, b.size, fun t tv' w1 own1 gr => ?_⟩
  obtain ⟨h1, h2, h3, h4⟩ := vs_text (new := Lib.strCells t) v gr (by rw [List.length_append, Lib.strCells_length, Lib.strCells_length]; exact own1) b.size
  refine ⟨by simp [World.cell?, h1], by simp [World.frozen?, h1], ⟨vv, tv', ?_, b.trans h3⟩, h4⟩
  rw [strCells_app]; exact h2
end Go.Proofs.YtdkfimejabanlaaDoor
