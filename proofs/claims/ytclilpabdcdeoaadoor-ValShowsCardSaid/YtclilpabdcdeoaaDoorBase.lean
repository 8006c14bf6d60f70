import Derived.Test.YtclilpabdcdeoaaDoorRows
import Derived.WalkKit
import Derived.WalkLawsBesides
import Derived.Handy
import Derived.ProofKit
import Derived.OpenShut
import Derived.Lib.Hide
import Derived.Lib.AppendStr
import Derived.BigQuiet
import Derived.Deep.QuietTactic
import Derived.Deep.RegionWith
namespace Go.Proofs.YtclilpabdcdeoaaDoor
open Go.ChangeShapes Go.WideShapes Go.ChangeAt Go.RowKit
def wrap63 (n : Int) : Int := wrap64 (n * 2) / 2
def num (k n : Int) : Value := .agg #[.int .i64 k, .int .i64 n, .string .empty, .slice none 0 0, .int .i64 0, .pointer none, .int .i64 0]
theorem wrap_any (n : Int) (w : World) : Calls Tryd.prog 19 #[.int .i64 n] w fun e w' => e = .returned (.int .i64 (wrap63 n)) ∧ w = w' := by
  go_enter Tryd.func19, Tryd.ntmps19
  go_wp2
  go_ret
  exact ⟨rfl, rfl⟩
theorem op_add (a b : Int) (w : World) : Calls Tryd.prog 10 #[.string ⟨#[43]⟩, .int .i64 a, .int .i64 b] w fun e w' => e = .returned (.tuple #[num 1 (wrap63 (wrap64 (a + b))), .bool true]) ∧ Below w.heap.size w w' := by
  go_enter Tryd.func10, Tryd.ntmps10
  go_wp2
  go_returns
  exact ⟨rfl, (Below.refl _ _).alloc (Nat.le_refl _) _⟩
theorem info5 : (Tryd.prog.info? 5).map (fun i => (i.zero, i.size, i.bytes)) = some (some (.int .u8 0), 1, 1) := by kernel_rfl
def tru : ByteArray := ⟨#[116, 114, 117, 101]⟩
def Owned (w w' : World) (n : Nat) (xs : List Value) (e : Ending) : Prop := ∃ g cap, e = .returned (.slice (some ⟨g, 0, none⟩) n cap) ∧ w'.ownsRow w.heap.size 5 1 (.slice (some ⟨g, 0, none⟩) n cap) n xs ∧ Below w.heap.size w w'
theorem abool43 (w : World) : Calls Tryd.prog 43 #[.slice none 0 0, .bool true] w fun e w' => Owned w w' 4 (Lib.strCells tru) e := by
  obtain ⟨i0, hi, hz0, hz1, hz2⟩ := info_parts info5
  go_enter Tryd.func43, Tryd.ntmps43
  go_wp2_with (at_builtin; refine Lib.wpList_append_own_string _ rfl (.tmp 6) (.const (.string ⟨#[116, 114, 117, 101]⟩)) 77 9 rfl w.heap.size 5 i0 Tryd.underlying77 Tryd.underlying9 hi hz0 hz1 hz2 _ _ _ rfl (World.ownsRow_nil _ _ _ _) tru rfl (by decide) (by decide) (Nat.le_refl _) ?_)
  intro v' w1 own gr hn
  have hne : v' ≠ .slice none 0 0 := fun e => absurd (congrArg ByteArray.size (hn.1 e)) (by decide)
  obtain ⟨g, cap, rfl⟩ : ∃ g cap, v' = .slice (some ⟨g, 0, none⟩) 4 cap := by
    rcases own.2 with ⟨e, _⟩ | ⟨g, cap, _, e, _⟩
    · exact absurd e hne
    · exact ⟨g, cap, e⟩
  have OWN := Lib.hid own; clear own
  go_wp2
  go_ret
  exact ⟨g, cap, rfl, OWN.out, ⟨gr.os, gr.tape, gr.output, gr.size, fun k hk => gr.block k hk (by simp [Value.ownBlock])⟩⟩
theorem abool37 (w : World) : Calls Tryd.prog 37 #[.slice none 0 0, .bool true] w fun e w' => Owned w w' 4 (Lib.strCells tru) e := by
  go_enter Tryd.func37, Tryd.ntmps37
  go_wp2_with fail
  refine (abool43 _).mono ?_
  rintro e w' ⟨g, cap, rfl, own, hb⟩
  have OWN := Lib.hid own; clear own
  go_wp2
  go_ret
  exact ⟨g, cap, rfl, OWN.out, hb⟩
def tyB : Value := .agg #[.int .i64 2, .string .empty, .int .i64 0, .slice none 0 0]
def ValB (w : World) (R : Nat) (e : Ending) (w' : World) : Prop := ∃ g cap w1 B, e = .returned (.tuple #[]) ∧ w' = w1.setCell ⟨R, 2, none⟩ (.slice (some ⟨g, 0, none⟩) 4 cap) ∧ w1.ownsRow B 5 1 (.slice (some ⟨g, 0, none⟩) 4 cap) 4 (Lib.strCells tru) ∧ w.heap.size ≤ B ∧ Below w.heap.size w w1
set_option maxHeartbeats 2000000 in
theorem value_b (w : World) (R V : Nat) (c2 : w.cell? ⟨R, 2, none⟩ = some (.slice none 0 0)) (f2 : w.frozen? ⟨R, 2, none⟩ = false) (v0 : w.cell? ⟨V, 0, none⟩ = some (.int .i64 2)) (v1 : w.cell? ⟨V, 1, none⟩ = some (.int .i64 1)) (hR : R < w.heap.size) (hV : V < w.heap.size) :
    Calls Tryd.prog 31 #[.pointer (some ⟨R, 0, none⟩), .pointer (some ⟨V, 0, none⟩), tyB, .int .i64 0] w fun e w' => ValB w R e w' := by
  unfold tyB
  have HAC : Hid (∀ o, (w.alloc o).cell? ⟨R, 2, none⟩ = some (.slice none 0 0)) := Lib.hid (fun o => (((Below.refl w.heap.size w).alloc (Nat.le_refl _) o).cell (p := ⟨R, 2, none⟩) hR).trans c2)
  have HAF : Hid (∀ o, (w.alloc o).frozen? ⟨R, 2, none⟩ = false) := Lib.hid (fun o => (((Below.refl w.heap.size w).alloc (Nat.le_refl _) o).frozen (p := ⟨R, 2, none⟩) hR).trans f2)
  go_enter Tryd.func31, Tryd.ntmps31
  go_wp2
  go_quiet (fail)
  go_wp2
  go_region_with (go_at_call 37; refine (abool37 _).mono ?_; rintro e w1 ⟨g, cap, rfl, own, hb⟩; have zc := (hb.cell (p := ⟨R, 2, none⟩) (Nat.lt_of_lt_of_le hR (by show w.heap.size ≤ (w.heap.push _).size; simp))).trans (HAC.out _); have zf := (hb.frozen (p := ⟨R, 2, none⟩) (Nat.lt_of_lt_of_le hR (by show w.heap.size ≤ (w.heap.push _).size; simp))).trans (HAF.out _); have OWN := Lib.hid own; have HB := Lib.hid hb; clear own hb)
  all_goals
    go_wp2
    go_returns
    exact ⟨g, cap, w1, _, rfl, rfl, OWN.out, (by show w.heap.size ≤ (w.heap.push _).size; simp), ((Below.refl w.heap.size w).alloc (Nat.le_refl _) _).trans ⟨HB.out.os, HB.out.tape, HB.out.output, HB.out.size, fun k hk => HB.out.block k (Nat.lt_of_lt_of_le hk (by show w.heap.size ≤ (w.heap.push _).size; simp))⟩⟩
set_option maxRecDepth 100000 in
set_option maxHeartbeats 2000000 in
theorem render_b (w : World) : Calls Tryd.prog 14 #[num 2 1, tyB, .slice none 0 0, .slice none 0 0] w fun e w' => e = .returned (.string ⟨#[116, 114, 117, 101]⟩) ∧ Below w.heap.size w w' := by
  unfold num tyB
  go_enter Tryd.func14, Tryd.ntmps14
  go_wp2_with fail
  refine (value_b _ (w.heap.size + 1 + 1) w.heap.size ?_ ?_ ?_ ?_ ?_ ?_).mono ?_
  rotate_right
  · rintro e w' ⟨g, cap, w1, B, rfl, rfl, own, hB, hb⟩
    have hgl := own.lt g rfl
    have hRB : w.heap.size + 1 + 1 < B := by simp at hB; omega
    have hgR : g ≠ w.heap.size + 1 + 1 := by omega
    have own2 := ownsRow_setCell_other own (a := ⟨w.heap.size + 1 + 1, 2, none⟩) (by simp [Value.ownBlock]; exact hgR) (.slice (some ⟨g, 0, none⟩) 4 cap)
    have hconv : (convert 77 9 (.slice (some ⟨g, 0, none⟩) 4 cap)).run Tryd.prog (w1.setCell ⟨w.heap.size + 1 + 1, 2, none⟩ (.slice (some ⟨g, 0, none⟩) 4 cap)) = .ok (.string ⟨#[116, 114, 117, 101]⟩) (w1.setCell ⟨w.heap.size + 1 + 1, 2, none⟩ (.slice (some ⟨g, 0, none⟩) 4 cap)) := run_convert_bytes_back (P := Tryd.prog) (w1.setCell ⟨w.heap.size + 1 + 1, 2, none⟩ (.slice (some ⟨g, 0, none⟩) 4 cap)) 77 9 5 ⟨g, 0, none⟩ cap [116, 114, 117, 101] Tryd.underlying77 Tryd.underlying5 Tryd.underlying9 (fun j hj => by
      have := own2.cells (g := g) rfl j (.int .u8 (([116, 114, 117, 101] : List UInt8)[j].toNat : Int)) (by match j, hj with
          | 0, _ => rfl
          | 1, _ => rfl
          | 2, _ => rfl
          | 3, _ => rfl
          | n + 4, h => exact absurd h (by simp only [List.length_cons, List.length_nil]; omega))
      exact this)
    have hlt : w.heap.size + 1 + 1 < w1.heap.size := by have := hb.size; simp at this; omega
    have zc : w1.cell? ⟨w.heap.size + 1 + 1, 2, none⟩ = some (.slice none 0 0) := by
      rw [hb.cell (p := ⟨w.heap.size + 1 + 1, 2, none⟩) (by simp)]; go_simp
    have hb0 : Below w.heap.size w w1 := ((((Below.refl w.heap.size w).alloc (Nat.le_refl _) _).alloc (by simp) _).alloc (by simp; omega) _).trans (hb.mono (by simp; omega))
    have hb1 := hb0.setCell (p := ⟨w.heap.size + 1 + 1, 2, none⟩) (by show w.heap.size ≤ w.heap.size + 1 + 1; omega) (.slice (some ⟨g, 0, none⟩) 4 cap)
    have HB1 := Lib.hid hb1
    clear own own2 hb hb0 hb1
    go_wp2
    go_ret
    exact ⟨rfl, HB1.out⟩
  all_goals first | go_simp | (simp; done) | (simp; omega)
end Go.Proofs.YtclilpabdcdeoaaDoor
