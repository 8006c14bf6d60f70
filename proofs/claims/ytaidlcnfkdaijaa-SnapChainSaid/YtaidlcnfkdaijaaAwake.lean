import Derived.Test.YtaidlcnfkdaijaaRefA
import Derived.Test.YtaidlcnfkdaijaaSum
import Derived.Laws.BytesArg
import Derived.Lib.SlBytesConst
namespace Go.Proofs.Ytaidlcnfkdaijaa
open Go.ChangeShapes Go.WideShapes Go.ChangeAt Go.RowKit
set_option linter.unusedVariables false
theorem lit_cells (w : World) (xs : List Nat) (f : Nat × Nat) : ∀ j, j < xs.length → (w.alloc (.cells (bys xs).toArray 5 f)).cell? ⟨w.heap.size, 0 + j, none⟩ = some (.int .u8 (xs.getD j 0 : Nat)) := by
  intro j hj
  have := (MapKept.heap_alloc w (Obj.cells (bys xs).toArray 5 f)).1
  unfold World.cell?
  rw [this]
  simp [bys, hj]
theorem awake_apply (w : World) (f : Nat × Nat) : Calls Try.prog 9 #[.slice (some ⟨w.heap.size, 0, none⟩) 3 3, .slice (some ⟨w.heap.size + 1, 0, none⟩) 6 6] ((w.alloc (.cells #[.int .u8 97, .int .u8 98, .int .u8 99] 5 f)).alloc (.cells #[.int .u8 1, .int .u8 0, .int .u8 2, .int .u8 2, .int .u8 1, .int .u8 120] 5)) fun e w' => ∃ g cap, e = .returned (.tuple #[.slice (some ⟨g, 0, none⟩) 3 cap, .int .i64 0]) ∧ Below w.heap.size w w' ∧ w'.ownsRow w.heap.size 5 1 (.slice (some ⟨g, 0, none⟩) 3 cap) 3 (bys [97, 98, 120]) := by
  have s1 : (w.alloc (.cells #[.int .u8 97, .int .u8 98, .int .u8 99] 5 f)).heap.size = w.heap.size + 1 := by simp
  have h1 := lit_cells w [97, 98, 99] f
  have h2 := lit_cells (w.alloc (.cells #[.int .u8 97, .int .u8 98, .int .u8 99] 5 f)) [1, 0, 2, 2, 1, 120] (0, 0)
  rw [s1] at h2
  have hb := below_alloc (w.alloc (.cells #[.int .u8 97, .int .u8 98, .int .u8 99] 5 f)) (.cells #[.int .u8 1, .int .u8 0, .int .u8 2, .int .u8 2, .int .u8 1, .int .u8 120] 5)
  have ps : PS [97, 98, 99] [1, 0, 2, 2, 1, 120] = some [[97, 98], [120]] := by decide +kernel
  refine (apply_any (no := 3) (n := 6) (h := w.heap.size + 1) (o := 0) (old := [97, 98, 99]) (b := [1, 0, 2, 2, 1, 120]) rfl (fun _ => ⟨rfl, by simp, h2⟩) (by omega) (by omega) rfl (by omega) (by omega) (fun _ => ⟨w.heap.size, 0, rfl, by simp; omega, fun j hj => ?_⟩)).mono ?_
  · exact (hb.cell (p := ⟨w.heap.size, 0 + j, none⟩) (by simp)).trans (h1 j hj)
  · intro e w' hp
    unfold APost at hp
    rw [ps] at hp
    obtain ⟨v, he, hbb, own⟩ := hp
    rcases own_open (own_mono own (show w.heap.size ≤ _ by simp; omega)) with ⟨_, h⟩ | ⟨g, cap, rfl, _, hg, hc, hcell⟩
    · cases h
    · exact ⟨g, cap, he, bt (bt (below_alloc w _) hb) hbb, own_mono own (by simp; omega)⟩
theorem awake_sum (w : World) (f : Nat × Nat) : Calls Try.prog 11 #[.slice (some ⟨w.heap.size, 0, none⟩) 1 1] (w.alloc (.cells #[.int .u8 97] 5 f)) fun e w' => e = .returned (.int .u64 12638187200555641996) ∧ Below w.heap.size w w' := by
  have s : sumG [97] 1 = 12638187200555641996 := by decide +kernel
  have h := sum_any (w := w.alloc (.cells #[.int .u8 97] 5 f)) (h := w.heap.size) (o := 0) (cap := 1) (xs := [97]) (lit_cells w [97] f) (by simp)
  refine h.mono ?_
  rintro e w' ⟨he, rfl⟩
  exact ⟨by rw [he]; simp [s], below_alloc w _⟩
set_option maxRecDepth 100000 in
set_option maxHeartbeats 4000000 in
theorem awake (w : World) : Calls Try.prog 8 #[] w fun e w' => e = .returned (.bool true) ∧ Below w.heap.size w w' := by
  have kc := fun (w : World) (C : Array Value) (n c : Nat) => Lib.run_convert_bytes_const (P := Try.prog) w 22 5 C n c Try.underlying22 Try.underlying5
  go_enter Try.func8, Try.ntmps8
  go_wp2_with fail
  refine (awake_apply _ _).mono ?_; rintro e w1 ⟨g, cap, rfl, hb, own⟩
  have HB := Lib.hid hb; have OWN := Lib.hid own; clear hb own
  have cv : ∀ o : Obj, (convert 22 9 (.slice (some ⟨g, 0, none⟩) 3 cap)).run Try.prog w1 = .ok (.string { data := #[97, 98, 120] }) w1 := fun o => by
    have := str_own OWN.out
    rw [show strB [97, 98, 120] = { data := #[97, 98, 120] } from by rfl] at this
    exact this
  have cv0 := cv (.cells #[] 5)
  clear cv
  go_wp2_with fail
  refine (awake_sum _ _).mono ?_; rintro e w2 ⟨rfl, hb⟩
  have HB2 := Lib.hid (bt HB.out hb); clear hb
  go_wp2
  go_ret
  exact ⟨rfl, HB2.out⟩
end Go.Proofs.Ytaidlcnfkdaijaa
