/- The tie of the tables that the card lists to the program's text: its closed facts, a part: no place is listed twice. -/
import Derived.Test.YtfkidblfgdkcdaaGreatDoorRows
import Derived.LaidByTextLater
import Derived.SevenTiedAt
import Derived.Test.YtfkidblfgdkcdaaGreatDoorTwl
namespace Go.Proofs.YtfkidblfgdkcdaaGreatDoor
open Go
def pcode (p : MemPlace) : Option Nat := match p with
  | .cell b off => if off < 4096 then some (b * 4096 + off) else none
  | _ => none
theorem pcode_inj {p q : MemPlace} {c : Nat} (h : pcode p = some c) (k : pcode q = some c) : p = q := by
  unfold pcode at h k
  split at h
  · split at k
    · split at h
      · split at k
        · injection h with h; injection k with k
          congr 1 <;> omega
        · cases k
      · cases h
    · cases k
  · cases h
noncomputable def freshB (l : List MemPlace) : Nat → Bool := List.rec (motive := fun _ => Nat → Bool) (fun _ => true) (fun p _ ih m => match pcode p with
  | some c => !(m.testBit c) && ih (m ||| (1 <<< c))
  | none => false) l
theorem freshB_nodup : ∀ (l : List MemPlace) (m : Nat), freshB l m = true → l.Nodup ∧ ∀ p ∈ l, ∃ c, pcode p = some c ∧ m.testBit c = false
  | [], m, _ => ⟨List.nodup_nil, fun p hp => by cases hp⟩
  | p :: l, m, h => by
    change (match pcode p with
      | some c => !(m.testBit c) && freshB l (m ||| (1 <<< c))
      | none => false) = true at h
    split at h
    · rename_i c hc
      rw [Bool.and_eq_true] at h
      obtain ⟨h1, h2⟩ := h
      obtain ⟨k1, k2⟩ := freshB_nodup l _ h2
      have hm : m.testBit c = false := by simpa using h1
      refine ⟨List.nodup_cons.2 ⟨fun hp => ?_, k1⟩, fun q hq => ?_⟩
      · obtain ⟨c', e1, e2⟩ := k2 p hp
        rw [hc] at e1
        injection e1 with e1
        subst e1
        rw [Nat.testBit_or, Nat.testBit_shiftLeft] at e2
        simp at e2
      · rcases List.mem_cons.1 hq with e | e
        · subst e; exact ⟨c, hc, hm⟩
        · obtain ⟨c', e1, e2⟩ := k2 q e
          refine ⟨c', e1, ?_⟩
          rw [Nat.testBit_or] at e2
          cases hb : m.testBit c' with
          | false => rfl
          | true => rw [hb] at e2; simp at e2
    · cases h
theorem tw_2a : ∀ os tape, (DataW.laidRun Tryz.prog (varsWorld Tryz.prog 400 (varsId Tryz.prog) os tape).memory 8 (twLaid.map (·.1))).map (fun x => freshB x.2 0) = some true := fun _ _ => by kernel_rfl
end Go.Proofs.YtfkidblfgdkcdaaGreatDoor
