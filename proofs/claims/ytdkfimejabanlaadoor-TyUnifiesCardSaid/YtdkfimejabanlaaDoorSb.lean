import Derived.Test.YtdkfimejabanlaaDoorSa
namespace Go.Proofs.YtdkfimejabanlaaDoor
open Go.ChangeShapes Go.WideShapes Go.ChangeAt Go.RowKit Go.WideMaps
set_option linter.unusedVariables false
set_option linter.unusedSimpArgs false
mutual
/-- what a type's text is, where l has come up so far. -/
def txt : TT → List Int → ByteArray
  | .mk k nm vr args, l => if k = 1 then ⟨#[105, 110, 116]⟩ else if k = 2 then ⟨#[98, 111, 111, 108]⟩ else if k = 3 then ⟨#[117, 110, 105, 116]⟩ else if k = 4 then nm
    else if k = 5 then ⟨#[40]⟩ ++ txtL true ⟨#[32, 45, 62, 32]⟩ args l ++ ⟨#[41]⟩ else if k = 6 then ⟨#[40]⟩ ++ txtL true ⟨#[]⟩ args l ++ ⟨#[32, 114, 101, 102, 41]⟩ else letT (posV (addV l vr) vr + 1)
def txtL : Bool → ByteArray → List TT → List Int → ByteArray
  | _, _, [], _ => ⟨#[]⟩
  | first, btw, a :: r, l => (if first then ⟨#[]⟩ else btw) ++ txt a l ++ txtL false btw r (varsT a l)
end
theorem txt_eq (V : TT) (l : List Int) : txt V l = if V.k = 1 then ⟨#[105, 110, 116]⟩ else if V.k = 2 then ⟨#[98, 111, 111, 108]⟩ else if V.k = 3 then ⟨#[117, 110, 105, 116]⟩ else if V.k = 4 then V.nm
    else if V.k = 5 then ⟨#[40]⟩ ++ txtL true ⟨#[32, 45, 62, 32]⟩ V.args l ++ ⟨#[41]⟩ else if V.k = 6 then ⟨#[40]⟩ ++ txtL true ⟨#[]⟩ V.args l ++ ⟨#[32, 114, 101, 102, 41]⟩ else letT (posV (addV l V.vr) V.vr + 1) := by cases V; rw [txt]; rfl
theorem ba_nil (a : ByteArray) : a ++ ⟨#[]⟩ = a := by
  apply ByteArray.ext
  rw [ByteArray.data_append]; simp
theorem txtL_take (btw : ByteArray) : ∀ (args : List TT) (first : Bool) (l : List Int) (k : Nat) (h : k < args.length), txtL first btw (args.take (k + 1)) l = txtL first btw (args.take k) l ++ ((if (first && k == 0) = true then ⟨#[]⟩ else btw) ++ txt args[k] (varsL (args.take k) l))
  | a :: r, first, l, 0, h => by
    simp only [List.take_succ_cons, List.take_zero, txtL, varsL, List.getElem_cons_zero]
    rw [ba_nil]
    cases first
    · simp; rw [show (⟨#[]⟩ : ByteArray) = ByteArray.empty from rfl]; simp
    · simp; rw [show (⟨#[]⟩ : ByteArray) = ByteArray.empty from rfl]; simp
  | a :: r, first, l, k + 1, h => by
    have ih := txtL_take btw r false (varsT a l) k (by simpa using h)
    simp only [List.take_succ_cons, txtL, varsL, List.getElem_cons_succ]
    rw [ih]
    simp [ByteArray.append_assoc]
end Go.Proofs.YtdkfimejabanlaaDoor
