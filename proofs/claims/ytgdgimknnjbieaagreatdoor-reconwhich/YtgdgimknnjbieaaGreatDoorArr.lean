/- An array of two one-cell elements, as an argument is read. -/
import Derived.ChangeSame
import Derived.ChangeShapes
namespace Go.Proofs.YtgdgimknnjbieaaGreatDoor
open Go.ChangeShapes

theorem list3 {α : Type} (l : List α) (h : l.length = 3) : ∃ a b c, l = [a, b, c] := by
  match l, h with
  | [a, b, c], _ => exact ⟨a, b, c, rfl⟩
end Go.Proofs.YtgdgimknnjbieaaGreatDoor
