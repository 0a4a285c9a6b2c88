/- An array of two one-cell elements, as an argument is read. -/
import Derived.ChangeSame
import Derived.ChangeShapes
namespace Go.Proofs.YtbhpfdikkknijaaDoor
open Go.ChangeShapes

theorem two_cells {H : Type} {enc : TypeId × Value → H} {P : Program} {w : World} {base : Nat} {sp : Nat → Bool} {held : Bool} {t e : TypeId} {fuel : Nat} {c0 c1 : Value} {x : DataW H × List MemPlace}
    (ht : P.underlying t = some (.array 2 e)) (hce : P.cellsOf e = 1) (h : DataW.trod enc P w base sp held fuel t [c0, c1] = some x) :
    ∃ n y0 y1, DataW.trod enc P w base sp held n e [c0] = some y0 ∧ DataW.trod enc P w base sp held n e [c1] = some y1 := by
  match fuel, h with
  | 0, h => simp [DataW.trod] at h
  | n + 1, h =>
    unfold DataW.trod at h
    rw [ht] at h
    simp [show List.range 2 = [0, 1] from rfl, hce] at h
    refine ⟨n, ?_⟩
    rcases e0 : DataW.trod enc P w base sp held n e [c0] with _ | y0
    · simp [e0] at h
    · rcases e1 : DataW.trod enc P w base sp held n e [c1] with _ | y1
      · simp [e0, e1] at h
      · exact ⟨y0, y1, rfl, rfl⟩

theorem list2 {α : Type} (l : List α) (h : l.length = 2) : ∃ a b, l = [a, b] := by
  match l, h with
  | [a, b], _ => exact ⟨a, b, rfl⟩
theorem list3 {α : Type} (l : List α) (h : l.length = 3) : ∃ a b c, l = [a, b, c] := by
  match l, h with
  | [a, b, c], _ => exact ⟨a, b, c, rfl⟩
end Go.Proofs.YtbhpfdikkknijaaDoor
