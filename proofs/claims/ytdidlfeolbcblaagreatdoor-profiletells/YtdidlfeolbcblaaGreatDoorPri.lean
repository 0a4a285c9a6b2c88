/- Layer 9: what came in, as it is read: three bytes by value, params by value. -/
import Derived.Test.YtdidlfeolbcblaaGreatDoorPrf
import Derived.Test.YtdidlfeolbcblaaGreatDoorArr
import Derived.Laws.IdiomArrays
import Derived.Deep.Strs
import Derived.OpenShut
namespace Go.Proofs.YtdidlfeolbcblaaGreatDoor
open Go.RowKit Go.ChangeShapes

theorem three_in {H : Type} {enc : TypeId × Value → H} {W : World} {base : Nat} {sp : Nat → Bool} {held : Bool} {fuel : Nat} {c0 c1 c2 : Value} {x : DataW H × List MemPlace}
    (h : DataW.trod enc Tryz.prog W base sp held fuel 51 [c0, c1, c2] = some x) : ∃ a b c, c0 = .int .u8 a ∧ c1 = .int .u8 b ∧ c2 = .int .u8 c ∧ (0 ≤ a ∧ a ≤ 255) ∧ (0 ≤ b ∧ b ≤ 255) ∧ (0 ≤ c ∧ c ≤ 255) := by
  obtain ⟨y0, y1, y2, m, hx, hy0, hy1, hy2⟩ := trod_array3 Tryz.underlying51 (by kernel_rfl) h
  obtain ⟨x0, e0, rfl, wx0⟩ := DataW.trod_int Tryz.underlying5 hy0
  obtain ⟨x1, e1, rfl, wx1⟩ := DataW.trod_int Tryz.underlying5 hy1
  obtain ⟨x2, e2, rfl, wx2⟩ := DataW.trod_int Tryz.underlying5 hy2
  simp at e0 e1 e2
  exact ⟨x0, x1, x2, e0, e1, e2, bounds_u8 wx0, bounds_u8 wx1, bounds_u8 wx2⟩

theorem params_in {H : Type} {enc : TypeId × Value → H} {W : World} {base : Nat} {sp : Nat → Bool} {held : Bool} {fuel : Nat} {c0 c1 c2 : Value} {x : DataW H × List MemPlace}
    (h : DataW.trod enc Tryz.prog W base sp held fuel 23 [c0, c1, c2] = some x) : ∃ a b c, c0 = .int .i64 a ∧ c1 = .int .i64 b ∧ c2 = .int .i64 c := by
  obtain ⟨y0, y1, y2, m, hx, _, hy0, hy1, hy2⟩ := Deep.trod_struct3 Tryz.underlying23 h
  have hc : Tryz.prog.cellsOf 3 = 1 := by kernel_rfl
  dsimp only at hy0 hy1 hy2
  rw [hc] at hy0 hy1 hy2
  replace hy0 : DataW.trod enc Tryz.prog W base sp held m 3 [c0] = some y0 := hy0
  replace hy1 : DataW.trod enc Tryz.prog W base sp held m 3 [c1] = some y1 := hy1
  replace hy2 : DataW.trod enc Tryz.prog W base sp held m 3 [c2] = some y2 := hy2
  obtain ⟨x0, e0, rfl, wx0⟩ := DataW.trod_int Tryz.underlying3 hy0
  obtain ⟨x1, e1, rfl, wx1⟩ := DataW.trod_int Tryz.underlying3 hy1
  obtain ⟨x2, e2, rfl, wx2⟩ := DataW.trod_int Tryz.underlying3 hy2
  simp at e0 e1 e2
  exact ⟨x0, x1, x2, e0, e1, e2⟩
end Go.Proofs.YtdidlfeolbcblaaGreatDoor
