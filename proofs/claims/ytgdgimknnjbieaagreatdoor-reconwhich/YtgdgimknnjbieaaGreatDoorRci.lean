/- What came in, as it is read: bools, four bytes, a place with bytes. -/
import Derived.Test.YtgdgimknnjbieaaGreatDoorGra
import Derived.Test.YtgdgimknnjbieaaGreatDoorGxx
import Derived.Test.YtgdgimknnjbieaaGreatDoorGxv
import Derived.Deep.Grids
import Derived.ChangeSame
namespace Go.Proofs.YtgdgimknnjbieaaGreatDoor
open Go.RowKit Go.ChangeShapes

/-- bools that came in -/
def IsBools (w : World) (a : Option Addr) (len cap : Nat) : Prop := ∃ h : Nat → Bool, len ≤ cap ∧ ∀ b, w.heap.size ≤ b → Rd b w (bls h) a len
theorem bools_in {H : Type} {enc : TypeId × Value → H} {W : World} {base : Nat} {held : Bool} {fuel : Nat} {a : Option Addr} {len cap : Nat} {x : DataW H × List MemPlace}
    (h : DataW.trod enc Tryz.prog W base (fun _ => true) held fuel 25 [.slice a len cap] = some x) : IsBools W a len cap := by
  rcases Deep.open_bools Tryz.underlying25 Tryz.underlying4 (by kernel_rfl) h with ⟨hcs, _⟩ | ⟨ad, l, c, B, hcs, _, hl, _, _, hcell⟩
  · simp at hcs
    obtain ⟨rfl, rfl, rfl⟩ := hcs
    exact ⟨fun _ => false, Nat.le_refl _, fun _ _ => Rd.zero⟩
  · simp at hcs
    obtain ⟨rfl, rfl, rfl⟩ := hcs
    refine ⟨B, hl, fun b hb hn => ⟨ad, rfl, ?_, ?_, fun j hj => hcell j (by omega)⟩⟩
    · have := lt_of_cell (hcell 0 (by omega))
      rw [block_of_add] at this
      omega
    · have := lt_of_cell (hcell 0 (by omega))
      rwa [block_of_add] at this

abbrev T4u : Nat := 42

abbrev arr4 (x y z u : Int) : Array Value := #[.int .u8 x, .int .u8 y, .int .u8 z, .int .u8 u]

theorem list4 {α : Type} (l : List α) (h : l.length = 4) : ∃ a b c d, l = [a, b, c, d] := by
  match l, h with
  | [a, b, c, d], _ => exact ⟨a, b, c, d, rfl⟩

theorem list2s {α : Type} (l : List α) (h : l.length = 2) : ∃ a b, l = [a, b] := by
  match l, h with
  | [a, b], _ => exact ⟨a, b, rfl⟩

theorem four_in {H : Type} {enc : TypeId × Value → H} {W : World} {base : Nat} {sp : Nat → Bool} {held : Bool} {fuel : Nat} {c0 c1 c2 c3 : Value} {x : DataW H × List MemPlace}
    (h : DataW.trod enc Tryz.prog W base sp held fuel 42 [c0, c1, c2, c3] = some x) : ∃ a b c d, c0 = .int .u8 a ∧ c1 = .int .u8 b ∧ c2 = .int .u8 c ∧ c3 = .int .u8 d ∧ (0 ≤ a ∧ a ≤ 255) ∧ (0 ≤ b ∧ b ≤ 255) ∧ (0 ≤ c ∧ c ≤ 255) ∧ (0 ≤ d ∧ d ≤ 255) := by
  obtain ⟨y0, y1, y2, y3, m, hx, hy0, hy1, hy2, hy3⟩ := trod_array4 Tryz.underlying42 (by kernel_rfl) h
  obtain ⟨x0, e0, rfl, wx0⟩ := DataW.trod_int Tryz.underlying5 hy0
  obtain ⟨x1, e1, rfl, wx1⟩ := DataW.trod_int Tryz.underlying5 hy1
  obtain ⟨x2, e2, rfl, wx2⟩ := DataW.trod_int Tryz.underlying5 hy2
  obtain ⟨x3, e3, rfl, wx3⟩ := DataW.trod_int Tryz.underlying5 hy3
  simp at e0 e1 e2 e3
  exact ⟨x0, x1, x2, x3, e0, e1, e2, e3, bounds_u8 wx0, bounds_u8 wx1, bounds_u8 wx2, bounds_u8 wx3⟩

/-- a place and bytes that came in -/
theorem change_in {H : Type} {enc : TypeId × Value → H} {W : World} {base : Nat} {held : Bool} {fuel : Nat} {c0 c1 : Value} {x : DataW H × List MemPlace}
    (h : DataW.trod enc Tryz.prog W base (fun _ => true) held fuel 37 [c0, c1] = some x) : ∃ i a len cap, c0 = .int .i64 i ∧ c1 = .slice a len cap ∧ (Lit.int .i64 i).wf = true ∧ IsBytesN W a len cap := by
  obtain ⟨y0, y1, m, hx, _, hy0, hy1⟩ := trod_struct2 Tryz.underlying37 h
  have hc : Tryz.prog.cellsOf 3 = 1 := by kernel_rfl
  have hc2 : Tryz.prog.cellsOf 35 = 1 := by kernel_rfl
  dsimp only at hy0 hy1
  rw [hc] at hy0
  rw [hc2] at hy1
  replace hy0 : DataW.trod enc Tryz.prog W base (fun _ => true) held m 3 [c0] = some y0 := hy0
  replace hy1 : DataW.trod enc Tryz.prog W base (fun _ => true) held m 35 [c1] = some y1 := hy1
  obtain ⟨x0, e0, rfl, wx0⟩ := DataW.trod_int Tryz.underlying3 hy0
  simp at e0
  rcases open_ints Tryz.underlying35 Tryz.underlying5 (by kernel_rfl) hy1 with ⟨hcs, _⟩ | ⟨ad, l, c, zs, hcs, _⟩
  · simp at hcs
    subst hcs
    exact ⟨x0, none, 0, 0, e0, rfl, wx0, bytesn_in hy1⟩
  · simp at hcs
    subst hcs
    exact ⟨x0, some ad, l, c, e0, rfl, wx0, bytesn_in hy1⟩
end Go.Proofs.YtgdgimknnjbieaaGreatDoor
