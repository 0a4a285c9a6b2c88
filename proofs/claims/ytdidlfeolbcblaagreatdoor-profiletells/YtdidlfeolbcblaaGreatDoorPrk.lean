/- Layer 9: structs in boxes; the table's rows, written out. -/
import Derived.Test.YtdidlfeolbcblaaGreatDoorPrf
import Derived.Test.YtdidlfeolbcblaaGreatDoorGxh
import Derived.Laws.Rows
namespace Go.Proofs.YtdidlfeolbcblaaGreatDoor
open Go.RowKit

theorem one_box {w v : World} {x : Array Value} {t : Nat} (h : w.alloc (.cells x t) = v) : v.heap.size = w.heap.size + 1 ∧ v.heap[w.heap.size]? = some (.cells x t (0, 0)) ∧ Below w.heap.size w v := by
  subst h
  exact ⟨by simp, World.alloc_heap_new w _, below_alloc w _⟩
theorem two_boxes {w v : World} {x y : Array Value} {t u : Nat} (h : (w.alloc (.cells x t)).alloc (.cells y u) = v) :
    v.heap.size = w.heap.size + 2 ∧ v.heap[w.heap.size]? = some (.cells x t (0, 0)) ∧ v.heap[w.heap.size + 1]? = some (.cells y u (0, 0)) ∧ Below w.heap.size w v := by
  obtain ⟨v1, h1⟩ : ∃ v1, w.alloc (.cells x t) = v1 := ⟨_, rfl⟩
  rw [h1] at h
  obtain ⟨s1, e1, b1⟩ := one_box h1
  obtain ⟨s2, e2, b2⟩ := one_box h
  refine ⟨by omega, (b2.block _ (by omega)).trans e1, by rw [← s1]; exact e2, below_tr b1 b2⟩
theorem kept_box {w w' : World} {g : Nat} {o : Obj} (h : w.heap[g]? = some o) (hb : Below w.heap.size w w') : w'.heap[g]? = some o :=
  (hb.block g (by
    rcases Nat.lt_or_ge g w.heap.size with hl | hl
    · exact hl
    · rw [Array.getElem?_eq_none hl] at h; cases h)).trans h
theorem box_at {w : World} {g i : Nat} {cs : Array Value} {t : Nat} {fr : Nat × Nat} {x : Value} (h : w.heap[g]? = some (.cells cs t fr)) (hx : cs[i]? = some x) : w.cell? ⟨g, i, none⟩ = some x :=
  (cell_of_row w g i cs t fr h).trans hx
theorem Rd.above {g b : Nat} {W : World} {K : Nat → Value} {A : Option Addr} {n : Nat} (h : Rd g W K A n) (hb : W.heap.size ≤ b) : Rd b W K A n := fun hn => by
  obtain ⟨ad, h1, _, h3, h4⟩ := h hn
  exact ⟨ad, h1, by omega, h3, h4⟩
/-- rows lie apart from a block that wasn't there -/
theorem Mx.above {g b : Nat} {W : World} {F : Nat → Nat → Int} {Ls : Nat → Nat} {A : Option Addr} {n : Nat} (h : Mx g W F Ls A n) (hb : W.heap.size ≤ b) : Mx b W F Ls A n := by
  obtain ⟨As, Cs, h1, h2⟩ := h
  exact ⟨As, Cs, h1.above hb, fun r hr => (h2 r hr).above hb⟩
/-- params in a box, cell by cell -/
theorem box_three {w : World} {g : Nat} {p k m : Int} (h : w.heap[g]? = some (.cells (parA p k m) TPa (0, 0))) : w.cell? ⟨g, 0, none⟩ = some (.int .i64 p) ∧ w.cell? ⟨g, 1, none⟩ = some (.int .i64 k) ∧ w.cell? ⟨g, 2, none⟩ = some (.int .i64 m) :=
  ⟨box_at h rfl, box_at h rfl, box_at h rfl⟩
theorem row1 : rowA 1 = #[.string ⟨#[106, 118]⟩, .int .i64 8, .int .u32 285, .int .u8 106, .int .i64 4] := rfl
theorem row2 : rowA 2 = #[.string ⟨#[106, 99]⟩, .int .i64 16, .int .u32 69643, .int .u8 106, .int .i64 4] := rfl
theorem row4 : rowA 4 = #[.string ⟨#[105, 99]⟩, .int .i64 8, .int .u32 285, .int .u8 105, .int .i64 4] := rfl
theorem row5 : rowA 5 = #[.string ⟨#[98, 98]⟩, .int .i64 8, .int .u32 285, .int .u8 98, .int .i64 4] := rfl
theorem row6 : rowA 6 = #[.string ⟨#[107, 112]⟩, .int .i64 8, .int .u32 285, .int .u8 112, .int .i64 4] := rfl
end Go.Proofs.YtdidlfeolbcblaaGreatDoor
