/- Layer 9: the document's Some. -/
import Derived.Test.YtdidlfeolbcblaaDoorPrb
namespace Go.Proofs.YtdidlfeolbcblaaDoor
open Go.RowKit

abbrev arr3 (x y z : Int) : Array Value := #[.int .u8 x, .int .u8 y, .int .u8 z]

theorem max_pos {p : Int} (h : 1 ≤ p ∧ p ≤ 6) : 3 ≤ maxI p ∧ maxI p ≤ 4 := by unfold maxI; split <;> (try split) <;> omega
/-- three numbers -/
def three (x y z : Int) : Nat → Value
  | 0 => .int .i64 x
  | 1 => .int .i64 y
  | _ => .int .i64 z
theorem row3_alloc (w : World) (x y z : Int) : (w.alloc (.cells #[.int .i64 x, .int .i64 y, .int .i64 z] TPa)).rowIs w.heap.size TPa 3 (three x y z) :=
  World.rowIs_alloc w #[.int .i64 x, .int .i64 y, .int .i64 z] TPa _ (fun i hi => by
    simp at hi
    match i, hi with
    | 0, _ => rfl
    | 1, _ => rfl
    | 2, _ => rfl)
theorem rowIs_agg3 {w : World} {g t : Nat} {x y z : Int} (h : w.rowIs g t 3 (three x y z)) : w.heap[g]? = some (.cells (parA x y z) t (0, 0)) := by
  obtain ⟨⟨l⟩, h1, h2, h3⟩ := h
  rw [h1]
  match l, h2 with
  | [a, b, c], _ =>
    have e0 := h3 0 (by omega)
    have e1 := h3 1 (by omega)
    have e2 := h3 2 (by omega)
    simp [three] at e0 e1 e2
    rw [e0, e1, e2]
theorem size3 : (Tryd.prog.info? TPa).map (·.size) = some (3 : Nat) := by kernel_rfl
end Go.Proofs.YtdidlfeolbcblaaDoor
