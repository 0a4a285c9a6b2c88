/- Layer 5's own first test, and how its laws choose a field. -/
import Derived.Test.YtmpamgnbbomoaaaGreatGxg
import Derived.Test.YtmpamgnbbomoaaaGreatMtn
namespace Go.Proofs.YtmpamgnbbomoaaaGreat
open Go.RowKit

/-- two rows of two numbers -/
def m22 (x y z u : Int) (r j : Nat) : Int := if r = 0 then (if j = 0 then x else y) else (if j = 0 then z else u)
theorem mat22 (b : Nat) (x y z u : Int) (w W : World) (hb : b < w.heap.size)
    (hW : ((w.alloc (.cells #[.int .i64 x, .int .i64 y] TI)).alloc (.cells #[.int .i64 z, .int .i64 u] TI)).alloc (.cells #[.slice (some ⟨w.heap.size, 0, none⟩) 2 2, .slice (some ⟨w.heap.size + 1, 0, none⟩) 2 2] TIs) = W) :
    Mx b W (m22 x y z u) (fun _ => 2) (some ⟨w.heap.size + 1 + 1, 0, none⟩) 2 ∧ Below w.heap.size w W := by
  have r1 := row_at (w := w) #[.int .i64 x, .int .i64 y] TI (i64s (m22 x y z u 0)) _ rfl (fun i hi => by
    simp at hi
    match i, hi with
    | 0, _ => rfl
    | 1, _ => rfl)
  have r2 := row_at (w := w.alloc (.cells #[.int .i64 x, .int .i64 y] TI)) #[.int .i64 z, .int .i64 u] TI (i64s (m22 x y z u 1)) (w.heap.size + 1) (by simp) (fun i hi => by
    simp at hi
    match i, hi with
    | 0, _ => rfl
    | 1, _ => rfl)
  have r3 := row_at (w := (w.alloc (.cells #[.int .i64 x, .int .i64 y] TI)).alloc (.cells #[.int .i64 z, .int .i64 u] TI)) #[.slice (some ⟨w.heap.size, 0, none⟩) 2 2, .slice (some ⟨w.heap.size + 1, 0, none⟩) 2 2] TIs (slis (fun r => if r = 0 then some ⟨w.heap.size, 0, none⟩ else some ⟨w.heap.size + 1, 0, none⟩) (fun _ => 2) (fun _ => 2)) (w.heap.size + 1 + 1) (by simp) (fun i hi => by
    simp at hi
    match i, hi with
    | 0, _ => rfl
    | 1, _ => rfl)
  subst hW
  refine ⟨⟨_, _, Rd.of_row r3 (by omega) (by simp), fun r hr => ?_⟩, (((below_alloc w _).alloc (by simp) _).alloc (by simp; omega) _)⟩
  match r, hr with
  | 0, _ => exact Rd.of_row ((r1.alloc _).alloc _) (by omega) (by simp)
  | 1, _ => exact Rd.of_row (r2.alloc _) (by omega) (by simp)
theorem m22_may {c : Nat} {x y z u : Int} (h1 : 0 ≤ x ∧ x ≤ c) (h2 : 0 ≤ y ∧ y ≤ c) (h3 : 0 ≤ z ∧ z ≤ c) (h4 : 0 ≤ u ∧ u ≤ c) : sqP c 2 (fun _ => 2) (m22 x y z u) :=
  ⟨⟨show 1 ≤ 2 ∧ 2 ≤ 20 by omega, show 1 ≤ 2 ∧ 2 ≤ 20 by omega, fun r _ => ⟨rfl, fun j _ => by
    unfold m22
    split <;> split <;> assumption⟩⟩, rfl⟩
end Go.Proofs.YtmpamgnbbomoaaaGreat
