/- Layer 4's own first test. -/
import Derived.Test.YtmpamgnbbomoaaaGreatMtm
namespace Go.Proofs.YtmpamgnbbomoaaaGreat
open Go.RowKit

/-- the row 2, 3; and 1 everywhere -/
def twoThree (_ j : Nat) : Int := if j = 0 then 2 else 3
def allOne (_ _ : Nat) : Int := 1

theorem row_at {w : World} (c : Array Value) (t : TypeId) (f : Nat → Value) (s : Nat) (hs : w.heap.size = s) (h : ∀ i, i < c.size → c[i]? = some (f i)) : (w.alloc (.cells c t)).rowIs s t c.size f := by
  subst hs
  exact World.rowIs_alloc w c t f h

theorem awake_mats (b : Nat) (w1 W5 : World) (hb : b < w1.heap.size)
    (h5 : ((((w1.alloc (.cells #[.int .i64 2, .int .i64 3] TI)).alloc (.cells #[.slice (some ⟨w1.heap.size, 0, none⟩) 2 2] TIs)).alloc (.cells #[.int .i64 1] TI)).alloc (.cells #[.int .i64 1] TI)).alloc (.cells #[.slice (some ⟨w1.heap.size + 1 + 1, 0, none⟩) 1 1, .slice (some ⟨w1.heap.size + 1 + 1 + 1, 0, none⟩) 1 1] TIs) = W5) :
    Mx b W5 twoThree (fun _ => 2) (some ⟨w1.heap.size + 1, 0, none⟩) 1 ∧ Mx b W5 allOne (fun _ => 1) (some ⟨w1.heap.size + 1 + 1 + 1 + 1, 0, none⟩) 2 ∧ Below w1.heap.size w1 W5 := by
  have r1 := row_at (w := w1) #[.int .i64 2, .int .i64 3] TI (i64s (twoThree 0)) _ rfl (fun i hi => by
    simp at hi
    match i, hi with
    | 0, _ => rfl
    | 1, _ => rfl)
  have r2 := row_at (w := w1.alloc (.cells #[.int .i64 2, .int .i64 3] TI)) #[.slice (some ⟨w1.heap.size, 0, none⟩) 2 2] TIs (fun _ => .slice (some ⟨w1.heap.size, 0, none⟩) 2 2) (w1.heap.size + 1) (by simp) (fun i hi => by
    simp at hi
    subst hi
    rfl)
  have r3 := row_at (w := (w1.alloc (.cells #[.int .i64 2, .int .i64 3] TI)).alloc (.cells #[.slice (some ⟨w1.heap.size, 0, none⟩) 2 2] TIs)) #[.int .i64 1] TI (i64s (allOne 0)) (w1.heap.size + 1 + 1) (by simp) (fun i hi => by
    simp at hi
    subst hi
    rfl)
  have r4 := row_at (w := ((w1.alloc (.cells #[.int .i64 2, .int .i64 3] TI)).alloc (.cells #[.slice (some ⟨w1.heap.size, 0, none⟩) 2 2] TIs)).alloc (.cells #[.int .i64 1] TI)) #[.int .i64 1] TI (i64s (allOne 1)) (w1.heap.size + 1 + 1 + 1) (by simp) (fun i hi => by
    simp at hi
    subst hi
    rfl)
  have r5 := row_at (w := (((w1.alloc (.cells #[.int .i64 2, .int .i64 3] TI)).alloc (.cells #[.slice (some ⟨w1.heap.size, 0, none⟩) 2 2] TIs)).alloc (.cells #[.int .i64 1] TI)).alloc (.cells #[.int .i64 1] TI)) #[.slice (some ⟨w1.heap.size + 1 + 1, 0, none⟩) 1 1, .slice (some ⟨w1.heap.size + 1 + 1 + 1, 0, none⟩) 1 1] TIs (slis (fun r => if r = 0 then some ⟨w1.heap.size + 1 + 1, 0, none⟩ else some ⟨w1.heap.size + 1 + 1 + 1, 0, none⟩) (fun _ => 1) (fun _ => 1)) (w1.heap.size + 1 + 1 + 1 + 1) (by simp) (fun i hi => by
    simp at hi
    match i, hi with
    | 0, _ => rfl
    | 1, _ => rfl)
  subst h5
  refine ⟨⟨fun _ => some ⟨w1.heap.size, 0, none⟩, fun _ => 2, Rd.of_row ((((r2.alloc _).alloc _).alloc _)) (by omega) (by simp), fun r _ => ?_⟩, ⟨_, _, Rd.of_row r5 (by omega) (by simp), fun r hr => ?_⟩, ?_⟩
  · exact (Rd.of_row (((((r1.alloc _).alloc _).alloc _).alloc _)) (by omega) (by simp)).congr (fun j _ => rfl)
  · match r, hr with
    | 0, _ => exact Rd.of_row ((r3.alloc _).alloc _) (by omega) (by simp)
    | 1, _ => exact Rd.of_row (r4.alloc _) (by omega) (by simp)
  · exact (((((Below.refl _ w1).alloc (Nat.le_refl _) _).alloc (by simp) _).alloc (by simp; omega) _).alloc (by simp; omega) _).alloc (by simp; omega) _

theorem mul285' (x : Int) (x0 : 0 ≤ x) (x1 : x ≤ 255) : fmul 285 x 1 = x := by
  rw [fmul_in x0 (by rw [ord285]; omega) (by omega) (by rw [ord285]; omega), show (1 : Int).toNat = 1 from rfl, M.mul_one, M.md_self good285.prim.1 (by rw [ord285]; omega)]
  omega
theorem awake_one : mulF 285 twoThree allOne 2 0 0 = 1 := by
  simp only [mulF, dotN, allOne, twoThree]
  rw [if_pos trivial, if_neg (by omega), mul285' 2 (by omega) (by omega), mul285' 3 (by omega) (by omega)]
  rfl
end Go.Proofs.YtmpamgnbbomoaaaGreat
