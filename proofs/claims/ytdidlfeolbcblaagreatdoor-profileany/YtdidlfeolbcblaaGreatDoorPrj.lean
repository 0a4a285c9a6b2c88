/- Layer 9: any K of all shards tell the others: of all params that may be. -/
import Derived.Test.YtdidlfeolbcblaaGreatDoorPrd
import Derived.Test.YtdidlfeolbcblaaGreatDoorPrf
import Derived.Test.YtdidlfeolbcblaaGreatDoorGxp
import Derived.Test.YtdidlfeolbcblaaGreatDoorGxs
namespace Go.Proofs.YtdidlfeolbcblaaGreatDoor
open Go.RowKit

theorem of_all {q : FP} {n m : Nat} {lx ly : Nat → Int} (h : ofP (M.ord q.p) n m lx ly) (f : Nat → Nat) (hf : ∀ i, i < m → f i < m + n) (hu : ∀ i j, i < m → j < m → f i = f j → i = j) :
    rk m (fun i j => joinE m dl (ofE q lx ly) (f i) j) m = m :=
  cau_any (fun i j hi hj e => h.xx i j hi hj (toEl_inj (h.x hi) (h.x hj) e)) (fun i j hi hj e => h.yy i j hi hj (toEl_inj (h.y hi) (h.y hj) e)) (fun i j hi hj e => h.xy i j hi hj (toEl_inj (h.x hi) (h.y hj) e)) f hf hu

theorem sys_all {q : FP} {k m : Nat} (hN : ((k + m : Nat) : Int) ≤ M.ord q.p) (f : Nat → Nat) (hf : ∀ i, i < k → f i < k + m) (hu : ∀ i j, i < k → j < k → f i = f j → i = j) :
    rk k (fun i j => joinE k dl (fun i j => sysE q k (k + i) j) (f i) j) k = k := by
  refine Eq.trans (rk_congr (fun i hi j hj => ?_)) (sys_any (l := f) (by omega) (fun i hi => by have := hf i hi; omega) hu)
  unfold joinE
  by_cases e : f i < k
  · rw [if_pos e]
    exact (sys_id (by omega) e hj).symm
  · rw [if_neg e]
    dsimp only
    rw [show k + (f i - k) = f i by omega]

/-- any K of the identity's rows, and of those behind it, have an inverse -/
theorem rows_any {p : Int} {k m : Nat} (h : mayX p k m) (f : Nat → Nat) (hf : ∀ i, i < k → f i < k + m) (hu : ∀ i j, i < k → j < k → f i = f j → i = j) :
    rk k (fun i j => joinE k dl (rowsE p k m) (f i) j) k = k := by
  have HO := (goodP p).kind.bounds
  obtain ⟨h0, h1, h2, h3⟩ := h
  have h4 := (max_pos h0).2
  have h5 : m ≤ 4 := by omega
  have h6 : k ≤ 8 := by omega
  have sk : side k := ⟨by omega, by omega⟩
  have sm : side m := ⟨by omega, by omega⟩
  have hp : p = 1 ∨ p = 2 ∨ p = 3 ∨ p = 4 ∨ p = 5 ∨ p = 6 := by omega
  rcases hp with rfl | rfl | rfl | rfl | rfl | rfl
  · exact par_any (q := qP 1) (by omega) (by omega) f hf hu
  · exact of_all (q := qP 2) ⟨sm, sk, frm_apart (by omega)⟩ f hf hu
  · exact isal_any (q := qP 3) (by omega) (by omega) (by have : maxI 3 = 3 := rfl; omega) f hf hu
  · exact of_all (q := qP 4) ⟨sm, sk, frm_apart' (by omega)⟩ f hf hu
  · exact sys_all (q := qP 5) (by omega) f hf hu
  · exact sys_all (q := qP 6) (by omega) f hf hu
theorem rows_safe {p : Int} {k m : Nat} (h : mayX p k m) : SafeP (qP p) k m (rowsE p k m) := safe_of_any (rows_any h)
end Go.Proofs.YtdidlfeolbcblaaGreatDoor
