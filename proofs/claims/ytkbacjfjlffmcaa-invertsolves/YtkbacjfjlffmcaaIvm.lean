/- What is solved, applied: plain mathematics. -/
import Derived.Test.YtkbacjfjlffmcaaIvk
namespace Go.Proofs.Ytkbacjfjlffmcaa
open Go.RowKit

theorem col_dot {q : FP} {n : Nat} {La : Nat → Nat} {F : Nat → Nat → Int} {l : Nat → Int} (hm : mayP (M.ord q.p) n La F) (hl : allIn (M.ord q.p) l (La 0)) {r : Nat} (hr : r < n) (c : Nat) :
    colM q (fun r => ((dotN q.p (F r) l (La 0) : Nat) : Int)) r c = mm (La 0) (elM q F) (colM q l) r 0 := by
  have e : dotN q.p (F r) l (La 0) = (mm (La 0) (elM q F) (colM q l) r 0).val := by
    have := dot_ivs (q := q) (elM q F r) (fun i => colM q l i 0) (La 0)
    unfold mm
    rw [← this]
    exact dotN_congr (fun j hj => (elM_val hm hr hj).symm) (fun j hj => (toEl_val (hl j hj)).symm)
  show toEl q ((dotN q.p (F r) l (La 0) : Nat) : Int) = _
  rw [e]
  exact toEl_of _
/-- what is solved, of a column that was multiplied, is that column -/
theorem solve_back {q : FP} {n : Nat} {La : Nat → Nat} {F : Nat → Nat → Int} {l : Nat → Int} (hm : mayP (M.ord q.p) n La F) (hl : allIn (M.ord q.p) l n) (hn : n = La 0) (hf : rk n (elM q F) n = n) :
    ∀ r, r < n → ((mm n (ivm n (elM q F)) (colM q (fun r => ((dotN q.p (F r) l n : Nat) : Int))) r 0).val : Int) = l r := fun r hr => by
  have h1 := ivm_inv hf
  have e : mm n (ivm n (elM q F)) (colM q (fun r => ((dotN q.p (F r) l n : Nat) : Int))) r 0 = colM q l r 0 := by
    refine (mm_congr2 (B' := mm n (elM q F) (colM q l)) (r' := r) (c' := 0) (fun _ _ => rfl) (fun i hi => ?_)).trans ?_
    · have := col_dot (q := q) (l := l) hm (by rw [← hn]; exact hl) hi 0
      rwa [← hn] at this
    · rw [← mm_assoc]
      exact (mm_congr (fun i hi => h1.1 r hr i hi) (fun _ _ => rfl)).trans (dl_mm _ hr 0)
  rw [e]
  exact toEl_val (hl r hr)
end Go.Proofs.Ytkbacjfjlffmcaa
