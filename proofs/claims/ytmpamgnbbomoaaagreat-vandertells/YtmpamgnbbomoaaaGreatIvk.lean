/- Products of the program's matrices as products over the field: plain mathematics. -/
import Derived.Test.YtmpamgnbbomoaaaGreatIvj
import Derived.Test.YtmpamgnbbomoaaaGreatMtp
namespace Go.Proofs.YtmpamgnbbomoaaaGreat
open Go.RowKit

section
variable {q : FP}
theorem su_val (n : Nat) (f : Nat → El q) : (su n f).val = sm n (fun i => (f i).val) := by
  induction n with
  | zero => rfl
  | succ n ih => rw [su, sm, El.add_val, ih]
/-- a product of rows and columns -/
theorem dot_ivs (x y : Nat → El q) (n : Nat) : dotN q.p (fun i => ((x i).val : Int)) (fun i => ((y i).val : Int)) n = (su n (fun i => x i * y i)).val := by
  rw [dot_sm (fun j _ => ?_) (fun j _ => ?_), su_val]
  · exact sm_congr (fun i _ => by rw [Int.toNat_natCast, Int.toNat_natCast]; rfl)
  · have := (x j).le
    omega
  · have := (y j).le
    omega
theorem mulF_ivs (X Y : Nat → Nat → El q) (k : Nat) : mulF q.p (ivs X) (ivs Y) k = ivs (mm k X Y) := by
  funext r c
  unfold mulF ivs mm
  rw [dot_ivs (X r) (fun i => Y i c) k]
/-- a matrix, as one of the field's -/
theorem Mx.el {b : Nat} {w : World} {F : Nat → Nat → Int} {La : Nat → Nat} {A : Option Addr} {n : Nat} (h : Mx b w F La A n) (hm : mayP (M.ord q.p) n La F) : Mx b w (ivs (elM q F)) (fun _ => La 0) A n :=
  h.congr (fun r hr => (hm.2.2 r hr).1) (fun r hr j hj => by
    rw [(hm.2.2 r hr).1] at hj
    exact (elM_val hm hr hj).symm)
theorem mm_col (n : Nat) (A : Nat → Nat → El q) (v : Nat → El q) (r : Nat) : mm n A (fun i _ => v i) r 0 = su n (fun i => A r i * v i) := rfl
/-- a product has an inverse just if both have -/
theorem full_mm {n : Nat} {X Y : Nat → Nat → El q} : rk n (mm n X Y) n = n ↔ rk n X n = n ∧ rk n Y n = n := by
  constructor
  · intro h
    have h1 := ivm_inv h
    refine ⟨full_of_right (X := mm n Y (ivm n (mm n X Y))) (fun r hr c hc => by rw [← mm_assoc]; exact h1.2 r hr c hc), full_of_left (X := mm n (ivm n (mm n X Y)) X) (fun r hr c hc => by rw [mm_assoc]; exact h1.1 r hr c hc)⟩
  · rintro ⟨h1, h2⟩
    exact full_of_right (isI_comp (ivm_inv h1).2 (ivm_inv h2).2)
/-- its inverse is that of the second one, times that of the first one -/
theorem ivm_mm {n : Nat} {X Y : Nat → Nat → El q} (h1 : rk n X n = n) (h2 : rk n Y n = n) : ∀ r, r < n → ∀ c, c < n → ivm n (mm n X Y) r c = mm n (ivm n Y) (ivm n X) r c :=
  isI_uniq (ivm_inv (full_mm.2 ⟨h1, h2⟩)).1 (isI_comp (ivm_inv h1).2 (ivm_inv h2).2)
end
end Go.Proofs.YtmpamgnbbomoaaaGreat
