/- Contracts of the document's own answers for layer 1: Primitive, Power. -/
import Derived.Test.YtomlfmfahlcedaaReg
import Derived.Test.YtomlfmfahlcedaaPox
namespace Go.Proofs.Ytomlfmfahlcedaa
open Go.RowKit

/-- a bool that says whether P holds; the world is as it was -/
def SaysStill (P : Prop) (w : World) (e : Ending) (w' : World) : Prop := ∃ b : Bool, e = .returned (.bool b) ∧ (b = true ↔ P) ∧ w = w'

def RprAt (P C : Nat) (tn tx : Value) : Prop := ∃ n : Nat, 1 ≤ n ∧ n ≤ C ∧ tn = .int .u64 n ∧ tx = .int .u32 (M.pw 2 P n) ∧ ∀ m, 1 ≤ m → m < n → M.pw 2 P m ≠ 1

def RpwAt (P R : Nat) (ta tn tout : Value) : Prop :=
  ∃ a n out : Nat, ta = .int .u32 a ∧ tn = .int .u64 n ∧ tout = .int .u32 out ∧ a ≤ 4294967295 ∧ out ≤ 4294967295 ∧ n < 2 ^ 64 ∧ M.md out P = out ∧ M.md (M.mul out (M.pw a P n)) P = R

theorem rpw_odd {P R a n out : Nat} (h : M.md (M.mul out (M.pw a P n)) P = R) (hn : n % 2 = 1) :
    M.md (M.mul (M.md (M.mul out a) P) (M.pw (M.md (M.mul a a) P) P (n / 2))) P = R := by
  have e : M.pw (M.md (M.mul a a) P) P (n / 2) = M.pw a P (2 * (n / 2)) := M.pw_sq a P (n / 2)
  rw [e, M.md_mulL, M.mul_assoc, M.mul_comm a, ← h]
  have : M.pw a P n = M.md (M.mul (M.pw a P (2 * (n / 2))) a) P := by
    have : n = 2 * (n / 2) + 1 := by omega
    rw [this, M.pw, show (2 * (n / 2) + 1) / 2 = n / 2 by omega]
  rw [this, M.md_mulR]

theorem rpw_even {P R a n out : Nat} (h : M.md (M.mul out (M.pw a P n)) P = R) (hn : ¬ n % 2 = 1) :
    M.md (M.mul out (M.pw (M.md (M.mul a a) P) P (n / 2))) P = R := by
  have e : M.pw (M.md (M.mul a a) P) P (n / 2) = M.pw a P (2 * (n / 2)) := M.pw_sq a P (n / 2)
  rw [e, show 2 * (n / 2) = n by omega, h]
end Go.Proofs.Ytomlfmfahlcedaa
