/- Contracts of the document's own answers for layer 1: Deg, Mul, power, Mod, MulMod. Contracts of the document's own answers for layer 1: Irreducible, Primitive, Power. Contracts of the document's own answers for layer 1: Primitive, Power. -/
import Derived.Test.YtdidlfeolbcblaaDoorGxb
import Derived.Test.YtdidlfeolbcblaaDoorGxa

namespace Go.Proofs.YtdidlfeolbcblaaDoor
open Go.RowKit

def RdegAt (A : Nat) (t0 t3 : Value) : Prop := ∃ x n : Nat, t0 = .int .u64 x ∧ t3 = .int .i64 ((n : Int) - 1) ∧ M.blen A = n + M.blen x ∧ x < 2 ^ 64

def RmulAt (A B : Nat) (tb tout tx : Value) : Prop := ∃ k : Nat, k ≤ 32 ∧ tb = .int .u32 (B / 2 ^ k : Nat) ∧ tout = .int .u64 (M.mulTo A B k) ∧ tx = .int .u64 (A <<< k : Nat)

def RmodAt (A P : Nat) (t : Value) : Prop := ∃ r : Nat, t = .int .u64 r ∧ M.md r P = M.md A P ∧ r < 2 ^ 64

theorem rmod_step {P r : Nat} (hP : P ≠ 0) (hl : M.blen P ≤ M.blen r) (hr : r < 2 ^ 64) :
    M.blen (r ^^^ P <<< (M.blen r - M.blen P)) < M.blen r ∧ P <<< (M.blen r - M.blen P) < 2 ^ 64 ∧ r ^^^ P <<< (M.blen r - M.blen P) < 2 ^ 64 := by
  have pP := M.blen_pos hP
  have hr0 : r ≠ 0 := by rintro rfl; rw [M.blen_zero] at hl; omega
  have pr := M.blen_pos hr0
  have lp := M.low_of hP
  have lr := M.low_of hr0
  have hs : P <<< (M.blen r - M.blen P) < 2 ^ (M.blen r - 1 + 1) := by
    have := M.shl_lt (k := M.blen r - M.blen P) lp.2
    rwa [show M.blen P - 1 + 1 + (M.blen r - M.blen P) = M.blen r - 1 + 1 by omega] at this
  have ht : (P <<< (M.blen r - M.blen P)).testBit (M.blen r - 1) = true := by
    rw [Nat.testBit_shiftLeft, show M.blen r - 1 - (M.blen r - M.blen P) = M.blen P - 1 by omega, M.tb_top lp.1 lp.2]
    simp; omega
  have h1 : r ^^^ P <<< (M.blen r - M.blen P) < 2 ^ (M.blen r - 1) := by
    apply M.lt_of_tb_false (Nat.xor_lt_two_pow lr.2 hs)
    rw [Nat.testBit_xor, ht, M.tb_top lr.1 lr.2]; rfl
  have h2 := (M.blen_le _ _).2 h1
  have h64 := (M.blen_le r 64).2 hr
  refine ⟨by omega, Nat.lt_of_lt_of_le hs (Nat.pow_le_pow_right (by decide) (by omega)), Nat.lt_of_lt_of_le h1 (Nat.pow_le_pow_right (by decide) (by omega))⟩
end Go.Proofs.YtdidlfeolbcblaaDoor

namespace Go.Proofs.YtdidlfeolbcblaaDoor
open Go.RowKit

def RirrAt (P N : Nat) (i : Value) : Prop := ∃ k : Nat, 2 ≤ k ∧ k ≤ N ∧ i = .int .u32 k ∧ M.noDiv P k = true

theorem noDiv_two (p : Nat) : M.noDiv p 2 = true := (M.noDiv_iff p 2).2 (fun q h1 h2 => by omega)
end Go.Proofs.YtdidlfeolbcblaaDoor

namespace Go.Proofs.YtdidlfeolbcblaaDoor
open Go.RowKit

/-- a bool that says whether P holds; the world is as it was -/
def SaysStill (P : Prop) (w : World) (e : Ending) (w' : World) : Prop := ∃ b : Bool, e = .returned (.bool b) ∧ (b = true ↔ P) ∧ w = w'

def RprAt (P C : Nat) (tn tx : Value) : Prop := ∃ n : Nat, 1 ≤ n ∧ n ≤ C ∧ tn = .int .u64 n ∧ tx = .int .u32 (M.pw 2 P n) ∧ ∀ m, 1 ≤ m → m < n → M.pw 2 P m ≠ 1

def RpwAt (P R : Nat) (ta tn tout : Value) : Prop :=
  ∃ a n out : Nat, ta = .int .u32 a ∧ tn = .int .u64 n ∧ tout = .int .u32 out ∧ a ≤ 4294967295 ∧ out ≤ 4294967295 ∧ n < 2 ^ 64 ∧ M.md out P = out ∧ M.md (M.mul out (M.pw a P n)) P = R

theorem rpw_odd {P R a n out : Nat} (h : M.md (M.mul out (M.pw a P n)) P = R) (hn : n % 2 = 1) :
    M.md (M.mul (M.md (M.mul out a) P) (M.pw (M.md (M.mul a a) P) P (n / 2))) P = R := by
  have e : M.pw (M.md (M.mul a a) P) P (n / 2) = M.pw a P (2 * (n / 2)) := M.pw_sq a P (n / 2)
  rw [e, M.md_mulL, M.mul_assoc, M.mul_comm a, ← h]
  have : M.pw a P n = M.md (M.mul (M.pw a P (2 * (n / 2))) a) P := by
    have : n = 2 * (n / 2) + 1 := by omega
    rw [this, M.pw, show (2 * (n / 2) + 1) / 2 = n / 2 by omega]
  rw [this, M.md_mulR]

theorem rpw_even {P R a n out : Nat} (h : M.md (M.mul out (M.pw a P n)) P = R) (hn : ¬ n % 2 = 1) :
    M.md (M.mul out (M.pw (M.md (M.mul a a) P) P (n / 2))) P = R := by
  have e : M.pw (M.md (M.mul a a) P) P (n / 2) = M.pw a P (2 * (n / 2)) := M.pw_sq a P (n / 2)
  rw [e, show 2 * (n / 2) = n by omega, h]
end Go.Proofs.YtdidlfeolbcblaaDoor
