/- Contracts of the document's own answers for layer 2. -/
import Derived.Test.YtmpamgnbbomoaaaFpw
import Derived.Test.YtmpamgnbbomoaaaGxc
namespace Go.Proofs.Ytmpamgnbbomoaaa
open Go.RowKit

theorem inv_pow {p : Nat} {a : Int} (h : M.irr p = true) (a0 : 0 ≤ a) (a1 : a ≤ M.ord p) : fpow p a ((M.ord p : Int) - 1) = (M.inv p a.toNat : Nat) := by
  have := M.ord_pos h
  unfold fpow M.inv
  rw [inB_iff.2 ⟨a0, a1⟩, decide_eq_true (show 0 ≤ (M.ord p : Int) - 1 by omega), show ((M.ord p : Int) - 1).toNat = M.ord p - 1 by omega]; rfl

theorem ex_pow {p : Nat} {n : Int} (hp : 2 ≤ M.ord p) : fpow p 2 (n % (M.ord p : Int)) = (M.ex p n : Nat) := by
  have h1 := Int.emod_nonneg n (show (M.ord p : Int) ≠ 0 by omega)
  unfold fpow M.ex
  rw [inB_iff.2 ⟨by omega, by omega⟩, decide_eq_true h1]; rfl

/-- in Log's loop -/
def RlogAt (p l : Nat) (tx tn : Value) : Prop := ∃ k : Nat, k ≤ l ∧ tn = .int .i64 k ∧ tx = .int .i64 (M.pw 2 p k)

/-- what Log tells -/
def flog (p : Nat) (a : Int) : Value := if inB (M.ord p) a && decide (a ≠ 0) then .tuple #[.int .i64 (M.lg p a.toNat), .bool true] else .tuple #[.int .i64 0, .bool false]
theorem flog_yes {p : Nat} {a : Int} (a0 : 1 ≤ a) (a1 : a ≤ M.ord p) : flog p a = .tuple #[.int .i64 (M.lg p a.toNat), .bool true] := by
  unfold flog
  rw [inB_iff.2 ⟨by omega, a1⟩, show decide (a ≠ 0) = true by simp; omega]; rfl
theorem flog_no {p : Nat} {a : Int} (h : a < 1 ∨ M.ord p < a) : flog p a = .tuple #[.int .i64 0, .bool false] := by
  unfold flog
  split
  · rename_i hh
    rw [Bool.and_eq_true, inB_iff, decide_eq_true_eq] at hh
    omega
  · rfl

/-- Log, of any number -/
theorem flog23 (p b wd : Nat) (x : Int) (w : World) (h : Fld p b wd w) :
    Calls Try.prog 44 #[.pointer (some ⟨b, 0, none⟩), .int .i64 x] w (Ans p b wd w (flog p x)) := by
  by_cases hx : x < 1 ∨ M.ord p < x
  · rw [flog_no hx]
    refine (log_no p b wd x hx w h).mono ?_
    rintro e w' ⟨rfl, rfl⟩
    exact ans_still h _
  · rw [flog_yes (by omega) (by omega)]
    exact log_yes p b wd x (by omega) (by omega) w h
end Go.Proofs.Ytmpamgnbbomoaaa
