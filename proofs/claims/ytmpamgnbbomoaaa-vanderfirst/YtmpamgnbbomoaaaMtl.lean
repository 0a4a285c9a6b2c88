/- Contracts of gambrelref04: Mul and Apply. -/
import Derived.Test.YtmpamgnbbomoaaaMtk
namespace Go.Proofs.Ytmpamgnbbomoaaa
open Go.RowKit

/-- what Mul of the document tells -/
def RMMulAny (p b n k : Nat) (La Lb : Nat → Nat) (F G : Nat → Nat → Int) (w : World) (e : Ending) (w' : World) : Prop :=
  ∃ t v, e = .returned (.tuple #[v, .bool t]) ∧ (t = true ↔ mayP (M.ord p) n La F ∧ mayP (M.ord p) k Lb G ∧ La 0 = k) ∧ MTold b (cond t n 0) (mulF p F G k) (fun _ => Lb 0) w v w'
theorem RMMulAny.no {p b n k : Nat} {La Lb : Nat → Nat} {F G : Nat → Nat → Int} {w w' : World} (h : ¬ (mayP (M.ord p) n La F ∧ mayP (M.ord p) k Lb G ∧ La 0 = k)) (hb : Below w.heap.size w w') : RMMulAny p b n k La Lb F G w (.returned (.tuple #[nilS, .bool false])) w' :=
  ⟨false, _, rfl, by simp [h], MTold.nil hb⟩
/-- in its loops over the columns, and over the products -/
def RMulCol (p k m i : Nat) (F G : Nat → Nat → Int) (wi : World) (s12 s13 : Value) (wr : World) : Prop := ∃ j : Nat, j ≤ m ∧ s13 = .int .i64 j ∧ App wi TI (i64s (mulF p F G k i)) j s12 wr
def RMulSum (p k i j : Nat) (F G : Nat → Nat → Int) (wj : World) (s14 s15 : Value) (wr : World) : Prop := ∃ x : Nat, x ≤ k ∧ s15 = .int .i64 x ∧ s14 = .int .i64 (dotN p (F i) (fun r => G r j) x) ∧ Below wj.heap.size wj wr
end Go.Proofs.Ytmpamgnbbomoaaa
