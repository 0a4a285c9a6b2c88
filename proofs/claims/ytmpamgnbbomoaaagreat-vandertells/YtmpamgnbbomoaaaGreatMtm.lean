/- The contract of gambrelref04's Apply; layer 4's own first test, how its laws choose a field, was it an error. -/
import Derived.Test.YtmpamgnbbomoaaaGreatMtl
import Derived.Test.YtmpamgnbbomoaaaGreatMte
import Derived.Test.YtmpamgnbbomoaaaGreatGaw
namespace Go.Proofs.YtmpamgnbbomoaaaGreat
open Go.RowKit

/-- what Apply of the document tells -/
def RAppAny (p b n : Nat) (La : Nat → Nat) (F : Nat → Nat → Int) (m : Nat) (l : Nat → Int) (w : World) (e : Ending) (w' : World) : Prop :=
  ∃ t v, e = .returned (.tuple #[v, .bool t]) ∧ (t = true ↔ mayP (M.ord p) n La F ∧ La 0 = m ∧ allIn (M.ord p) l m) ∧ IntsTold b (cond t n 0) (fun r => (dotN p (F r) l m : Nat)) w v w'

theorem col_may {p n m : Nat} {La : Nat → Nat} {F : Nat → Nat → Int} {l : Nat → Int} : (mayP (M.ord p) n La F ∧ mayP (M.ord p) m (fun _ => 1) (fun r _ => l r) ∧ La 0 = m) ↔ (mayP (M.ord p) n La F ∧ La 0 = m ∧ allIn (M.ord p) l m) := by
  constructor
  · rintro ⟨h1, h2, h3⟩
    exact ⟨h1, h3, fun j hj => (h2.2.2 j hj).2 0 Nat.zero_lt_one⟩
  · rintro ⟨h1, h2, h3⟩
    refine ⟨h1, ⟨by rw [← h2]; exact h1.2.1, ⟨Nat.le_refl _, (by decide : 1 ≤ 20)⟩, fun r hr => ⟨rfl, fun j _ => h3 r hr⟩⟩, h2⟩
end Go.Proofs.YtmpamgnbbomoaaaGreat
