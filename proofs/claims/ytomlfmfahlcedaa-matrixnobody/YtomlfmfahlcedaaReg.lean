/- Contracts of the document's own answers for layer 1: Irreducible, Primitive, Power. -/
import Derived.Test.YtomlfmfahlcedaaRef
import Derived.Test.YtomlfmfahlcedaaPrim
namespace Go.Proofs.Ytomlfmfahlcedaa
open Go.RowKit

def RirrAt (P N : Nat) (i : Value) : Prop := ∃ k : Nat, 2 ≤ k ∧ k ≤ N ∧ i = .int .u32 k ∧ M.noDiv P k = true

theorem noDiv_two (p : Nat) : M.noDiv p 2 = true := (M.noDiv_iff p 2).2 (fun q h1 h2 => by omega)
end Go.Proofs.Ytomlfmfahlcedaa
