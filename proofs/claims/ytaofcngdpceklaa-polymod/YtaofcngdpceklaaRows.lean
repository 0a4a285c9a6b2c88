/-
  No cell of these rows narrows 'for every input' (looked for: loops, veiled, ifaces, maps, wideKeys, modest, calm, conditions, laid).
  DERIVED. THE GIVEN ROWS OF THIS SEAT. 6 by the template 'for every input the law returns true; each argument reads behind the call as it read before'; 0 by the template 'total and deterministic' (their statements: YtaofcngdpceklaaTotals.lean).
  GIVEN WITH THE SEED: the statements are not yours to turn. If you find one false, say at which input.
  Laid BY PROGRAM, IN A SANDBOX (cutbox-rows.mjs): the forced cells as the released guide's own fill.sh prints them over the translation 737eb5ff4d5f05d4… (all of the seat's roots in one cut). By AI agents, Wed Nov 11 2026. No macro, syntax, notation, axiom, sorry.
-/
import Derived.Test.YtaofcngdpceklaaChecked
import GoSem.Claim
import GoSem.ClaimJoined
import GoSem.ClaimMapViews
import Derived.JoinedTies
import Derived.KernelRfl
namespace Go.Proofs.Ytaofcngdpceklaa
/- THE CELL 'sum', in the pinned program and in every row, IS THE sha256 OF THE DUMP (.gsa) THAT YtaofcngdpceklaaProg.lean LOADS. Nothing in Lean hashes anything: it is a label: what it is worth is what the hold of that sum in a sandbox is worth. -/
noncomputable def Try.pinned : Pinned := { name := "ytaofcngdpceklaa", sum := "737eb5ff4d5f05d4ae6362b30c08235b8bbccec9c510ac944cc8172f59ba9586", checked := Try.checked }
namespace Rows
def none {H : Type} : Left H := { results := [], args := [] }

/-- 'gambrellaw01.PolyTells': WHATEVER THE INPUT: true; the input reads as it did. -/
def polyTellsSpec : ChangeSpec := { name := "polyTells", fn := fun _ => fun
  | [d1, d2] => { results := [.lit (.bool true)], args := [d1, d2] }
  | _ => none }
def polyTellsRow : OpenClaim := { program := "ytaofcngdpceklaa", sum := "737eb5ff4d5f05d4ae6362b30c08235b8bbccec9c510ac944cc8172f59ba9586", func := "gambrel/gambrellaw01.PolyTells", spec := "polyTells", unfollowed := true, recurses := true, apart := false }
def PolyTellsSaid : Prop := polyTellsRow.holds Try.pinned (OpenSpec.ofChange polyTellsSpec)

/-- ITS FALSE NEIGHBOUR: 'it returns false'. Refute it at one input. -/
def polyTellsWrong : ChangeSpec := { name := "polyTells", fn := fun _ => fun
  | [d1, d2] => { results := [.lit (.bool false)], args := [d1, d2] }
  | _ => none }
def PolyTellsWrongFalsely : Prop := polyTellsRow.holds Try.pinned (OpenSpec.ofChange polyTellsWrong)

/-- 'gambrellaw01.PolyIrreducible': WHATEVER THE INPUT: true; the input reads as it did. -/
def polyIrreducibleSpec : ChangeSpec := { name := "polyIrreducible", fn := fun _ => fun
  | [d] => { results := [.lit (.bool true)], args := [d] }
  | _ => none }
def polyIrreducibleRow : OpenClaim := { program := "ytaofcngdpceklaa", sum := "737eb5ff4d5f05d4ae6362b30c08235b8bbccec9c510ac944cc8172f59ba9586", func := "gambrel/gambrellaw01.PolyIrreducible", spec := "polyIrreducible", unfollowed := true, recurses := true, apart := false }
def PolyIrreducibleSaid : Prop := polyIrreducibleRow.holds Try.pinned (OpenSpec.ofChange polyIrreducibleSpec)

/-- ITS FALSE NEIGHBOUR: 'it returns false'. Refute it at one input. -/
def polyIrreducibleWrong : ChangeSpec := { name := "polyIrreducible", fn := fun _ => fun
  | [d] => { results := [.lit (.bool false)], args := [d] }
  | _ => none }
def PolyIrreducibleWrongFalsely : Prop := polyIrreducibleRow.holds Try.pinned (OpenSpec.ofChange polyIrreducibleWrong)

/-- 'gambrellaw01.PolyRing': WHATEVER THE INPUT: true; the input reads as it did. -/
def polyRingSpec : ChangeSpec := { name := "polyRing", fn := fun _ => fun
  | [d1, d2, d3] => { results := [.lit (.bool true)], args := [d1, d2, d3] }
  | _ => none }
def polyRingRow : OpenClaim := { program := "ytaofcngdpceklaa", sum := "737eb5ff4d5f05d4ae6362b30c08235b8bbccec9c510ac944cc8172f59ba9586", func := "gambrel/gambrellaw01.PolyRing", spec := "polyRing", unfollowed := true, recurses := true, apart := false }
def PolyRingSaid : Prop := polyRingRow.holds Try.pinned (OpenSpec.ofChange polyRingSpec)

/-- ITS FALSE NEIGHBOUR: 'it returns false'. Refute it at one input. -/
def polyRingWrong : ChangeSpec := { name := "polyRing", fn := fun _ => fun
  | [d1, d2, d3] => { results := [.lit (.bool false)], args := [d1, d2, d3] }
  | _ => none }
def PolyRingWrongFalsely : Prop := polyRingRow.holds Try.pinned (OpenSpec.ofChange polyRingWrong)

/-- 'gambrellaw01.PolyMod': WHATEVER THE INPUT: true; the input reads as it did. -/
def polyModSpec : ChangeSpec := { name := "polyMod", fn := fun _ => fun
  | [d1, d2, d3] => { results := [.lit (.bool true)], args := [d1, d2, d3] }
  | _ => none }
def polyModRow : OpenClaim := { program := "ytaofcngdpceklaa", sum := "737eb5ff4d5f05d4ae6362b30c08235b8bbccec9c510ac944cc8172f59ba9586", func := "gambrel/gambrellaw01.PolyMod", spec := "polyMod", unfollowed := true, recurses := true, apart := false }
def PolyModSaid : Prop := polyModRow.holds Try.pinned (OpenSpec.ofChange polyModSpec)

/-- ITS FALSE NEIGHBOUR: 'it returns false'. Refute it at one input. -/
def polyModWrong : ChangeSpec := { name := "polyMod", fn := fun _ => fun
  | [d1, d2, d3] => { results := [.lit (.bool false)], args := [d1, d2, d3] }
  | _ => none }
def PolyModWrongFalsely : Prop := polyModRow.holds Try.pinned (OpenSpec.ofChange polyModWrong)

/-- 'gambrellaw01.PolyField': WHATEVER THE INPUT: true; the input reads as it did. -/
def polyFieldSpec : ChangeSpec := { name := "polyField", fn := fun _ => fun
  | [d1, d2, d3] => { results := [.lit (.bool true)], args := [d1, d2, d3] }
  | _ => none }
def polyFieldRow : OpenClaim := { program := "ytaofcngdpceklaa", sum := "737eb5ff4d5f05d4ae6362b30c08235b8bbccec9c510ac944cc8172f59ba9586", func := "gambrel/gambrellaw01.PolyField", spec := "polyField", unfollowed := true, recurses := true, apart := false }
def PolyFieldSaid : Prop := polyFieldRow.holds Try.pinned (OpenSpec.ofChange polyFieldSpec)

/-- ITS FALSE NEIGHBOUR: 'it returns false'. Refute it at one input. -/
def polyFieldWrong : ChangeSpec := { name := "polyField", fn := fun _ => fun
  | [d1, d2, d3] => { results := [.lit (.bool false)], args := [d1, d2, d3] }
  | _ => none }
def PolyFieldWrongFalsely : Prop := polyFieldRow.holds Try.pinned (OpenSpec.ofChange polyFieldWrong)

/-- 'gambrellaw01.PolyDegree': WHATEVER THE INPUT: true; the input reads as it did. -/
def polyDegreeSpec : ChangeSpec := { name := "polyDegree", fn := fun _ => fun
  | [d1, d2] => { results := [.lit (.bool true)], args := [d1, d2] }
  | _ => none }
def polyDegreeRow : OpenClaim := { program := "ytaofcngdpceklaa", sum := "737eb5ff4d5f05d4ae6362b30c08235b8bbccec9c510ac944cc8172f59ba9586", func := "gambrel/gambrellaw01.PolyDegree", spec := "polyDegree", unfollowed := true, recurses := true, apart := false }
def PolyDegreeSaid : Prop := polyDegreeRow.holds Try.pinned (OpenSpec.ofChange polyDegreeSpec)

/-- ITS FALSE NEIGHBOUR: 'it returns false'. Refute it at one input. -/
def polyDegreeWrong : ChangeSpec := { name := "polyDegree", fn := fun _ => fun
  | [d1, d2] => { results := [.lit (.bool false)], args := [d1, d2] }
  | _ => none }
def PolyDegreeWrongFalsely : Prop := polyDegreeRow.holds Try.pinned (OpenSpec.ofChange polyDegreeWrong)

/- THE SECOND FORM. 'bulk': how many values and letters a reading holds, each counted each time it is reached (what is shared counts as often as it is met; a slice's spare places count too). A statement '..UptoSaid' is the law's where the arguments, and the package variables that the reading takes, are together of bulk at most 1048576: NARROWER than '..Said'. Prove '..Said' where nothing that the law and all that it calls make is longer than what came in: it says more and counts as full. Else prove '..UptoSaid'. A law counts once. -/
mutual
def uptoBulk {H : Type} : DataW H → Nat
  | .lit (.string bytes) => bytes.length + 1
  | .lit _ => 1
  | .nil => 1
  | .ptr d => uptoBulk d + 1
  | .slice elems spare => uptoBulkAll elems + uptoBulkAll spare + 1
  | .agg parts => uptoBulkAll parts + 1
  | .iface _ d => uptoBulk d + 1
  | .map entries => uptoBulkEntries entries + 1
  | .held _ => 1
def uptoBulkAll {H : Type} : List (DataW H) → Nat
  | [] => 0
  | d :: r => uptoBulk d + uptoBulkAll r
def uptoBulkEntries {H : Type} : List (Lit × DataW H) → Nat
  | [] => 0
  | x :: r => uptoBulkEntry x + uptoBulkEntries r
def uptoBulkEntry {H : Type} : Lit × DataW H → Nat
  | (.string bytes, d) => bytes.length + uptoBulk d + 1
  | (_, d) => uptoBulk d + 1
 end
def uptoSmall : (H : Type) → List (DataW H) → Bool := fun _ ds => decide (uptoBulkAll ds ≤ 1048576)
def OpenSpec.upto (s : _root_.Go.ChangeSpec) : _root_.Go.OpenSpec := { _root_.Go.OpenSpec.ofChange s with cond := some uptoSmall }

/-- 'gambrellaw01.PolyTells', WHERE WHAT IT READS IS OF BULK AT MOST 1048576: true; the input reads as it did. -/
def polyTellsUptoRow : OpenClaim := { program := "ytaofcngdpceklaa", sum := "737eb5ff4d5f05d4ae6362b30c08235b8bbccec9c510ac944cc8172f59ba9586", func := "gambrel/gambrellaw01.PolyTells", spec := "polyTells", unfollowed := true, recurses := true, apart := false, narrowed := true }
def PolyTellsUptoSaid : Prop := polyTellsUptoRow.holds Try.pinned (OpenSpec.upto polyTellsSpec)

/-- 'gambrellaw01.PolyIrreducible', WHERE WHAT IT READS IS OF BULK AT MOST 1048576: true; the input reads as it did. -/
def polyIrreducibleUptoRow : OpenClaim := { program := "ytaofcngdpceklaa", sum := "737eb5ff4d5f05d4ae6362b30c08235b8bbccec9c510ac944cc8172f59ba9586", func := "gambrel/gambrellaw01.PolyIrreducible", spec := "polyIrreducible", unfollowed := true, recurses := true, apart := false, narrowed := true }
def PolyIrreducibleUptoSaid : Prop := polyIrreducibleUptoRow.holds Try.pinned (OpenSpec.upto polyIrreducibleSpec)

/-- 'gambrellaw01.PolyRing', WHERE WHAT IT READS IS OF BULK AT MOST 1048576: true; the input reads as it did. -/
def polyRingUptoRow : OpenClaim := { program := "ytaofcngdpceklaa", sum := "737eb5ff4d5f05d4ae6362b30c08235b8bbccec9c510ac944cc8172f59ba9586", func := "gambrel/gambrellaw01.PolyRing", spec := "polyRing", unfollowed := true, recurses := true, apart := false, narrowed := true }
def PolyRingUptoSaid : Prop := polyRingUptoRow.holds Try.pinned (OpenSpec.upto polyRingSpec)

/-- 'gambrellaw01.PolyMod', WHERE WHAT IT READS IS OF BULK AT MOST 1048576: true; the input reads as it did. -/
def polyModUptoRow : OpenClaim := { program := "ytaofcngdpceklaa", sum := "737eb5ff4d5f05d4ae6362b30c08235b8bbccec9c510ac944cc8172f59ba9586", func := "gambrel/gambrellaw01.PolyMod", spec := "polyMod", unfollowed := true, recurses := true, apart := false, narrowed := true }
def PolyModUptoSaid : Prop := polyModUptoRow.holds Try.pinned (OpenSpec.upto polyModSpec)

/-- 'gambrellaw01.PolyField', WHERE WHAT IT READS IS OF BULK AT MOST 1048576: true; the input reads as it did. -/
def polyFieldUptoRow : OpenClaim := { program := "ytaofcngdpceklaa", sum := "737eb5ff4d5f05d4ae6362b30c08235b8bbccec9c510ac944cc8172f59ba9586", func := "gambrel/gambrellaw01.PolyField", spec := "polyField", unfollowed := true, recurses := true, apart := false, narrowed := true }
def PolyFieldUptoSaid : Prop := polyFieldUptoRow.holds Try.pinned (OpenSpec.upto polyFieldSpec)

/-- 'gambrellaw01.PolyDegree', WHERE WHAT IT READS IS OF BULK AT MOST 1048576: true; the input reads as it did. -/
def polyDegreeUptoRow : OpenClaim := { program := "ytaofcngdpceklaa", sum := "737eb5ff4d5f05d4ae6362b30c08235b8bbccec9c510ac944cc8172f59ba9586", func := "gambrel/gambrellaw01.PolyDegree", spec := "polyDegree", unfollowed := true, recurses := true, apart := false, narrowed := true }
def PolyDegreeUptoSaid : Prop := polyDegreeUptoRow.holds Try.pinned (OpenSpec.upto polyDegreeSpec)

end Rows
end Go.Proofs.Ytaofcngdpceklaa
