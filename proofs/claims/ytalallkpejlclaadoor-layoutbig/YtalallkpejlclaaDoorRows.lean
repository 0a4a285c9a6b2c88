/-
  NARROWER THAN 'FOR EVERY INPUT', by the rows' own cells (each row's printed sentence says how): LayoutTells: laid · LayoutJoins: laid · LayoutBack: laid · LayoutSame: laid · LayoutSize: laid · LayoutBig: laid.
  DERIVED. THE GIVEN ROWS OF THIS SEAT. 6 by the template 'for every input the law returns true; each argument reads behind the call as it read before'; 0 by the template 'total and deterministic' (their statements: YtalallkpejlclaaDoorTotals.lean).
  GIVEN WITH THE SEED: the statements are not yours to turn. If you find one false, say at which input.
  Laid BY PROGRAM, IN A SANDBOX (cutbox-rows.mjs): the forced cells as the released guide's own fill.sh prints them over the translation 10fab439563107b9… (all of the seat's roots in one cut). By AI agents, Wed Nov 11 2026. No macro, syntax, notation, axiom, sorry.
-/
import Derived.Test.YtalallkpejlclaaDoorChecked
import GoSem.Claim
import GoSem.ClaimJoined
import GoSem.ClaimMapViews
import Derived.JoinedTies
import Derived.KernelRfl
namespace Go.Proofs.YtalallkpejlclaaDoor
/- THE CELL 'sum', in the pinned program and in every row, IS THE sha256 OF THE DUMP (.gsa) THAT YtalallkpejlclaaDoorProg.lean LOADS. Nothing in Lean hashes anything: it is a label: what it is worth is what the hold of that sum in a sandbox is worth. -/
noncomputable def Tryd.pinned : Pinned := { name := "ytalallkpejlclaadoor", sum := "10fab439563107b9afffda85788d0cfcfaaeaa9a1d89ebdde5103fb757566aec", checked := Tryd.checked }
namespace Rows
def none {H : Type} : Left H := { results := [], args := [] }

/- WHAT THE LISTED PACKAGE-LEVEL VARIABLES READ AS WHEN THE CALL BEGINS. Each datum BY PROGRAM (the guide's laid-datum.mjs) off the statement by which the dump's own 'gosem.cut.vars' lays the variable. In a bare row this is a premise. The card (YtalallkpejlclaaDoorCards.lean) ties it to the program's text. -/
def laid_gambrel_profile_table {H : Type} : DataW H := .agg [.agg [.lit (.string [106, 118]), .lit (.int .i64 8), .lit (.int .u32 285), .lit (.int .u8 106), .lit (.int .i64 4)], .agg [.lit (.string [106, 99]), .lit (.int .i64 16), .lit (.int .u32 69643), .lit (.int .u8 106), .lit (.int .i64 4)], .agg [.lit (.string [105, 114]), .lit (.int .i64 8), .lit (.int .u32 285), .lit (.int .u8 105), .lit (.int .i64 3)], .agg [.lit (.string [105, 99]), .lit (.int .i64 8), .lit (.int .u32 285), .lit (.int .u8 105), .lit (.int .i64 4)], .agg [.lit (.string [98, 98]), .lit (.int .i64 8), .lit (.int .u32 285), .lit (.int .u8 98), .lit (.int .i64 4)], .agg [.lit (.string [107, 112]), .lit (.int .i64 8), .lit (.int .u32 285), .lit (.int .u8 112), .lit (.int .i64 4)]]

/-- 'gambrellaw10.LayoutTells': WHATEVER THE INPUT: true; the input reads as it did. -/
def layoutTellsSpec : ChangeSpec := { name := "layoutTells", fn := fun _ => fun
  | [d1, d2, d3] => { results := [.lit (.bool true)], args := [d1, d2, d3] }
  | _ => none }
def layoutTellsRow : OpenClaim := { program := "ytalallkpejlclaadoor", sum := "10fab439563107b9afffda85788d0cfcfaaeaa9a1d89ebdde5103fb757566aec", func := "gambrel/gambrellaw10.LayoutTells", spec := "layoutTells", unfollowed := true, recurses := true, named := ["gambrel/profile.table"], apart := false, laid := [("gambrel/profile.table", laid_gambrel_profile_table)] }
def LayoutTellsSaid : Prop := layoutTellsRow.holds Tryd.pinned (OpenSpec.ofChange layoutTellsSpec)

/-- ITS FALSE NEIGHBOUR: 'it returns false'. Refute it at one input. -/
def layoutTellsWrong : ChangeSpec := { name := "layoutTells", fn := fun _ => fun
  | [d1, d2, d3] => { results := [.lit (.bool false)], args := [d1, d2, d3] }
  | _ => none }
def LayoutTellsWrongFalsely : Prop := layoutTellsRow.holds Tryd.pinned (OpenSpec.ofChange layoutTellsWrong)

/-- 'gambrellaw10.LayoutJoins': WHATEVER THE INPUT: true; the input reads as it did. -/
def layoutJoinsSpec : ChangeSpec := { name := "layoutJoins", fn := fun _ => fun
  | [d1, d2, d3] => { results := [.lit (.bool true)], args := [d1, d2, d3] }
  | _ => none }
def layoutJoinsRow : OpenClaim := { program := "ytalallkpejlclaadoor", sum := "10fab439563107b9afffda85788d0cfcfaaeaa9a1d89ebdde5103fb757566aec", func := "gambrel/gambrellaw10.LayoutJoins", spec := "layoutJoins", unfollowed := true, recurses := true, named := ["gambrel/profile.table"], apart := false, laid := [("gambrel/profile.table", laid_gambrel_profile_table)] }
def LayoutJoinsSaid : Prop := layoutJoinsRow.holds Tryd.pinned (OpenSpec.ofChange layoutJoinsSpec)

/-- ITS FALSE NEIGHBOUR: 'it returns false'. Refute it at one input. -/
def layoutJoinsWrong : ChangeSpec := { name := "layoutJoins", fn := fun _ => fun
  | [d1, d2, d3] => { results := [.lit (.bool false)], args := [d1, d2, d3] }
  | _ => none }
def LayoutJoinsWrongFalsely : Prop := layoutJoinsRow.holds Tryd.pinned (OpenSpec.ofChange layoutJoinsWrong)

/-- 'gambrellaw10.LayoutBack': WHATEVER THE INPUT: true; the input reads as it did. -/
def layoutBackSpec : ChangeSpec := { name := "layoutBack", fn := fun _ => fun
  | [d1, d2] => { results := [.lit (.bool true)], args := [d1, d2] }
  | _ => none }
def layoutBackRow : OpenClaim := { program := "ytalallkpejlclaadoor", sum := "10fab439563107b9afffda85788d0cfcfaaeaa9a1d89ebdde5103fb757566aec", func := "gambrel/gambrellaw10.LayoutBack", spec := "layoutBack", unfollowed := true, recurses := true, named := ["gambrel/profile.table"], apart := false, laid := [("gambrel/profile.table", laid_gambrel_profile_table)] }
def LayoutBackSaid : Prop := layoutBackRow.holds Tryd.pinned (OpenSpec.ofChange layoutBackSpec)

/-- ITS FALSE NEIGHBOUR: 'it returns false'. Refute it at one input. -/
def layoutBackWrong : ChangeSpec := { name := "layoutBack", fn := fun _ => fun
  | [d1, d2] => { results := [.lit (.bool false)], args := [d1, d2] }
  | _ => none }
def LayoutBackWrongFalsely : Prop := layoutBackRow.holds Tryd.pinned (OpenSpec.ofChange layoutBackWrong)

/-- 'gambrellaw10.LayoutSame': WHATEVER THE INPUT: true; the input reads as it did. -/
def layoutSameSpec : ChangeSpec := { name := "layoutSame", fn := fun _ => fun
  | [d1, d2, d3] => { results := [.lit (.bool true)], args := [d1, d2, d3] }
  | _ => none }
def layoutSameRow : OpenClaim := { program := "ytalallkpejlclaadoor", sum := "10fab439563107b9afffda85788d0cfcfaaeaa9a1d89ebdde5103fb757566aec", func := "gambrel/gambrellaw10.LayoutSame", spec := "layoutSame", unfollowed := true, recurses := true, named := ["gambrel/profile.table"], apart := false, laid := [("gambrel/profile.table", laid_gambrel_profile_table)] }
def LayoutSameSaid : Prop := layoutSameRow.holds Tryd.pinned (OpenSpec.ofChange layoutSameSpec)

/-- ITS FALSE NEIGHBOUR: 'it returns false'. Refute it at one input. -/
def layoutSameWrong : ChangeSpec := { name := "layoutSame", fn := fun _ => fun
  | [d1, d2, d3] => { results := [.lit (.bool false)], args := [d1, d2, d3] }
  | _ => none }
def LayoutSameWrongFalsely : Prop := layoutSameRow.holds Tryd.pinned (OpenSpec.ofChange layoutSameWrong)

/-- 'gambrellaw10.LayoutSize': WHATEVER THE INPUT: true; the input reads as it did. -/
def layoutSizeSpec : ChangeSpec := { name := "layoutSize", fn := fun _ => fun
  | [d1, d2] => { results := [.lit (.bool true)], args := [d1, d2] }
  | _ => none }
def layoutSizeRow : OpenClaim := { program := "ytalallkpejlclaadoor", sum := "10fab439563107b9afffda85788d0cfcfaaeaa9a1d89ebdde5103fb757566aec", func := "gambrel/gambrellaw10.LayoutSize", spec := "layoutSize", unfollowed := true, recurses := true, named := ["gambrel/profile.table"], apart := false, laid := [("gambrel/profile.table", laid_gambrel_profile_table)] }
def LayoutSizeSaid : Prop := layoutSizeRow.holds Tryd.pinned (OpenSpec.ofChange layoutSizeSpec)

/-- ITS FALSE NEIGHBOUR: 'it returns false'. Refute it at one input. -/
def layoutSizeWrong : ChangeSpec := { name := "layoutSize", fn := fun _ => fun
  | [d1, d2] => { results := [.lit (.bool false)], args := [d1, d2] }
  | _ => none }
def LayoutSizeWrongFalsely : Prop := layoutSizeRow.holds Tryd.pinned (OpenSpec.ofChange layoutSizeWrong)

/-- 'gambrellaw10.LayoutBig': WHATEVER THE INPUT: true; the input reads as it did. -/
def layoutBigSpec : ChangeSpec := { name := "layoutBig", fn := fun _ => fun
  | [d1, d2, d3] => { results := [.lit (.bool true)], args := [d1, d2, d3] }
  | _ => none }
def layoutBigRow : OpenClaim := { program := "ytalallkpejlclaadoor", sum := "10fab439563107b9afffda85788d0cfcfaaeaa9a1d89ebdde5103fb757566aec", func := "gambrel/gambrellaw10.LayoutBig", spec := "layoutBig", unfollowed := true, recurses := true, named := ["gambrel/profile.table"], apart := false, laid := [("gambrel/profile.table", laid_gambrel_profile_table)] }
def LayoutBigSaid : Prop := layoutBigRow.holds Tryd.pinned (OpenSpec.ofChange layoutBigSpec)

/-- ITS FALSE NEIGHBOUR: 'it returns false'. Refute it at one input. -/
def layoutBigWrong : ChangeSpec := { name := "layoutBig", fn := fun _ => fun
  | [d1, d2, d3] => { results := [.lit (.bool false)], args := [d1, d2, d3] }
  | _ => none }
def LayoutBigWrongFalsely : Prop := layoutBigRow.holds Tryd.pinned (OpenSpec.ofChange layoutBigWrong)

/- THE SECOND FORM. 'bulk': how many values and letters a reading holds, each counted each time it is reached (what is shared counts as often as it is met; a slice's spare places count too). A statement '..UptoSaid' is the law's where the arguments, and the package variables that the reading takes, are together of bulk at most 1048576: NARROWER than '..Said'. Prove '..Said' where nothing that the law and all that it calls make is longer than what came in: it says more and counts as full. Else prove '..UptoSaid'. A law counts once. -/
mutual
def uptoBulk {H : Type} : DataW H → Nat
  | .lit (.string bytes) => bytes.length + 1
  | .lit _ => 1
  | .nil => 1
  | .ptr d => uptoBulk d + 1
  | .slice elems spare => uptoBulkAll elems + uptoBulkAll spare + 1
  | .agg parts => uptoBulkAll parts + 1
  | .iface _ d => uptoBulk d + 1
  | .map entries => uptoBulkEntries entries + 1
  | .held _ => 1
def uptoBulkAll {H : Type} : List (DataW H) → Nat
  | [] => 0
  | d :: r => uptoBulk d + uptoBulkAll r
def uptoBulkEntries {H : Type} : List (Lit × DataW H) → Nat
  | [] => 0
  | x :: r => uptoBulkEntry x + uptoBulkEntries r
def uptoBulkEntry {H : Type} : Lit × DataW H → Nat
  | (.string bytes, d) => bytes.length + uptoBulk d + 1
  | (_, d) => uptoBulk d + 1
 end
def uptoSmall : (H : Type) → List (DataW H) → Bool := fun _ ds => decide (uptoBulkAll ds ≤ 1048576)
def OpenSpec.upto (s : _root_.Go.ChangeSpec) : _root_.Go.OpenSpec := { _root_.Go.OpenSpec.ofChange s with cond := some uptoSmall }

/-- 'gambrellaw10.LayoutTells', WHERE WHAT IT READS IS OF BULK AT MOST 1048576: true; the input reads as it did. -/
def layoutTellsUptoRow : OpenClaim := { program := "ytalallkpejlclaadoor", sum := "10fab439563107b9afffda85788d0cfcfaaeaa9a1d89ebdde5103fb757566aec", func := "gambrel/gambrellaw10.LayoutTells", spec := "layoutTells", unfollowed := true, recurses := true, named := ["gambrel/profile.table"], apart := false, laid := [("gambrel/profile.table", laid_gambrel_profile_table)], narrowed := true }
def LayoutTellsUptoSaid : Prop := layoutTellsUptoRow.holds Tryd.pinned (OpenSpec.upto layoutTellsSpec)

/-- 'gambrellaw10.LayoutJoins', WHERE WHAT IT READS IS OF BULK AT MOST 1048576: true; the input reads as it did. -/
def layoutJoinsUptoRow : OpenClaim := { program := "ytalallkpejlclaadoor", sum := "10fab439563107b9afffda85788d0cfcfaaeaa9a1d89ebdde5103fb757566aec", func := "gambrel/gambrellaw10.LayoutJoins", spec := "layoutJoins", unfollowed := true, recurses := true, named := ["gambrel/profile.table"], apart := false, laid := [("gambrel/profile.table", laid_gambrel_profile_table)], narrowed := true }
def LayoutJoinsUptoSaid : Prop := layoutJoinsUptoRow.holds Tryd.pinned (OpenSpec.upto layoutJoinsSpec)

/-- 'gambrellaw10.LayoutBack', WHERE WHAT IT READS IS OF BULK AT MOST 1048576: true; the input reads as it did. -/
def layoutBackUptoRow : OpenClaim := { program := "ytalallkpejlclaadoor", sum := "10fab439563107b9afffda85788d0cfcfaaeaa9a1d89ebdde5103fb757566aec", func := "gambrel/gambrellaw10.LayoutBack", spec := "layoutBack", unfollowed := true, recurses := true, named := ["gambrel/profile.table"], apart := false, laid := [("gambrel/profile.table", laid_gambrel_profile_table)], narrowed := true }
def LayoutBackUptoSaid : Prop := layoutBackUptoRow.holds Tryd.pinned (OpenSpec.upto layoutBackSpec)

/-- 'gambrellaw10.LayoutSame', WHERE WHAT IT READS IS OF BULK AT MOST 1048576: true; the input reads as it did. -/
def layoutSameUptoRow : OpenClaim := { program := "ytalallkpejlclaadoor", sum := "10fab439563107b9afffda85788d0cfcfaaeaa9a1d89ebdde5103fb757566aec", func := "gambrel/gambrellaw10.LayoutSame", spec := "layoutSame", unfollowed := true, recurses := true, named := ["gambrel/profile.table"], apart := false, laid := [("gambrel/profile.table", laid_gambrel_profile_table)], narrowed := true }
def LayoutSameUptoSaid : Prop := layoutSameUptoRow.holds Tryd.pinned (OpenSpec.upto layoutSameSpec)

/-- 'gambrellaw10.LayoutSize', WHERE WHAT IT READS IS OF BULK AT MOST 1048576: true; the input reads as it did. -/
def layoutSizeUptoRow : OpenClaim := { program := "ytalallkpejlclaadoor", sum := "10fab439563107b9afffda85788d0cfcfaaeaa9a1d89ebdde5103fb757566aec", func := "gambrel/gambrellaw10.LayoutSize", spec := "layoutSize", unfollowed := true, recurses := true, named := ["gambrel/profile.table"], apart := false, laid := [("gambrel/profile.table", laid_gambrel_profile_table)], narrowed := true }
def LayoutSizeUptoSaid : Prop := layoutSizeUptoRow.holds Tryd.pinned (OpenSpec.upto layoutSizeSpec)

/-- 'gambrellaw10.LayoutBig', WHERE WHAT IT READS IS OF BULK AT MOST 1048576: true; the input reads as it did. -/
def layoutBigUptoRow : OpenClaim := { program := "ytalallkpejlclaadoor", sum := "10fab439563107b9afffda85788d0cfcfaaeaa9a1d89ebdde5103fb757566aec", func := "gambrel/gambrellaw10.LayoutBig", spec := "layoutBig", unfollowed := true, recurses := true, named := ["gambrel/profile.table"], apart := false, laid := [("gambrel/profile.table", laid_gambrel_profile_table)], narrowed := true }
def LayoutBigUptoSaid : Prop := layoutBigUptoRow.holds Tryd.pinned (OpenSpec.upto layoutBigSpec)

end Rows
end Go.Proofs.YtalallkpejlclaaDoor
