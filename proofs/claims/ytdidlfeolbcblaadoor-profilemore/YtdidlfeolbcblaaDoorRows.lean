/-
  NARROWER THAN 'FOR EVERY INPUT', by the rows' own cells (each row's printed sentence says how): ProfileMore: laid · ProfileTwins: laid.
  DERIVED. THE GIVEN ROWS OF THIS SEAT. 2 by the template 'for every input the law returns true; each argument reads behind the call as it read before'; 0 by the template 'total and deterministic' (their statements: YtdidlfeolbcblaaDoorTotals.lean).
  GIVEN WITH THE SEED: the statements are not yours to turn. If you find one false, say at which input.
  Laid BY PROGRAM, IN A SANDBOX (cutbox-rows.mjs): the forced cells as the released guide's own fill.sh prints them over the translation 5556501881e1366d… (all of the seat's roots in one cut). By AI agents, Wed Nov 11 2026. No macro, syntax, notation, axiom, sorry.
-/
import Derived.Test.YtdidlfeolbcblaaDoorChecked
import GoSem.Claim
import GoSem.ClaimJoined
import GoSem.ClaimMapViews
import Derived.JoinedTies
import Derived.KernelRfl
namespace Go.Proofs.YtdidlfeolbcblaaDoor
/- THE CELL 'sum', in the pinned program and in every row, IS THE sha256 OF THE DUMP (.gsa) THAT YtdidlfeolbcblaaDoorProg.lean LOADS. Nothing in Lean hashes anything: it is a label: what it is worth is what the hold of that sum in a sandbox is worth. -/
noncomputable def Tryd.pinned : Pinned := { name := "ytdidlfeolbcblaadoor", sum := "5556501881e1366de8b5a1eaf73b262eeb4d4b17224fac0bb32dba8dd5f8e47d", checked := Tryd.checked }
namespace Rows
def none {H : Type} : Left H := { results := [], args := [] }

/- WHAT THE LISTED PACKAGE-LEVEL VARIABLES READ AS WHEN THE CALL BEGINS. Each datum BY PROGRAM (the guide's laid-datum.mjs) off the statement by which the dump's own 'gosem.cut.vars' lays the variable. In a bare row this is a premise. The card (YtdidlfeolbcblaaDoorCards.lean) ties it to the program's text. -/
def laid_gambrel_profile_table {H : Type} : DataW H := .agg [.agg [.lit (.string [106, 118]), .lit (.int .i64 8), .lit (.int .u32 285), .lit (.int .u8 106), .lit (.int .i64 4)], .agg [.lit (.string [106, 99]), .lit (.int .i64 16), .lit (.int .u32 69643), .lit (.int .u8 106), .lit (.int .i64 4)], .agg [.lit (.string [105, 114]), .lit (.int .i64 8), .lit (.int .u32 285), .lit (.int .u8 105), .lit (.int .i64 3)], .agg [.lit (.string [105, 99]), .lit (.int .i64 8), .lit (.int .u32 285), .lit (.int .u8 105), .lit (.int .i64 4)], .agg [.lit (.string [98, 98]), .lit (.int .i64 8), .lit (.int .u32 285), .lit (.int .u8 98), .lit (.int .i64 4)], .agg [.lit (.string [107, 112]), .lit (.int .i64 8), .lit (.int .u32 285), .lit (.int .u8 112), .lit (.int .i64 4)]]

/-- 'gambrellaw09.ProfileMore': WHATEVER THE INPUT: true; the input reads as it did. -/
def profileMoreSpec : ChangeSpec := { name := "profileMore", fn := fun _ => fun
  | [d1, d2, d3] => { results := [.lit (.bool true)], args := [d1, d2, d3] }
  | _ => none }
def profileMoreRow : OpenClaim := { program := "ytdidlfeolbcblaadoor", sum := "5556501881e1366de8b5a1eaf73b262eeb4d4b17224fac0bb32dba8dd5f8e47d", func := "gambrel/gambrellaw09.ProfileMore", spec := "profileMore", inPlace := ["sync/atomic.LoadUint32", "(*internal/sync.Mutex).Lock", "internal/race.Disable", "sync/atomic.CompareAndSwapInt32", "internal/race.Enable", "internal/race.Acquire", "(*internal/sync.Mutex).lockSlow", "internal/sync.runtime_canSpin", "internal/sync.runtime_doSpin", "internal/sync.throw", "internal/sync.runtime_nanotime", "internal/sync.runtime_SemacquireMutex", "sync/atomic.AddInt32", "(*internal/sync.Mutex).Unlock", "internal/race.ReleaseMerge", "(*internal/sync.Mutex).unlockSlow", "internal/sync.fatal", "internal/sync.runtime_Semrelease", "sync/atomic.StoreUint32"], unfollowed := true, recurses := true, named := ["gambrel/profile.table"], apart := false, laid := [("gambrel/profile.table", laid_gambrel_profile_table)] }
def ProfileMoreSaid : Prop := profileMoreRow.holds Tryd.pinned (OpenSpec.ofChange profileMoreSpec)

/-- ITS FALSE NEIGHBOUR: 'it returns false'. Refute it at one input. -/
def profileMoreWrong : ChangeSpec := { name := "profileMore", fn := fun _ => fun
  | [d1, d2, d3] => { results := [.lit (.bool false)], args := [d1, d2, d3] }
  | _ => none }
def ProfileMoreWrongFalsely : Prop := profileMoreRow.holds Tryd.pinned (OpenSpec.ofChange profileMoreWrong)

/-- 'gambrellaw09.ProfileTwins': WHATEVER THE INPUT: true; the input reads as it did. -/
def profileTwinsSpec : ChangeSpec := { name := "profileTwins", fn := fun _ => fun
  | [d1, d2] => { results := [.lit (.bool true)], args := [d1, d2] }
  | _ => none }
def profileTwinsRow : OpenClaim := { program := "ytdidlfeolbcblaadoor", sum := "5556501881e1366de8b5a1eaf73b262eeb4d4b17224fac0bb32dba8dd5f8e47d", func := "gambrel/gambrellaw09.ProfileTwins", spec := "profileTwins", inPlace := ["sync/atomic.LoadUint32", "(*internal/sync.Mutex).Lock", "internal/race.Disable", "sync/atomic.CompareAndSwapInt32", "internal/race.Enable", "internal/race.Acquire", "(*internal/sync.Mutex).lockSlow", "internal/sync.runtime_canSpin", "internal/sync.runtime_doSpin", "internal/sync.throw", "internal/sync.runtime_nanotime", "internal/sync.runtime_SemacquireMutex", "sync/atomic.AddInt32", "(*internal/sync.Mutex).Unlock", "internal/race.ReleaseMerge", "(*internal/sync.Mutex).unlockSlow", "internal/sync.fatal", "internal/sync.runtime_Semrelease", "sync/atomic.StoreUint32"], unfollowed := true, recurses := true, named := ["gambrel/profile.table"], apart := false, laid := [("gambrel/profile.table", laid_gambrel_profile_table)] }
def ProfileTwinsSaid : Prop := profileTwinsRow.holds Tryd.pinned (OpenSpec.ofChange profileTwinsSpec)

/-- ITS FALSE NEIGHBOUR: 'it returns false'. Refute it at one input. -/
def profileTwinsWrong : ChangeSpec := { name := "profileTwins", fn := fun _ => fun
  | [d1, d2] => { results := [.lit (.bool false)], args := [d1, d2] }
  | _ => none }
def ProfileTwinsWrongFalsely : Prop := profileTwinsRow.holds Tryd.pinned (OpenSpec.ofChange profileTwinsWrong)

/- THE SECOND FORM. 'bulk': how many values and letters a reading holds, each counted each time it is reached (what is shared counts as often as it is met; a slice's spare places count too). A statement '..UptoSaid' is the law's where the arguments, and the package variables that the reading takes, are together of bulk at most 1048576: NARROWER than '..Said'. Prove '..Said' where nothing that the law and all that it calls make is longer than what came in: it says more and counts as full. Else prove '..UptoSaid'. A law counts once. -/
mutual
def uptoBulk {H : Type} : DataW H → Nat
  | .lit (.string bytes) => bytes.length + 1
  | .lit _ => 1
  | .nil => 1
  | .ptr d => uptoBulk d + 1
  | .slice elems spare => uptoBulkAll elems + uptoBulkAll spare + 1
  | .agg parts => uptoBulkAll parts + 1
  | .iface _ d => uptoBulk d + 1
  | .map entries => uptoBulkEntries entries + 1
  | .held _ => 1
def uptoBulkAll {H : Type} : List (DataW H) → Nat
  | [] => 0
  | d :: r => uptoBulk d + uptoBulkAll r
def uptoBulkEntries {H : Type} : List (Lit × DataW H) → Nat
  | [] => 0
  | x :: r => uptoBulkEntry x + uptoBulkEntries r
def uptoBulkEntry {H : Type} : Lit × DataW H → Nat
  | (.string bytes, d) => bytes.length + uptoBulk d + 1
  | (_, d) => uptoBulk d + 1
 end
def uptoSmall : (H : Type) → List (DataW H) → Bool := fun _ ds => decide (uptoBulkAll ds ≤ 1048576)
def OpenSpec.upto (s : _root_.Go.ChangeSpec) : _root_.Go.OpenSpec := { _root_.Go.OpenSpec.ofChange s with cond := some uptoSmall }

/-- 'gambrellaw09.ProfileMore', WHERE WHAT IT READS IS OF BULK AT MOST 1048576: true; the input reads as it did. -/
def profileMoreUptoRow : OpenClaim := { program := "ytdidlfeolbcblaadoor", sum := "5556501881e1366de8b5a1eaf73b262eeb4d4b17224fac0bb32dba8dd5f8e47d", func := "gambrel/gambrellaw09.ProfileMore", spec := "profileMore", inPlace := ["sync/atomic.LoadUint32", "(*internal/sync.Mutex).Lock", "internal/race.Disable", "sync/atomic.CompareAndSwapInt32", "internal/race.Enable", "internal/race.Acquire", "(*internal/sync.Mutex).lockSlow", "internal/sync.runtime_canSpin", "internal/sync.runtime_doSpin", "internal/sync.throw", "internal/sync.runtime_nanotime", "internal/sync.runtime_SemacquireMutex", "sync/atomic.AddInt32", "(*internal/sync.Mutex).Unlock", "internal/race.ReleaseMerge", "(*internal/sync.Mutex).unlockSlow", "internal/sync.fatal", "internal/sync.runtime_Semrelease", "sync/atomic.StoreUint32"], unfollowed := true, recurses := true, named := ["gambrel/profile.table"], apart := false, laid := [("gambrel/profile.table", laid_gambrel_profile_table)], narrowed := true }
def ProfileMoreUptoSaid : Prop := profileMoreUptoRow.holds Tryd.pinned (OpenSpec.upto profileMoreSpec)

/-- 'gambrellaw09.ProfileTwins', WHERE WHAT IT READS IS OF BULK AT MOST 1048576: true; the input reads as it did. -/
def profileTwinsUptoRow : OpenClaim := { program := "ytdidlfeolbcblaadoor", sum := "5556501881e1366de8b5a1eaf73b262eeb4d4b17224fac0bb32dba8dd5f8e47d", func := "gambrel/gambrellaw09.ProfileTwins", spec := "profileTwins", inPlace := ["sync/atomic.LoadUint32", "(*internal/sync.Mutex).Lock", "internal/race.Disable", "sync/atomic.CompareAndSwapInt32", "internal/race.Enable", "internal/race.Acquire", "(*internal/sync.Mutex).lockSlow", "internal/sync.runtime_canSpin", "internal/sync.runtime_doSpin", "internal/sync.throw", "internal/sync.runtime_nanotime", "internal/sync.runtime_SemacquireMutex", "sync/atomic.AddInt32", "(*internal/sync.Mutex).Unlock", "internal/race.ReleaseMerge", "(*internal/sync.Mutex).unlockSlow", "internal/sync.fatal", "internal/sync.runtime_Semrelease", "sync/atomic.StoreUint32"], unfollowed := true, recurses := true, named := ["gambrel/profile.table"], apart := false, laid := [("gambrel/profile.table", laid_gambrel_profile_table)], narrowed := true }
def ProfileTwinsUptoSaid : Prop := profileTwinsUptoRow.holds Tryd.pinned (OpenSpec.upto profileTwinsSpec)

end Rows
end Go.Proofs.YtdidlfeolbcblaaDoor
