/-
  NARROWER THAN 'FOR EVERY INPUT', by the rows' own cells (each row's printed sentence says how): ProfileTells: laid · ProfileAll: laid · ProfileSafe: laid · ProfileAny: laid.
  DERIVED. THE GIVEN ROWS OF THIS SEAT. 4 by the template 'for every input the law returns true; each argument reads behind the call as it read before'; 0 by the template 'total and deterministic' (their statements: YtdidlfeolbcblaaGreatDoorTotals.lean).
  GIVEN WITH THE SEED: the statements are not yours to turn. If you find one false, say at which input.
  Laid BY PROGRAM, IN A SANDBOX (cutbox-rows.mjs): the forced cells as the released guide's own fill.sh prints them over the translation 83752d117a38c60e… (all of the seat's roots in one cut). By AI agents, Wed Nov 11 2026. No macro, syntax, notation, axiom, sorry.
-/
import Derived.Test.YtdidlfeolbcblaaGreatDoorChecked
import GoSem.Claim
import GoSem.ClaimJoined
import GoSem.ClaimMapViews
import Derived.JoinedTies
import Derived.KernelRfl
namespace Go.Proofs.YtdidlfeolbcblaaGreatDoor
/- THE CELL 'sum', in the pinned program and in every row, IS THE sha256 OF THE DUMP (.gsa) THAT YtdidlfeolbcblaaGreatDoorProg.lean LOADS. Nothing in Lean hashes anything: it is a label: what it is worth is what the hold of that sum in a sandbox is worth. -/
noncomputable def Tryz.pinned : Pinned := { name := "ytdidlfeolbcblaagreatdoor", sum := "83752d117a38c60e1211071749a393699fed097993fe3bb88ac4681bbd69d7ad", checked := Tryz.checked }
namespace Rows
def none {H : Type} : Left H := { results := [], args := [] }

/- WHAT THE LISTED PACKAGE-LEVEL VARIABLES READ AS WHEN THE CALL BEGINS. Each datum BY PROGRAM (the guide's laid-datum.mjs) off the statement by which the dump's own 'gosem.cut.vars' lays the variable. In a bare row this is a premise. The card (YtdidlfeolbcblaaGreatDoorCards.lean) ties it to the program's text. -/
def laid_gambrel_profile_table {H : Type} : DataW H := .agg [.agg [.lit (.string [106, 118]), .lit (.int .i64 8), .lit (.int .u32 285), .lit (.int .u8 106), .lit (.int .i64 4)], .agg [.lit (.string [106, 99]), .lit (.int .i64 16), .lit (.int .u32 69643), .lit (.int .u8 106), .lit (.int .i64 4)], .agg [.lit (.string [105, 114]), .lit (.int .i64 8), .lit (.int .u32 285), .lit (.int .u8 105), .lit (.int .i64 3)], .agg [.lit (.string [105, 99]), .lit (.int .i64 8), .lit (.int .u32 285), .lit (.int .u8 105), .lit (.int .i64 4)], .agg [.lit (.string [98, 98]), .lit (.int .i64 8), .lit (.int .u32 285), .lit (.int .u8 98), .lit (.int .i64 4)], .agg [.lit (.string [107, 112]), .lit (.int .i64 8), .lit (.int .u32 285), .lit (.int .u8 112), .lit (.int .i64 4)]]

/-- 'gambrellaw09.ProfileTells': WHATEVER THE INPUT: true; the input reads as it did. -/
def profileTellsSpec : ChangeSpec := { name := "profileTells", fn := fun _ => fun
  | [d1, d2, d3] => { results := [.lit (.bool true)], args := [d1, d2, d3] }
  | _ => none }
def profileTellsRow : OpenClaim := { program := "ytdidlfeolbcblaagreatdoor", sum := "83752d117a38c60e1211071749a393699fed097993fe3bb88ac4681bbd69d7ad", func := "gambrel/gambrellaw09.ProfileTells", spec := "profileTells", inPlace := ["sync/atomic.LoadUint32", "(*internal/sync.Mutex).Lock", "internal/race.Disable", "sync/atomic.CompareAndSwapInt32", "internal/race.Enable", "internal/race.Acquire", "(*internal/sync.Mutex).lockSlow", "internal/sync.runtime_canSpin", "internal/sync.runtime_doSpin", "internal/sync.throw", "internal/sync.runtime_nanotime", "internal/sync.runtime_SemacquireMutex", "sync/atomic.AddInt32", "(*internal/sync.Mutex).Unlock", "internal/race.ReleaseMerge", "(*internal/sync.Mutex).unlockSlow", "internal/sync.fatal", "internal/sync.runtime_Semrelease", "sync/atomic.StoreUint32"], unfollowed := true, recurses := true, named := ["gambrel/profile.table"], apart := false, laid := [("gambrel/profile.table", laid_gambrel_profile_table)] }
def ProfileTellsSaid : Prop := profileTellsRow.holds Tryz.pinned (OpenSpec.ofChange profileTellsSpec)

/-- ITS FALSE NEIGHBOUR: 'it returns false'. Refute it at one input. -/
def profileTellsWrong : ChangeSpec := { name := "profileTells", fn := fun _ => fun
  | [d1, d2, d3] => { results := [.lit (.bool false)], args := [d1, d2, d3] }
  | _ => none }
def ProfileTellsWrongFalsely : Prop := profileTellsRow.holds Tryz.pinned (OpenSpec.ofChange profileTellsWrong)

/-- 'gambrellaw09.ProfileAll': WHATEVER THE INPUT: true; the input reads as it did. -/
def profileAllSpec : ChangeSpec := { name := "profileAll", fn := fun _ => fun
  | [d] => { results := [.lit (.bool true)], args := [d] }
  | _ => none }
def profileAllRow : OpenClaim := { program := "ytdidlfeolbcblaagreatdoor", sum := "83752d117a38c60e1211071749a393699fed097993fe3bb88ac4681bbd69d7ad", func := "gambrel/gambrellaw09.ProfileAll", spec := "profileAll", inPlace := ["sync/atomic.LoadUint32", "(*internal/sync.Mutex).Lock", "internal/race.Disable", "sync/atomic.CompareAndSwapInt32", "internal/race.Enable", "internal/race.Acquire", "(*internal/sync.Mutex).lockSlow", "internal/sync.runtime_canSpin", "internal/sync.runtime_doSpin", "internal/sync.throw", "internal/sync.runtime_nanotime", "internal/sync.runtime_SemacquireMutex", "sync/atomic.AddInt32", "(*internal/sync.Mutex).Unlock", "internal/race.ReleaseMerge", "(*internal/sync.Mutex).unlockSlow", "internal/sync.fatal", "internal/sync.runtime_Semrelease", "sync/atomic.StoreUint32"], unfollowed := true, recurses := true, named := ["gambrel/profile.table"], apart := false, laid := [("gambrel/profile.table", laid_gambrel_profile_table)] }
def ProfileAllSaid : Prop := profileAllRow.holds Tryz.pinned (OpenSpec.ofChange profileAllSpec)

/-- ITS FALSE NEIGHBOUR: 'it returns false'. Refute it at one input. -/
def profileAllWrong : ChangeSpec := { name := "profileAll", fn := fun _ => fun
  | [d] => { results := [.lit (.bool false)], args := [d] }
  | _ => none }
def ProfileAllWrongFalsely : Prop := profileAllRow.holds Tryz.pinned (OpenSpec.ofChange profileAllWrong)

/-- 'gambrellaw09.ProfileSafe': WHATEVER THE INPUT: true; the input reads as it did. -/
def profileSafeSpec : ChangeSpec := { name := "profileSafe", fn := fun _ => fun
  | [d] => { results := [.lit (.bool true)], args := [d] }
  | _ => none }
def profileSafeRow : OpenClaim := { program := "ytdidlfeolbcblaagreatdoor", sum := "83752d117a38c60e1211071749a393699fed097993fe3bb88ac4681bbd69d7ad", func := "gambrel/gambrellaw09.ProfileSafe", spec := "profileSafe", inPlace := ["sync/atomic.LoadUint32", "(*internal/sync.Mutex).Lock", "internal/race.Disable", "sync/atomic.CompareAndSwapInt32", "internal/race.Enable", "internal/race.Acquire", "(*internal/sync.Mutex).lockSlow", "internal/sync.runtime_canSpin", "internal/sync.runtime_doSpin", "internal/sync.throw", "internal/sync.runtime_nanotime", "internal/sync.runtime_SemacquireMutex", "sync/atomic.AddInt32", "(*internal/sync.Mutex).Unlock", "internal/race.ReleaseMerge", "(*internal/sync.Mutex).unlockSlow", "internal/sync.fatal", "internal/sync.runtime_Semrelease", "sync/atomic.StoreUint32"], unfollowed := true, recurses := true, named := ["gambrel/profile.table"], apart := false, laid := [("gambrel/profile.table", laid_gambrel_profile_table)] }
def ProfileSafeSaid : Prop := profileSafeRow.holds Tryz.pinned (OpenSpec.ofChange profileSafeSpec)

/-- ITS FALSE NEIGHBOUR: 'it returns false'. Refute it at one input. -/
def profileSafeWrong : ChangeSpec := { name := "profileSafe", fn := fun _ => fun
  | [d] => { results := [.lit (.bool false)], args := [d] }
  | _ => none }
def ProfileSafeWrongFalsely : Prop := profileSafeRow.holds Tryz.pinned (OpenSpec.ofChange profileSafeWrong)

/-- 'gambrellaw09.ProfileAny': WHATEVER THE INPUT: true; the input reads as it did. -/
def profileAnySpec : ChangeSpec := { name := "profileAny", fn := fun _ => fun
  | [d1, d2] => { results := [.lit (.bool true)], args := [d1, d2] }
  | _ => none }
def profileAnyRow : OpenClaim := { program := "ytdidlfeolbcblaagreatdoor", sum := "83752d117a38c60e1211071749a393699fed097993fe3bb88ac4681bbd69d7ad", func := "gambrel/gambrellaw09.ProfileAny", spec := "profileAny", inPlace := ["sync/atomic.LoadUint32", "(*internal/sync.Mutex).Lock", "internal/race.Disable", "sync/atomic.CompareAndSwapInt32", "internal/race.Enable", "internal/race.Acquire", "(*internal/sync.Mutex).lockSlow", "internal/sync.runtime_canSpin", "internal/sync.runtime_doSpin", "internal/sync.throw", "internal/sync.runtime_nanotime", "internal/sync.runtime_SemacquireMutex", "sync/atomic.AddInt32", "(*internal/sync.Mutex).Unlock", "internal/race.ReleaseMerge", "(*internal/sync.Mutex).unlockSlow", "internal/sync.fatal", "internal/sync.runtime_Semrelease", "sync/atomic.StoreUint32"], unfollowed := true, recurses := true, named := ["gambrel/profile.table"], apart := false, laid := [("gambrel/profile.table", laid_gambrel_profile_table)] }
def ProfileAnySaid : Prop := profileAnyRow.holds Tryz.pinned (OpenSpec.ofChange profileAnySpec)

/-- ITS FALSE NEIGHBOUR: 'it returns false'. Refute it at one input. -/
def profileAnyWrong : ChangeSpec := { name := "profileAny", fn := fun _ => fun
  | [d1, d2] => { results := [.lit (.bool false)], args := [d1, d2] }
  | _ => none }
def ProfileAnyWrongFalsely : Prop := profileAnyRow.holds Tryz.pinned (OpenSpec.ofChange profileAnyWrong)

/- THE SECOND FORM. 'bulk': how many values and letters a reading holds, each counted each time it is reached (what is shared counts as often as it is met; a slice's spare places count too). A statement '..UptoSaid' is the law's where the arguments, and the package variables that the reading takes, are together of bulk at most 1048576: NARROWER than '..Said'. Prove '..Said' where nothing that the law and all that it calls make is longer than what came in: it says more and counts as full. Else prove '..UptoSaid'. A law counts once. -/
mutual
def uptoBulk {H : Type} : DataW H → Nat
  | .lit (.string bytes) => bytes.length + 1
  | .lit _ => 1
  | .nil => 1
  | .ptr d => uptoBulk d + 1
  | .slice elems spare => uptoBulkAll elems + uptoBulkAll spare + 1
  | .agg parts => uptoBulkAll parts + 1
  | .iface _ d => uptoBulk d + 1
  | .map entries => uptoBulkEntries entries + 1
  | .held _ => 1
def uptoBulkAll {H : Type} : List (DataW H) → Nat
  | [] => 0
  | d :: r => uptoBulk d + uptoBulkAll r
def uptoBulkEntries {H : Type} : List (Lit × DataW H) → Nat
  | [] => 0
  | x :: r => uptoBulkEntry x + uptoBulkEntries r
def uptoBulkEntry {H : Type} : Lit × DataW H → Nat
  | (.string bytes, d) => bytes.length + uptoBulk d + 1
  | (_, d) => uptoBulk d + 1
 end
def uptoSmall : (H : Type) → List (DataW H) → Bool := fun _ ds => decide (uptoBulkAll ds ≤ 1048576)
def OpenSpec.upto (s : _root_.Go.ChangeSpec) : _root_.Go.OpenSpec := { _root_.Go.OpenSpec.ofChange s with cond := some uptoSmall }

/-- 'gambrellaw09.ProfileTells', WHERE WHAT IT READS IS OF BULK AT MOST 1048576: true; the input reads as it did. -/
def profileTellsUptoRow : OpenClaim := { program := "ytdidlfeolbcblaagreatdoor", sum := "83752d117a38c60e1211071749a393699fed097993fe3bb88ac4681bbd69d7ad", func := "gambrel/gambrellaw09.ProfileTells", spec := "profileTells", inPlace := ["sync/atomic.LoadUint32", "(*internal/sync.Mutex).Lock", "internal/race.Disable", "sync/atomic.CompareAndSwapInt32", "internal/race.Enable", "internal/race.Acquire", "(*internal/sync.Mutex).lockSlow", "internal/sync.runtime_canSpin", "internal/sync.runtime_doSpin", "internal/sync.throw", "internal/sync.runtime_nanotime", "internal/sync.runtime_SemacquireMutex", "sync/atomic.AddInt32", "(*internal/sync.Mutex).Unlock", "internal/race.ReleaseMerge", "(*internal/sync.Mutex).unlockSlow", "internal/sync.fatal", "internal/sync.runtime_Semrelease", "sync/atomic.StoreUint32"], unfollowed := true, recurses := true, named := ["gambrel/profile.table"], apart := false, laid := [("gambrel/profile.table", laid_gambrel_profile_table)], narrowed := true }
def ProfileTellsUptoSaid : Prop := profileTellsUptoRow.holds Tryz.pinned (OpenSpec.upto profileTellsSpec)

/-- 'gambrellaw09.ProfileAll', WHERE WHAT IT READS IS OF BULK AT MOST 1048576: true; the input reads as it did. -/
def profileAllUptoRow : OpenClaim := { program := "ytdidlfeolbcblaagreatdoor", sum := "83752d117a38c60e1211071749a393699fed097993fe3bb88ac4681bbd69d7ad", func := "gambrel/gambrellaw09.ProfileAll", spec := "profileAll", inPlace := ["sync/atomic.LoadUint32", "(*internal/sync.Mutex).Lock", "internal/race.Disable", "sync/atomic.CompareAndSwapInt32", "internal/race.Enable", "internal/race.Acquire", "(*internal/sync.Mutex).lockSlow", "internal/sync.runtime_canSpin", "internal/sync.runtime_doSpin", "internal/sync.throw", "internal/sync.runtime_nanotime", "internal/sync.runtime_SemacquireMutex", "sync/atomic.AddInt32", "(*internal/sync.Mutex).Unlock", "internal/race.ReleaseMerge", "(*internal/sync.Mutex).unlockSlow", "internal/sync.fatal", "internal/sync.runtime_Semrelease", "sync/atomic.StoreUint32"], unfollowed := true, recurses := true, named := ["gambrel/profile.table"], apart := false, laid := [("gambrel/profile.table", laid_gambrel_profile_table)], narrowed := true }
def ProfileAllUptoSaid : Prop := profileAllUptoRow.holds Tryz.pinned (OpenSpec.upto profileAllSpec)

/-- 'gambrellaw09.ProfileSafe', WHERE WHAT IT READS IS OF BULK AT MOST 1048576: true; the input reads as it did. -/
def profileSafeUptoRow : OpenClaim := { program := "ytdidlfeolbcblaagreatdoor", sum := "83752d117a38c60e1211071749a393699fed097993fe3bb88ac4681bbd69d7ad", func := "gambrel/gambrellaw09.ProfileSafe", spec := "profileSafe", inPlace := ["sync/atomic.LoadUint32", "(*internal/sync.Mutex).Lock", "internal/race.Disable", "sync/atomic.CompareAndSwapInt32", "internal/race.Enable", "internal/race.Acquire", "(*internal/sync.Mutex).lockSlow", "internal/sync.runtime_canSpin", "internal/sync.runtime_doSpin", "internal/sync.throw", "internal/sync.runtime_nanotime", "internal/sync.runtime_SemacquireMutex", "sync/atomic.AddInt32", "(*internal/sync.Mutex).Unlock", "internal/race.ReleaseMerge", "(*internal/sync.Mutex).unlockSlow", "internal/sync.fatal", "internal/sync.runtime_Semrelease", "sync/atomic.StoreUint32"], unfollowed := true, recurses := true, named := ["gambrel/profile.table"], apart := false, laid := [("gambrel/profile.table", laid_gambrel_profile_table)], narrowed := true }
def ProfileSafeUptoSaid : Prop := profileSafeUptoRow.holds Tryz.pinned (OpenSpec.upto profileSafeSpec)

/-- 'gambrellaw09.ProfileAny', WHERE WHAT IT READS IS OF BULK AT MOST 1048576: true; the input reads as it did. -/
def profileAnyUptoRow : OpenClaim := { program := "ytdidlfeolbcblaagreatdoor", sum := "83752d117a38c60e1211071749a393699fed097993fe3bb88ac4681bbd69d7ad", func := "gambrel/gambrellaw09.ProfileAny", spec := "profileAny", inPlace := ["sync/atomic.LoadUint32", "(*internal/sync.Mutex).Lock", "internal/race.Disable", "sync/atomic.CompareAndSwapInt32", "internal/race.Enable", "internal/race.Acquire", "(*internal/sync.Mutex).lockSlow", "internal/sync.runtime_canSpin", "internal/sync.runtime_doSpin", "internal/sync.throw", "internal/sync.runtime_nanotime", "internal/sync.runtime_SemacquireMutex", "sync/atomic.AddInt32", "(*internal/sync.Mutex).Unlock", "internal/race.ReleaseMerge", "(*internal/sync.Mutex).unlockSlow", "internal/sync.fatal", "internal/sync.runtime_Semrelease", "sync/atomic.StoreUint32"], unfollowed := true, recurses := true, named := ["gambrel/profile.table"], apart := false, laid := [("gambrel/profile.table", laid_gambrel_profile_table)], narrowed := true }
def ProfileAnyUptoSaid : Prop := profileAnyUptoRow.holds Tryz.pinned (OpenSpec.upto profileAnySpec)

end Rows
end Go.Proofs.YtdidlfeolbcblaaGreatDoor
