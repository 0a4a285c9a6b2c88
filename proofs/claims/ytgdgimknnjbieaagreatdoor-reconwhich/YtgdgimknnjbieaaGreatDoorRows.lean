/-
  NARROWER THAN 'FOR EVERY INPUT', by the rows' own cells (each row's printed sentence says how): ReconTells: laid · ReconUpdates: laid · ReconAny: laid · ReconFew: laid · ReconChanges: laid · ReconWhich: laid.
  DERIVED. THE GIVEN ROWS OF THIS SEAT. 6 by the template 'for every input the law returns true; each argument reads behind the call as it read before'; 0 by the template 'total and deterministic' (their statements: YtgdgimknnjbieaaGreatDoorTotals.lean).
  GIVEN WITH THE SEED: the statements are not yours to turn. If you find one false, say at which input.
  Laid BY PROGRAM, IN A SANDBOX (cutbox-rows.mjs): the forced cells as the released guide's own fill.sh prints them over the translation 35f1cf8d8d9bbbc7… (all of the seat's roots in one cut). By AI agents, Wed Nov 11 2026. No macro, syntax, notation, axiom, sorry.
-/
import Derived.Test.YtgdgimknnjbieaaGreatDoorChecked
import GoSem.Claim
import GoSem.ClaimJoined
import GoSem.ClaimMapViews
import Derived.JoinedTies
import Derived.KernelRfl
namespace Go.Proofs.YtgdgimknnjbieaaGreatDoor
/- THE CELL 'sum', in the pinned program and in every row, IS THE sha256 OF THE DUMP (.gsa) THAT YtgdgimknnjbieaaGreatDoorProg.lean LOADS. Nothing in Lean hashes anything: it is a label: what it is worth is what the hold of that sum in a sandbox is worth. -/
noncomputable def Tryz.pinned : Pinned := { name := "ytgdgimknnjbieaagreatdoor", sum := "35f1cf8d8d9bbbc7edd23fd7995596a4041604d7c418faceb133a18d5b79ebe8", checked := Tryz.checked }
namespace Rows
def none {H : Type} : Left H := { results := [], args := [] }

/- WHAT THE LISTED PACKAGE-LEVEL VARIABLES READ AS WHEN THE CALL BEGINS. Each datum BY PROGRAM (the guide's laid-datum.mjs) off the statement by which the dump's own 'gosem.cut.vars' lays the variable. In a bare row this is a premise. The card (YtgdgimknnjbieaaGreatDoorCards.lean) ties it to the program's text. -/
def laid_gambrel_profile_table {H : Type} : DataW H := .agg [.agg [.lit (.string [106, 118]), .lit (.int .i64 8), .lit (.int .u32 285), .lit (.int .u8 106), .lit (.int .i64 4)], .agg [.lit (.string [106, 99]), .lit (.int .i64 16), .lit (.int .u32 69643), .lit (.int .u8 106), .lit (.int .i64 4)], .agg [.lit (.string [105, 114]), .lit (.int .i64 8), .lit (.int .u32 285), .lit (.int .u8 105), .lit (.int .i64 3)], .agg [.lit (.string [105, 99]), .lit (.int .i64 8), .lit (.int .u32 285), .lit (.int .u8 105), .lit (.int .i64 4)], .agg [.lit (.string [98, 98]), .lit (.int .i64 8), .lit (.int .u32 285), .lit (.int .u8 98), .lit (.int .i64 4)], .agg [.lit (.string [107, 112]), .lit (.int .i64 8), .lit (.int .u32 285), .lit (.int .u8 112), .lit (.int .i64 4)]]

/-- 'gambrellaw12.ReconTells': WHATEVER THE INPUT: true; the input reads as it did. -/
def reconTellsSpec : ChangeSpec := { name := "reconTells", fn := fun _ => fun
  | [d1, d2, d3] => { results := [.lit (.bool true)], args := [d1, d2, d3] }
  | _ => none }
def reconTellsRow : OpenClaim := { program := "ytgdgimknnjbieaagreatdoor", sum := "35f1cf8d8d9bbbc7edd23fd7995596a4041604d7c418faceb133a18d5b79ebe8", func := "gambrel/gambrellaw12.ReconTells", spec := "reconTells", inPlace := ["sync/atomic.LoadUint32", "(*internal/sync.Mutex).Lock", "internal/race.Disable", "sync/atomic.CompareAndSwapInt32", "internal/race.Enable", "internal/race.Acquire", "(*internal/sync.Mutex).lockSlow", "internal/sync.runtime_canSpin", "internal/sync.runtime_doSpin", "internal/sync.throw", "internal/sync.runtime_nanotime", "internal/sync.runtime_SemacquireMutex", "sync/atomic.AddInt32", "(*internal/sync.Mutex).Unlock", "internal/race.ReleaseMerge", "(*internal/sync.Mutex).unlockSlow", "internal/sync.fatal", "internal/sync.runtime_Semrelease", "sync/atomic.StoreUint32"], unfollowed := true, recurses := true, named := ["gambrel/profile.table"], apart := false, laid := [("gambrel/profile.table", laid_gambrel_profile_table)] }
def ReconTellsSaid : Prop := reconTellsRow.holds Tryz.pinned (OpenSpec.ofChange reconTellsSpec)

/-- ITS FALSE NEIGHBOUR: 'it returns false'. Refute it at one input. -/
def reconTellsWrong : ChangeSpec := { name := "reconTells", fn := fun _ => fun
  | [d1, d2, d3] => { results := [.lit (.bool false)], args := [d1, d2, d3] }
  | _ => none }
def ReconTellsWrongFalsely : Prop := reconTellsRow.holds Tryz.pinned (OpenSpec.ofChange reconTellsWrong)

/-- 'gambrellaw12.ReconUpdates': WHATEVER THE INPUT: true; the input reads as it did. -/
def reconUpdatesSpec : ChangeSpec := { name := "reconUpdates", fn := fun _ => fun
  | [d1, d2, d3] => { results := [.lit (.bool true)], args := [d1, d2, d3] }
  | _ => none }
def reconUpdatesRow : OpenClaim := { program := "ytgdgimknnjbieaagreatdoor", sum := "35f1cf8d8d9bbbc7edd23fd7995596a4041604d7c418faceb133a18d5b79ebe8", func := "gambrel/gambrellaw12.ReconUpdates", spec := "reconUpdates", inPlace := ["sync/atomic.LoadUint32", "(*internal/sync.Mutex).Lock", "internal/race.Disable", "sync/atomic.CompareAndSwapInt32", "internal/race.Enable", "internal/race.Acquire", "(*internal/sync.Mutex).lockSlow", "internal/sync.runtime_canSpin", "internal/sync.runtime_doSpin", "internal/sync.throw", "internal/sync.runtime_nanotime", "internal/sync.runtime_SemacquireMutex", "sync/atomic.AddInt32", "(*internal/sync.Mutex).Unlock", "internal/race.ReleaseMerge", "(*internal/sync.Mutex).unlockSlow", "internal/sync.fatal", "internal/sync.runtime_Semrelease", "sync/atomic.StoreUint32"], unfollowed := true, recurses := true, named := ["gambrel/profile.table"], apart := false, laid := [("gambrel/profile.table", laid_gambrel_profile_table)] }
def ReconUpdatesSaid : Prop := reconUpdatesRow.holds Tryz.pinned (OpenSpec.ofChange reconUpdatesSpec)

/-- ITS FALSE NEIGHBOUR: 'it returns false'. Refute it at one input. -/
def reconUpdatesWrong : ChangeSpec := { name := "reconUpdates", fn := fun _ => fun
  | [d1, d2, d3] => { results := [.lit (.bool false)], args := [d1, d2, d3] }
  | _ => none }
def ReconUpdatesWrongFalsely : Prop := reconUpdatesRow.holds Tryz.pinned (OpenSpec.ofChange reconUpdatesWrong)

/-- 'gambrellaw12.ReconAny': WHATEVER THE INPUT: true; the input reads as it did. -/
def reconAnySpec : ChangeSpec := { name := "reconAny", fn := fun _ => fun
  | [d1, d2, d3] => { results := [.lit (.bool true)], args := [d1, d2, d3] }
  | _ => none }
def reconAnyRow : OpenClaim := { program := "ytgdgimknnjbieaagreatdoor", sum := "35f1cf8d8d9bbbc7edd23fd7995596a4041604d7c418faceb133a18d5b79ebe8", func := "gambrel/gambrellaw12.ReconAny", spec := "reconAny", inPlace := ["sync/atomic.LoadUint32", "(*internal/sync.Mutex).Lock", "internal/race.Disable", "sync/atomic.CompareAndSwapInt32", "internal/race.Enable", "internal/race.Acquire", "(*internal/sync.Mutex).lockSlow", "internal/sync.runtime_canSpin", "internal/sync.runtime_doSpin", "internal/sync.throw", "internal/sync.runtime_nanotime", "internal/sync.runtime_SemacquireMutex", "sync/atomic.AddInt32", "(*internal/sync.Mutex).Unlock", "internal/race.ReleaseMerge", "(*internal/sync.Mutex).unlockSlow", "internal/sync.fatal", "internal/sync.runtime_Semrelease", "sync/atomic.StoreUint32"], unfollowed := true, recurses := true, named := ["gambrel/profile.table"], apart := false, laid := [("gambrel/profile.table", laid_gambrel_profile_table)] }
def ReconAnySaid : Prop := reconAnyRow.holds Tryz.pinned (OpenSpec.ofChange reconAnySpec)

/-- ITS FALSE NEIGHBOUR: 'it returns false'. Refute it at one input. -/
def reconAnyWrong : ChangeSpec := { name := "reconAny", fn := fun _ => fun
  | [d1, d2, d3] => { results := [.lit (.bool false)], args := [d1, d2, d3] }
  | _ => none }
def ReconAnyWrongFalsely : Prop := reconAnyRow.holds Tryz.pinned (OpenSpec.ofChange reconAnyWrong)

/-- 'gambrellaw12.ReconFew': WHATEVER THE INPUT: true; the input reads as it did. -/
def reconFewSpec : ChangeSpec := { name := "reconFew", fn := fun _ => fun
  | [d1, d2, d3] => { results := [.lit (.bool true)], args := [d1, d2, d3] }
  | _ => none }
def reconFewRow : OpenClaim := { program := "ytgdgimknnjbieaagreatdoor", sum := "35f1cf8d8d9bbbc7edd23fd7995596a4041604d7c418faceb133a18d5b79ebe8", func := "gambrel/gambrellaw12.ReconFew", spec := "reconFew", inPlace := ["sync/atomic.LoadUint32", "(*internal/sync.Mutex).Lock", "internal/race.Disable", "sync/atomic.CompareAndSwapInt32", "internal/race.Enable", "internal/race.Acquire", "(*internal/sync.Mutex).lockSlow", "internal/sync.runtime_canSpin", "internal/sync.runtime_doSpin", "internal/sync.throw", "internal/sync.runtime_nanotime", "internal/sync.runtime_SemacquireMutex", "sync/atomic.AddInt32", "(*internal/sync.Mutex).Unlock", "internal/race.ReleaseMerge", "(*internal/sync.Mutex).unlockSlow", "internal/sync.fatal", "internal/sync.runtime_Semrelease", "sync/atomic.StoreUint32"], unfollowed := true, recurses := true, named := ["gambrel/profile.table"], apart := false, laid := [("gambrel/profile.table", laid_gambrel_profile_table)] }
def ReconFewSaid : Prop := reconFewRow.holds Tryz.pinned (OpenSpec.ofChange reconFewSpec)

/-- ITS FALSE NEIGHBOUR: 'it returns false'. Refute it at one input. -/
def reconFewWrong : ChangeSpec := { name := "reconFew", fn := fun _ => fun
  | [d1, d2, d3] => { results := [.lit (.bool false)], args := [d1, d2, d3] }
  | _ => none }
def ReconFewWrongFalsely : Prop := reconFewRow.holds Tryz.pinned (OpenSpec.ofChange reconFewWrong)

/-- 'gambrellaw12.ReconChanges': WHATEVER THE INPUT: true; the input reads as it did. -/
def reconChangesSpec : ChangeSpec := { name := "reconChanges", fn := fun _ => fun
  | [d1, d2, d3] => { results := [.lit (.bool true)], args := [d1, d2, d3] }
  | _ => none }
def reconChangesRow : OpenClaim := { program := "ytgdgimknnjbieaagreatdoor", sum := "35f1cf8d8d9bbbc7edd23fd7995596a4041604d7c418faceb133a18d5b79ebe8", func := "gambrel/gambrellaw12.ReconChanges", spec := "reconChanges", inPlace := ["sync/atomic.LoadUint32", "(*internal/sync.Mutex).Lock", "internal/race.Disable", "sync/atomic.CompareAndSwapInt32", "internal/race.Enable", "internal/race.Acquire", "(*internal/sync.Mutex).lockSlow", "internal/sync.runtime_canSpin", "internal/sync.runtime_doSpin", "internal/sync.throw", "internal/sync.runtime_nanotime", "internal/sync.runtime_SemacquireMutex", "sync/atomic.AddInt32", "(*internal/sync.Mutex).Unlock", "internal/race.ReleaseMerge", "(*internal/sync.Mutex).unlockSlow", "internal/sync.fatal", "internal/sync.runtime_Semrelease", "sync/atomic.StoreUint32"], unfollowed := true, recurses := true, named := ["gambrel/profile.table"], apart := false, laid := [("gambrel/profile.table", laid_gambrel_profile_table)] }
def ReconChangesSaid : Prop := reconChangesRow.holds Tryz.pinned (OpenSpec.ofChange reconChangesSpec)

/-- ITS FALSE NEIGHBOUR: 'it returns false'. Refute it at one input. -/
def reconChangesWrong : ChangeSpec := { name := "reconChanges", fn := fun _ => fun
  | [d1, d2, d3] => { results := [.lit (.bool false)], args := [d1, d2, d3] }
  | _ => none }
def ReconChangesWrongFalsely : Prop := reconChangesRow.holds Tryz.pinned (OpenSpec.ofChange reconChangesWrong)

/-- 'gambrellaw12.ReconWhich': WHATEVER THE INPUT: true; the input reads as it did. -/
def reconWhichSpec : ChangeSpec := { name := "reconWhich", fn := fun _ => fun
  | [d1, d2, d3] => { results := [.lit (.bool true)], args := [d1, d2, d3] }
  | _ => none }
def reconWhichRow : OpenClaim := { program := "ytgdgimknnjbieaagreatdoor", sum := "35f1cf8d8d9bbbc7edd23fd7995596a4041604d7c418faceb133a18d5b79ebe8", func := "gambrel/gambrellaw12.ReconWhich", spec := "reconWhich", inPlace := ["sync/atomic.LoadUint32", "(*internal/sync.Mutex).Lock", "internal/race.Disable", "sync/atomic.CompareAndSwapInt32", "internal/race.Enable", "internal/race.Acquire", "(*internal/sync.Mutex).lockSlow", "internal/sync.runtime_canSpin", "internal/sync.runtime_doSpin", "internal/sync.throw", "internal/sync.runtime_nanotime", "internal/sync.runtime_SemacquireMutex", "sync/atomic.AddInt32", "(*internal/sync.Mutex).Unlock", "internal/race.ReleaseMerge", "(*internal/sync.Mutex).unlockSlow", "internal/sync.fatal", "internal/sync.runtime_Semrelease", "sync/atomic.StoreUint32"], unfollowed := true, recurses := true, named := ["gambrel/profile.table"], apart := false, laid := [("gambrel/profile.table", laid_gambrel_profile_table)] }
def ReconWhichSaid : Prop := reconWhichRow.holds Tryz.pinned (OpenSpec.ofChange reconWhichSpec)

/-- ITS FALSE NEIGHBOUR: 'it returns false'. Refute it at one input. -/
def reconWhichWrong : ChangeSpec := { name := "reconWhich", fn := fun _ => fun
  | [d1, d2, d3] => { results := [.lit (.bool false)], args := [d1, d2, d3] }
  | _ => none }
def ReconWhichWrongFalsely : Prop := reconWhichRow.holds Tryz.pinned (OpenSpec.ofChange reconWhichWrong)

/- THE SECOND FORM. 'bulk': how many values and letters a reading holds, each counted each time it is reached (what is shared counts as often as it is met; a slice's spare places count too). A statement '..UptoSaid' is the law's where the arguments, and the package variables that the reading takes, are together of bulk at most 1048576: NARROWER than '..Said'. Prove '..Said' where nothing that the law and all that it calls make is longer than what came in: it says more and counts as full. Else prove '..UptoSaid'. A law counts once. -/
mutual
def uptoBulk {H : Type} : DataW H → Nat
  | .lit (.string bytes) => bytes.length + 1
  | .lit _ => 1
  | .nil => 1
  | .ptr d => uptoBulk d + 1
  | .slice elems spare => uptoBulkAll elems + uptoBulkAll spare + 1
  | .agg parts => uptoBulkAll parts + 1
  | .iface _ d => uptoBulk d + 1
  | .map entries => uptoBulkEntries entries + 1
  | .held _ => 1
def uptoBulkAll {H : Type} : List (DataW H) → Nat
  | [] => 0
  | d :: r => uptoBulk d + uptoBulkAll r
def uptoBulkEntries {H : Type} : List (Lit × DataW H) → Nat
  | [] => 0
  | x :: r => uptoBulkEntry x + uptoBulkEntries r
def uptoBulkEntry {H : Type} : Lit × DataW H → Nat
  | (.string bytes, d) => bytes.length + uptoBulk d + 1
  | (_, d) => uptoBulk d + 1
 end
def uptoSmall : (H : Type) → List (DataW H) → Bool := fun _ ds => decide (uptoBulkAll ds ≤ 1048576)
def OpenSpec.upto (s : _root_.Go.ChangeSpec) : _root_.Go.OpenSpec := { _root_.Go.OpenSpec.ofChange s with cond := some uptoSmall }

/-- 'gambrellaw12.ReconTells', WHERE WHAT IT READS IS OF BULK AT MOST 1048576: true; the input reads as it did. -/
def reconTellsUptoRow : OpenClaim := { program := "ytgdgimknnjbieaagreatdoor", sum := "35f1cf8d8d9bbbc7edd23fd7995596a4041604d7c418faceb133a18d5b79ebe8", func := "gambrel/gambrellaw12.ReconTells", spec := "reconTells", inPlace := ["sync/atomic.LoadUint32", "(*internal/sync.Mutex).Lock", "internal/race.Disable", "sync/atomic.CompareAndSwapInt32", "internal/race.Enable", "internal/race.Acquire", "(*internal/sync.Mutex).lockSlow", "internal/sync.runtime_canSpin", "internal/sync.runtime_doSpin", "internal/sync.throw", "internal/sync.runtime_nanotime", "internal/sync.runtime_SemacquireMutex", "sync/atomic.AddInt32", "(*internal/sync.Mutex).Unlock", "internal/race.ReleaseMerge", "(*internal/sync.Mutex).unlockSlow", "internal/sync.fatal", "internal/sync.runtime_Semrelease", "sync/atomic.StoreUint32"], unfollowed := true, recurses := true, named := ["gambrel/profile.table"], apart := false, laid := [("gambrel/profile.table", laid_gambrel_profile_table)], narrowed := true }
def ReconTellsUptoSaid : Prop := reconTellsUptoRow.holds Tryz.pinned (OpenSpec.upto reconTellsSpec)

/-- 'gambrellaw12.ReconUpdates', WHERE WHAT IT READS IS OF BULK AT MOST 1048576: true; the input reads as it did. -/
def reconUpdatesUptoRow : OpenClaim := { program := "ytgdgimknnjbieaagreatdoor", sum := "35f1cf8d8d9bbbc7edd23fd7995596a4041604d7c418faceb133a18d5b79ebe8", func := "gambrel/gambrellaw12.ReconUpdates", spec := "reconUpdates", inPlace := ["sync/atomic.LoadUint32", "(*internal/sync.Mutex).Lock", "internal/race.Disable", "sync/atomic.CompareAndSwapInt32", "internal/race.Enable", "internal/race.Acquire", "(*internal/sync.Mutex).lockSlow", "internal/sync.runtime_canSpin", "internal/sync.runtime_doSpin", "internal/sync.throw", "internal/sync.runtime_nanotime", "internal/sync.runtime_SemacquireMutex", "sync/atomic.AddInt32", "(*internal/sync.Mutex).Unlock", "internal/race.ReleaseMerge", "(*internal/sync.Mutex).unlockSlow", "internal/sync.fatal", "internal/sync.runtime_Semrelease", "sync/atomic.StoreUint32"], unfollowed := true, recurses := true, named := ["gambrel/profile.table"], apart := false, laid := [("gambrel/profile.table", laid_gambrel_profile_table)], narrowed := true }
def ReconUpdatesUptoSaid : Prop := reconUpdatesUptoRow.holds Tryz.pinned (OpenSpec.upto reconUpdatesSpec)

/-- 'gambrellaw12.ReconAny', WHERE WHAT IT READS IS OF BULK AT MOST 1048576: true; the input reads as it did. -/
def reconAnyUptoRow : OpenClaim := { program := "ytgdgimknnjbieaagreatdoor", sum := "35f1cf8d8d9bbbc7edd23fd7995596a4041604d7c418faceb133a18d5b79ebe8", func := "gambrel/gambrellaw12.ReconAny", spec := "reconAny", inPlace := ["sync/atomic.LoadUint32", "(*internal/sync.Mutex).Lock", "internal/race.Disable", "sync/atomic.CompareAndSwapInt32", "internal/race.Enable", "internal/race.Acquire", "(*internal/sync.Mutex).lockSlow", "internal/sync.runtime_canSpin", "internal/sync.runtime_doSpin", "internal/sync.throw", "internal/sync.runtime_nanotime", "internal/sync.runtime_SemacquireMutex", "sync/atomic.AddInt32", "(*internal/sync.Mutex).Unlock", "internal/race.ReleaseMerge", "(*internal/sync.Mutex).unlockSlow", "internal/sync.fatal", "internal/sync.runtime_Semrelease", "sync/atomic.StoreUint32"], unfollowed := true, recurses := true, named := ["gambrel/profile.table"], apart := false, laid := [("gambrel/profile.table", laid_gambrel_profile_table)], narrowed := true }
def ReconAnyUptoSaid : Prop := reconAnyUptoRow.holds Tryz.pinned (OpenSpec.upto reconAnySpec)

/-- 'gambrellaw12.ReconFew', WHERE WHAT IT READS IS OF BULK AT MOST 1048576: true; the input reads as it did. -/
def reconFewUptoRow : OpenClaim := { program := "ytgdgimknnjbieaagreatdoor", sum := "35f1cf8d8d9bbbc7edd23fd7995596a4041604d7c418faceb133a18d5b79ebe8", func := "gambrel/gambrellaw12.ReconFew", spec := "reconFew", inPlace := ["sync/atomic.LoadUint32", "(*internal/sync.Mutex).Lock", "internal/race.Disable", "sync/atomic.CompareAndSwapInt32", "internal/race.Enable", "internal/race.Acquire", "(*internal/sync.Mutex).lockSlow", "internal/sync.runtime_canSpin", "internal/sync.runtime_doSpin", "internal/sync.throw", "internal/sync.runtime_nanotime", "internal/sync.runtime_SemacquireMutex", "sync/atomic.AddInt32", "(*internal/sync.Mutex).Unlock", "internal/race.ReleaseMerge", "(*internal/sync.Mutex).unlockSlow", "internal/sync.fatal", "internal/sync.runtime_Semrelease", "sync/atomic.StoreUint32"], unfollowed := true, recurses := true, named := ["gambrel/profile.table"], apart := false, laid := [("gambrel/profile.table", laid_gambrel_profile_table)], narrowed := true }
def ReconFewUptoSaid : Prop := reconFewUptoRow.holds Tryz.pinned (OpenSpec.upto reconFewSpec)

/-- 'gambrellaw12.ReconChanges', WHERE WHAT IT READS IS OF BULK AT MOST 1048576: true; the input reads as it did. -/
def reconChangesUptoRow : OpenClaim := { program := "ytgdgimknnjbieaagreatdoor", sum := "35f1cf8d8d9bbbc7edd23fd7995596a4041604d7c418faceb133a18d5b79ebe8", func := "gambrel/gambrellaw12.ReconChanges", spec := "reconChanges", inPlace := ["sync/atomic.LoadUint32", "(*internal/sync.Mutex).Lock", "internal/race.Disable", "sync/atomic.CompareAndSwapInt32", "internal/race.Enable", "internal/race.Acquire", "(*internal/sync.Mutex).lockSlow", "internal/sync.runtime_canSpin", "internal/sync.runtime_doSpin", "internal/sync.throw", "internal/sync.runtime_nanotime", "internal/sync.runtime_SemacquireMutex", "sync/atomic.AddInt32", "(*internal/sync.Mutex).Unlock", "internal/race.ReleaseMerge", "(*internal/sync.Mutex).unlockSlow", "internal/sync.fatal", "internal/sync.runtime_Semrelease", "sync/atomic.StoreUint32"], unfollowed := true, recurses := true, named := ["gambrel/profile.table"], apart := false, laid := [("gambrel/profile.table", laid_gambrel_profile_table)], narrowed := true }
def ReconChangesUptoSaid : Prop := reconChangesUptoRow.holds Tryz.pinned (OpenSpec.upto reconChangesSpec)

/-- 'gambrellaw12.ReconWhich', WHERE WHAT IT READS IS OF BULK AT MOST 1048576: true; the input reads as it did. -/
def reconWhichUptoRow : OpenClaim := { program := "ytgdgimknnjbieaagreatdoor", sum := "35f1cf8d8d9bbbc7edd23fd7995596a4041604d7c418faceb133a18d5b79ebe8", func := "gambrel/gambrellaw12.ReconWhich", spec := "reconWhich", inPlace := ["sync/atomic.LoadUint32", "(*internal/sync.Mutex).Lock", "internal/race.Disable", "sync/atomic.CompareAndSwapInt32", "internal/race.Enable", "internal/race.Acquire", "(*internal/sync.Mutex).lockSlow", "internal/sync.runtime_canSpin", "internal/sync.runtime_doSpin", "internal/sync.throw", "internal/sync.runtime_nanotime", "internal/sync.runtime_SemacquireMutex", "sync/atomic.AddInt32", "(*internal/sync.Mutex).Unlock", "internal/race.ReleaseMerge", "(*internal/sync.Mutex).unlockSlow", "internal/sync.fatal", "internal/sync.runtime_Semrelease", "sync/atomic.StoreUint32"], unfollowed := true, recurses := true, named := ["gambrel/profile.table"], apart := false, laid := [("gambrel/profile.table", laid_gambrel_profile_table)], narrowed := true }
def ReconWhichUptoSaid : Prop := reconWhichUptoRow.holds Tryz.pinned (OpenSpec.upto reconWhichSpec)

end Rows
end Go.Proofs.YtgdgimknnjbieaaGreatDoor
