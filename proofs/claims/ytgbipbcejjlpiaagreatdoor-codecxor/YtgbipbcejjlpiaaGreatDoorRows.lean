/-
  NARROWER THAN 'FOR EVERY INPUT', by the rows' own cells (each row's printed sentence says how): CodecParity: laid · CodecEncodes: laid · CodecVerifies: laid · CodecLinear: laid · CodecColumns: laid · CodecXor: laid.
  DERIVED. THE GIVEN ROWS OF THIS SEAT. 6 by the template 'for every input the law returns true; each argument reads behind the call as it read before'; 0 by the template 'total and deterministic' (their statements: YtgbipbcejjlpiaaGreatDoorTotals.lean).
  GIVEN WITH THE SEED: the statements are not yours to turn. If you find one false, say at which input.
  Laid BY PROGRAM, IN A SANDBOX (cutbox-rows.mjs): the forced cells as the released guide's own fill.sh prints them over the translation b2ce900cad059910… (all of the seat's roots in one cut). By AI agents, Wed Nov 11 2026. No macro, syntax, notation, axiom, sorry.
-/
import Derived.Test.YtgbipbcejjlpiaaGreatDoorChecked
import GoSem.Claim
import GoSem.ClaimJoined
import GoSem.ClaimMapViews
import Derived.JoinedTies
import Derived.KernelRfl
namespace Go.Proofs.YtgbipbcejjlpiaaGreatDoor
/- THE CELL 'sum', in the pinned program and in every row, IS THE sha256 OF THE DUMP (.gsa) THAT YtgbipbcejjlpiaaGreatDoorProg.lean LOADS. Nothing in Lean hashes anything: it is a label: what it is worth is what the hold of that sum in a sandbox is worth. -/
noncomputable def Tryz.pinned : Pinned := { name := "ytgbipbcejjlpiaagreatdoor", sum := "b2ce900cad0599101ca1f89f65778dac3ec69b5d3d53374d0625bc8439e90986", checked := Tryz.checked }
namespace Rows
def none {H : Type} : Left H := { results := [], args := [] }

/- WHAT THE LISTED PACKAGE-LEVEL VARIABLES READ AS WHEN THE CALL BEGINS. Each datum BY PROGRAM (the guide's laid-datum.mjs) off the statement by which the dump's own 'gosem.cut.vars' lays the variable. In a bare row this is a premise. The card (YtgbipbcejjlpiaaGreatDoorCards.lean) ties it to the program's text. -/
def laid_gambrel_profile_table {H : Type} : DataW H := .agg [.agg [.lit (.string [106, 118]), .lit (.int .i64 8), .lit (.int .u32 285), .lit (.int .u8 106), .lit (.int .i64 4)], .agg [.lit (.string [106, 99]), .lit (.int .i64 16), .lit (.int .u32 69643), .lit (.int .u8 106), .lit (.int .i64 4)], .agg [.lit (.string [105, 114]), .lit (.int .i64 8), .lit (.int .u32 285), .lit (.int .u8 105), .lit (.int .i64 3)], .agg [.lit (.string [105, 99]), .lit (.int .i64 8), .lit (.int .u32 285), .lit (.int .u8 105), .lit (.int .i64 4)], .agg [.lit (.string [98, 98]), .lit (.int .i64 8), .lit (.int .u32 285), .lit (.int .u8 98), .lit (.int .i64 4)], .agg [.lit (.string [107, 112]), .lit (.int .i64 8), .lit (.int .u32 285), .lit (.int .u8 112), .lit (.int .i64 4)]]

/-- 'gambrellaw11.CodecParity': WHATEVER THE INPUT: true; the input reads as it did. -/
def codecParitySpec : ChangeSpec := { name := "codecParity", fn := fun _ => fun
  | [d1, d2] => { results := [.lit (.bool true)], args := [d1, d2] }
  | _ => none }
def codecParityRow : OpenClaim := { program := "ytgbipbcejjlpiaagreatdoor", sum := "b2ce900cad0599101ca1f89f65778dac3ec69b5d3d53374d0625bc8439e90986", func := "gambrel/gambrellaw11.CodecParity", spec := "codecParity", inPlace := ["sync/atomic.LoadUint32", "(*internal/sync.Mutex).Lock", "internal/race.Disable", "sync/atomic.CompareAndSwapInt32", "internal/race.Enable", "internal/race.Acquire", "(*internal/sync.Mutex).lockSlow", "internal/sync.runtime_canSpin", "internal/sync.runtime_doSpin", "internal/sync.throw", "internal/sync.runtime_nanotime", "internal/sync.runtime_SemacquireMutex", "sync/atomic.AddInt32", "(*internal/sync.Mutex).Unlock", "internal/race.ReleaseMerge", "(*internal/sync.Mutex).unlockSlow", "internal/sync.fatal", "internal/sync.runtime_Semrelease", "sync/atomic.StoreUint32"], unfollowed := true, recurses := true, named := ["gambrel/profile.table"], apart := false, laid := [("gambrel/profile.table", laid_gambrel_profile_table)] }
def CodecParitySaid : Prop := codecParityRow.holds Tryz.pinned (OpenSpec.ofChange codecParitySpec)

/-- ITS FALSE NEIGHBOUR: 'it returns false'. Refute it at one input. -/
def codecParityWrong : ChangeSpec := { name := "codecParity", fn := fun _ => fun
  | [d1, d2] => { results := [.lit (.bool false)], args := [d1, d2] }
  | _ => none }
def CodecParityWrongFalsely : Prop := codecParityRow.holds Tryz.pinned (OpenSpec.ofChange codecParityWrong)

/-- 'gambrellaw11.CodecEncodes': WHATEVER THE INPUT: true; the input reads as it did. -/
def codecEncodesSpec : ChangeSpec := { name := "codecEncodes", fn := fun _ => fun
  | [d1, d2] => { results := [.lit (.bool true)], args := [d1, d2] }
  | _ => none }
def codecEncodesRow : OpenClaim := { program := "ytgbipbcejjlpiaagreatdoor", sum := "b2ce900cad0599101ca1f89f65778dac3ec69b5d3d53374d0625bc8439e90986", func := "gambrel/gambrellaw11.CodecEncodes", spec := "codecEncodes", inPlace := ["sync/atomic.LoadUint32", "(*internal/sync.Mutex).Lock", "internal/race.Disable", "sync/atomic.CompareAndSwapInt32", "internal/race.Enable", "internal/race.Acquire", "(*internal/sync.Mutex).lockSlow", "internal/sync.runtime_canSpin", "internal/sync.runtime_doSpin", "internal/sync.throw", "internal/sync.runtime_nanotime", "internal/sync.runtime_SemacquireMutex", "sync/atomic.AddInt32", "(*internal/sync.Mutex).Unlock", "internal/race.ReleaseMerge", "(*internal/sync.Mutex).unlockSlow", "internal/sync.fatal", "internal/sync.runtime_Semrelease", "sync/atomic.StoreUint32"], unfollowed := true, recurses := true, named := ["gambrel/profile.table"], apart := false, laid := [("gambrel/profile.table", laid_gambrel_profile_table)] }
def CodecEncodesSaid : Prop := codecEncodesRow.holds Tryz.pinned (OpenSpec.ofChange codecEncodesSpec)

/-- ITS FALSE NEIGHBOUR: 'it returns false'. Refute it at one input. -/
def codecEncodesWrong : ChangeSpec := { name := "codecEncodes", fn := fun _ => fun
  | [d1, d2] => { results := [.lit (.bool false)], args := [d1, d2] }
  | _ => none }
def CodecEncodesWrongFalsely : Prop := codecEncodesRow.holds Tryz.pinned (OpenSpec.ofChange codecEncodesWrong)

/-- 'gambrellaw11.CodecVerifies': WHATEVER THE INPUT: true; the input reads as it did. -/
def codecVerifiesSpec : ChangeSpec := { name := "codecVerifies", fn := fun _ => fun
  | [d1, d2, d3] => { results := [.lit (.bool true)], args := [d1, d2, d3] }
  | _ => none }
def codecVerifiesRow : OpenClaim := { program := "ytgbipbcejjlpiaagreatdoor", sum := "b2ce900cad0599101ca1f89f65778dac3ec69b5d3d53374d0625bc8439e90986", func := "gambrel/gambrellaw11.CodecVerifies", spec := "codecVerifies", inPlace := ["sync/atomic.LoadUint32", "(*internal/sync.Mutex).Lock", "internal/race.Disable", "sync/atomic.CompareAndSwapInt32", "internal/race.Enable", "internal/race.Acquire", "(*internal/sync.Mutex).lockSlow", "internal/sync.runtime_canSpin", "internal/sync.runtime_doSpin", "internal/sync.throw", "internal/sync.runtime_nanotime", "internal/sync.runtime_SemacquireMutex", "sync/atomic.AddInt32", "(*internal/sync.Mutex).Unlock", "internal/race.ReleaseMerge", "(*internal/sync.Mutex).unlockSlow", "internal/sync.fatal", "internal/sync.runtime_Semrelease", "sync/atomic.StoreUint32"], unfollowed := true, recurses := true, named := ["gambrel/profile.table"], apart := false, laid := [("gambrel/profile.table", laid_gambrel_profile_table)] }
def CodecVerifiesSaid : Prop := codecVerifiesRow.holds Tryz.pinned (OpenSpec.ofChange codecVerifiesSpec)

/-- ITS FALSE NEIGHBOUR: 'it returns false'. Refute it at one input. -/
def codecVerifiesWrong : ChangeSpec := { name := "codecVerifies", fn := fun _ => fun
  | [d1, d2, d3] => { results := [.lit (.bool false)], args := [d1, d2, d3] }
  | _ => none }
def CodecVerifiesWrongFalsely : Prop := codecVerifiesRow.holds Tryz.pinned (OpenSpec.ofChange codecVerifiesWrong)

/-- 'gambrellaw11.CodecLinear': WHATEVER THE INPUT: true; the input reads as it did. -/
def codecLinearSpec : ChangeSpec := { name := "codecLinear", fn := fun _ => fun
  | [d1, d2, d3] => { results := [.lit (.bool true)], args := [d1, d2, d3] }
  | _ => none }
def codecLinearRow : OpenClaim := { program := "ytgbipbcejjlpiaagreatdoor", sum := "b2ce900cad0599101ca1f89f65778dac3ec69b5d3d53374d0625bc8439e90986", func := "gambrel/gambrellaw11.CodecLinear", spec := "codecLinear", inPlace := ["sync/atomic.LoadUint32", "(*internal/sync.Mutex).Lock", "internal/race.Disable", "sync/atomic.CompareAndSwapInt32", "internal/race.Enable", "internal/race.Acquire", "(*internal/sync.Mutex).lockSlow", "internal/sync.runtime_canSpin", "internal/sync.runtime_doSpin", "internal/sync.throw", "internal/sync.runtime_nanotime", "internal/sync.runtime_SemacquireMutex", "sync/atomic.AddInt32", "(*internal/sync.Mutex).Unlock", "internal/race.ReleaseMerge", "(*internal/sync.Mutex).unlockSlow", "internal/sync.fatal", "internal/sync.runtime_Semrelease", "sync/atomic.StoreUint32"], unfollowed := true, recurses := true, named := ["gambrel/profile.table"], apart := false, laid := [("gambrel/profile.table", laid_gambrel_profile_table)] }
def CodecLinearSaid : Prop := codecLinearRow.holds Tryz.pinned (OpenSpec.ofChange codecLinearSpec)

/-- ITS FALSE NEIGHBOUR: 'it returns false'. Refute it at one input. -/
def codecLinearWrong : ChangeSpec := { name := "codecLinear", fn := fun _ => fun
  | [d1, d2, d3] => { results := [.lit (.bool false)], args := [d1, d2, d3] }
  | _ => none }
def CodecLinearWrongFalsely : Prop := codecLinearRow.holds Tryz.pinned (OpenSpec.ofChange codecLinearWrong)

/-- 'gambrellaw11.CodecColumns': WHATEVER THE INPUT: true; the input reads as it did. -/
def codecColumnsSpec : ChangeSpec := { name := "codecColumns", fn := fun _ => fun
  | [d1, d2, d3] => { results := [.lit (.bool true)], args := [d1, d2, d3] }
  | _ => none }
def codecColumnsRow : OpenClaim := { program := "ytgbipbcejjlpiaagreatdoor", sum := "b2ce900cad0599101ca1f89f65778dac3ec69b5d3d53374d0625bc8439e90986", func := "gambrel/gambrellaw11.CodecColumns", spec := "codecColumns", inPlace := ["sync/atomic.LoadUint32", "(*internal/sync.Mutex).Lock", "internal/race.Disable", "sync/atomic.CompareAndSwapInt32", "internal/race.Enable", "internal/race.Acquire", "(*internal/sync.Mutex).lockSlow", "internal/sync.runtime_canSpin", "internal/sync.runtime_doSpin", "internal/sync.throw", "internal/sync.runtime_nanotime", "internal/sync.runtime_SemacquireMutex", "sync/atomic.AddInt32", "(*internal/sync.Mutex).Unlock", "internal/race.ReleaseMerge", "(*internal/sync.Mutex).unlockSlow", "internal/sync.fatal", "internal/sync.runtime_Semrelease", "sync/atomic.StoreUint32"], unfollowed := true, recurses := true, named := ["gambrel/profile.table"], apart := false, laid := [("gambrel/profile.table", laid_gambrel_profile_table)] }
def CodecColumnsSaid : Prop := codecColumnsRow.holds Tryz.pinned (OpenSpec.ofChange codecColumnsSpec)

/-- ITS FALSE NEIGHBOUR: 'it returns false'. Refute it at one input. -/
def codecColumnsWrong : ChangeSpec := { name := "codecColumns", fn := fun _ => fun
  | [d1, d2, d3] => { results := [.lit (.bool false)], args := [d1, d2, d3] }
  | _ => none }
def CodecColumnsWrongFalsely : Prop := codecColumnsRow.holds Tryz.pinned (OpenSpec.ofChange codecColumnsWrong)

/-- 'gambrellaw11.CodecXor': WHATEVER THE INPUT: true; the input reads as it did. -/
def codecXorSpec : ChangeSpec := { name := "codecXor", fn := fun _ => fun
  | [d1, d2] => { results := [.lit (.bool true)], args := [d1, d2] }
  | _ => none }
def codecXorRow : OpenClaim := { program := "ytgbipbcejjlpiaagreatdoor", sum := "b2ce900cad0599101ca1f89f65778dac3ec69b5d3d53374d0625bc8439e90986", func := "gambrel/gambrellaw11.CodecXor", spec := "codecXor", inPlace := ["sync/atomic.LoadUint32", "(*internal/sync.Mutex).Lock", "internal/race.Disable", "sync/atomic.CompareAndSwapInt32", "internal/race.Enable", "internal/race.Acquire", "(*internal/sync.Mutex).lockSlow", "internal/sync.runtime_canSpin", "internal/sync.runtime_doSpin", "internal/sync.throw", "internal/sync.runtime_nanotime", "internal/sync.runtime_SemacquireMutex", "sync/atomic.AddInt32", "(*internal/sync.Mutex).Unlock", "internal/race.ReleaseMerge", "(*internal/sync.Mutex).unlockSlow", "internal/sync.fatal", "internal/sync.runtime_Semrelease", "sync/atomic.StoreUint32"], unfollowed := true, recurses := true, named := ["gambrel/profile.table"], apart := false, laid := [("gambrel/profile.table", laid_gambrel_profile_table)] }
def CodecXorSaid : Prop := codecXorRow.holds Tryz.pinned (OpenSpec.ofChange codecXorSpec)

/-- ITS FALSE NEIGHBOUR: 'it returns false'. Refute it at one input. -/
def codecXorWrong : ChangeSpec := { name := "codecXor", fn := fun _ => fun
  | [d1, d2] => { results := [.lit (.bool false)], args := [d1, d2] }
  | _ => none }
def CodecXorWrongFalsely : Prop := codecXorRow.holds Tryz.pinned (OpenSpec.ofChange codecXorWrong)

/- THE SECOND FORM. 'bulk': how many values and letters a reading holds, each counted each time it is reached (what is shared counts as often as it is met; a slice's spare places count too). A statement '..UptoSaid' is the law's where the arguments, and the package variables that the reading takes, are together of bulk at most 1048576: NARROWER than '..Said'. Prove '..Said' where nothing that the law and all that it calls make is longer than what came in: it says more and counts as full. Else prove '..UptoSaid'. A law counts once. -/
mutual
def uptoBulk {H : Type} : DataW H → Nat
  | .lit (.string bytes) => bytes.length + 1
  | .lit _ => 1
  | .nil => 1
  | .ptr d => uptoBulk d + 1
  | .slice elems spare => uptoBulkAll elems + uptoBulkAll spare + 1
  | .agg parts => uptoBulkAll parts + 1
  | .iface _ d => uptoBulk d + 1
  | .map entries => uptoBulkEntries entries + 1
  | .held _ => 1
def uptoBulkAll {H : Type} : List (DataW H) → Nat
  | [] => 0
  | d :: r => uptoBulk d + uptoBulkAll r
def uptoBulkEntries {H : Type} : List (Lit × DataW H) → Nat
  | [] => 0
  | x :: r => uptoBulkEntry x + uptoBulkEntries r
def uptoBulkEntry {H : Type} : Lit × DataW H → Nat
  | (.string bytes, d) => bytes.length + uptoBulk d + 1
  | (_, d) => uptoBulk d + 1
 end
def uptoSmall : (H : Type) → List (DataW H) → Bool := fun _ ds => decide (uptoBulkAll ds ≤ 1048576)
def OpenSpec.upto (s : _root_.Go.ChangeSpec) : _root_.Go.OpenSpec := { _root_.Go.OpenSpec.ofChange s with cond := some uptoSmall }

/-- 'gambrellaw11.CodecParity', WHERE WHAT IT READS IS OF BULK AT MOST 1048576: true; the input reads as it did. -/
def codecParityUptoRow : OpenClaim := { program := "ytgbipbcejjlpiaagreatdoor", sum := "b2ce900cad0599101ca1f89f65778dac3ec69b5d3d53374d0625bc8439e90986", func := "gambrel/gambrellaw11.CodecParity", spec := "codecParity", inPlace := ["sync/atomic.LoadUint32", "(*internal/sync.Mutex).Lock", "internal/race.Disable", "sync/atomic.CompareAndSwapInt32", "internal/race.Enable", "internal/race.Acquire", "(*internal/sync.Mutex).lockSlow", "internal/sync.runtime_canSpin", "internal/sync.runtime_doSpin", "internal/sync.throw", "internal/sync.runtime_nanotime", "internal/sync.runtime_SemacquireMutex", "sync/atomic.AddInt32", "(*internal/sync.Mutex).Unlock", "internal/race.ReleaseMerge", "(*internal/sync.Mutex).unlockSlow", "internal/sync.fatal", "internal/sync.runtime_Semrelease", "sync/atomic.StoreUint32"], unfollowed := true, recurses := true, named := ["gambrel/profile.table"], apart := false, laid := [("gambrel/profile.table", laid_gambrel_profile_table)], narrowed := true }
def CodecParityUptoSaid : Prop := codecParityUptoRow.holds Tryz.pinned (OpenSpec.upto codecParitySpec)

/-- 'gambrellaw11.CodecEncodes', WHERE WHAT IT READS IS OF BULK AT MOST 1048576: true; the input reads as it did. -/
def codecEncodesUptoRow : OpenClaim := { program := "ytgbipbcejjlpiaagreatdoor", sum := "b2ce900cad0599101ca1f89f65778dac3ec69b5d3d53374d0625bc8439e90986", func := "gambrel/gambrellaw11.CodecEncodes", spec := "codecEncodes", inPlace := ["sync/atomic.LoadUint32", "(*internal/sync.Mutex).Lock", "internal/race.Disable", "sync/atomic.CompareAndSwapInt32", "internal/race.Enable", "internal/race.Acquire", "(*internal/sync.Mutex).lockSlow", "internal/sync.runtime_canSpin", "internal/sync.runtime_doSpin", "internal/sync.throw", "internal/sync.runtime_nanotime", "internal/sync.runtime_SemacquireMutex", "sync/atomic.AddInt32", "(*internal/sync.Mutex).Unlock", "internal/race.ReleaseMerge", "(*internal/sync.Mutex).unlockSlow", "internal/sync.fatal", "internal/sync.runtime_Semrelease", "sync/atomic.StoreUint32"], unfollowed := true, recurses := true, named := ["gambrel/profile.table"], apart := false, laid := [("gambrel/profile.table", laid_gambrel_profile_table)], narrowed := true }
def CodecEncodesUptoSaid : Prop := codecEncodesUptoRow.holds Tryz.pinned (OpenSpec.upto codecEncodesSpec)

/-- 'gambrellaw11.CodecVerifies', WHERE WHAT IT READS IS OF BULK AT MOST 1048576: true; the input reads as it did. -/
def codecVerifiesUptoRow : OpenClaim := { program := "ytgbipbcejjlpiaagreatdoor", sum := "b2ce900cad0599101ca1f89f65778dac3ec69b5d3d53374d0625bc8439e90986", func := "gambrel/gambrellaw11.CodecVerifies", spec := "codecVerifies", inPlace := ["sync/atomic.LoadUint32", "(*internal/sync.Mutex).Lock", "internal/race.Disable", "sync/atomic.CompareAndSwapInt32", "internal/race.Enable", "internal/race.Acquire", "(*internal/sync.Mutex).lockSlow", "internal/sync.runtime_canSpin", "internal/sync.runtime_doSpin", "internal/sync.throw", "internal/sync.runtime_nanotime", "internal/sync.runtime_SemacquireMutex", "sync/atomic.AddInt32", "(*internal/sync.Mutex).Unlock", "internal/race.ReleaseMerge", "(*internal/sync.Mutex).unlockSlow", "internal/sync.fatal", "internal/sync.runtime_Semrelease", "sync/atomic.StoreUint32"], unfollowed := true, recurses := true, named := ["gambrel/profile.table"], apart := false, laid := [("gambrel/profile.table", laid_gambrel_profile_table)], narrowed := true }
def CodecVerifiesUptoSaid : Prop := codecVerifiesUptoRow.holds Tryz.pinned (OpenSpec.upto codecVerifiesSpec)

/-- 'gambrellaw11.CodecLinear', WHERE WHAT IT READS IS OF BULK AT MOST 1048576: true; the input reads as it did. -/
def codecLinearUptoRow : OpenClaim := { program := "ytgbipbcejjlpiaagreatdoor", sum := "b2ce900cad0599101ca1f89f65778dac3ec69b5d3d53374d0625bc8439e90986", func := "gambrel/gambrellaw11.CodecLinear", spec := "codecLinear", inPlace := ["sync/atomic.LoadUint32", "(*internal/sync.Mutex).Lock", "internal/race.Disable", "sync/atomic.CompareAndSwapInt32", "internal/race.Enable", "internal/race.Acquire", "(*internal/sync.Mutex).lockSlow", "internal/sync.runtime_canSpin", "internal/sync.runtime_doSpin", "internal/sync.throw", "internal/sync.runtime_nanotime", "internal/sync.runtime_SemacquireMutex", "sync/atomic.AddInt32", "(*internal/sync.Mutex).Unlock", "internal/race.ReleaseMerge", "(*internal/sync.Mutex).unlockSlow", "internal/sync.fatal", "internal/sync.runtime_Semrelease", "sync/atomic.StoreUint32"], unfollowed := true, recurses := true, named := ["gambrel/profile.table"], apart := false, laid := [("gambrel/profile.table", laid_gambrel_profile_table)], narrowed := true }
def CodecLinearUptoSaid : Prop := codecLinearUptoRow.holds Tryz.pinned (OpenSpec.upto codecLinearSpec)

/-- 'gambrellaw11.CodecColumns', WHERE WHAT IT READS IS OF BULK AT MOST 1048576: true; the input reads as it did. -/
def codecColumnsUptoRow : OpenClaim := { program := "ytgbipbcejjlpiaagreatdoor", sum := "b2ce900cad0599101ca1f89f65778dac3ec69b5d3d53374d0625bc8439e90986", func := "gambrel/gambrellaw11.CodecColumns", spec := "codecColumns", inPlace := ["sync/atomic.LoadUint32", "(*internal/sync.Mutex).Lock", "internal/race.Disable", "sync/atomic.CompareAndSwapInt32", "internal/race.Enable", "internal/race.Acquire", "(*internal/sync.Mutex).lockSlow", "internal/sync.runtime_canSpin", "internal/sync.runtime_doSpin", "internal/sync.throw", "internal/sync.runtime_nanotime", "internal/sync.runtime_SemacquireMutex", "sync/atomic.AddInt32", "(*internal/sync.Mutex).Unlock", "internal/race.ReleaseMerge", "(*internal/sync.Mutex).unlockSlow", "internal/sync.fatal", "internal/sync.runtime_Semrelease", "sync/atomic.StoreUint32"], unfollowed := true, recurses := true, named := ["gambrel/profile.table"], apart := false, laid := [("gambrel/profile.table", laid_gambrel_profile_table)], narrowed := true }
def CodecColumnsUptoSaid : Prop := codecColumnsUptoRow.holds Tryz.pinned (OpenSpec.upto codecColumnsSpec)

/-- 'gambrellaw11.CodecXor', WHERE WHAT IT READS IS OF BULK AT MOST 1048576: true; the input reads as it did. -/
def codecXorUptoRow : OpenClaim := { program := "ytgbipbcejjlpiaagreatdoor", sum := "b2ce900cad0599101ca1f89f65778dac3ec69b5d3d53374d0625bc8439e90986", func := "gambrel/gambrellaw11.CodecXor", spec := "codecXor", inPlace := ["sync/atomic.LoadUint32", "(*internal/sync.Mutex).Lock", "internal/race.Disable", "sync/atomic.CompareAndSwapInt32", "internal/race.Enable", "internal/race.Acquire", "(*internal/sync.Mutex).lockSlow", "internal/sync.runtime_canSpin", "internal/sync.runtime_doSpin", "internal/sync.throw", "internal/sync.runtime_nanotime", "internal/sync.runtime_SemacquireMutex", "sync/atomic.AddInt32", "(*internal/sync.Mutex).Unlock", "internal/race.ReleaseMerge", "(*internal/sync.Mutex).unlockSlow", "internal/sync.fatal", "internal/sync.runtime_Semrelease", "sync/atomic.StoreUint32"], unfollowed := true, recurses := true, named := ["gambrel/profile.table"], apart := false, laid := [("gambrel/profile.table", laid_gambrel_profile_table)], narrowed := true }
def CodecXorUptoSaid : Prop := codecXorUptoRow.holds Tryz.pinned (OpenSpec.upto codecXorSpec)

end Rows
end Go.Proofs.YtgbipbcejjlpiaaGreatDoor
