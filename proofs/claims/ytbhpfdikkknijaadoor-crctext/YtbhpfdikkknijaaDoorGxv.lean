/- Layer 9: the table of formats, as it lies in memory; Of, of any number. Layer 9: May, Field, All and Tagged, and the document's May and Tagged. Layer 9: the document's Some. Layer 9: structs in boxes; the table's rows, written out. Layer 9: what came in, as it is read: three bytes by value, params by value. -/
import Derived.Test.YtbhpfdikkknijaaDoorBsa
import Derived.Laws.Rows
import Derived.Test.YtbhpfdikkknijaaDoorArr
import Derived.Laws.IdiomArrays
import Derived.Deep.Strs
import Derived.OpenShut

namespace Go.Proofs.YtbhpfdikkknijaaDoor
open Go.RowKit

theorem results_row_tmp {P : Program} {fn : Func} {p u : Tmp} {ty : TypeId} (h : fn.results = #[.cell p ty, .tmp u]) (tmps : Array Value) (w : World) (g : Nat) (t : TypeId) (cs : Array Value) (fr : Nat × Nat) (d : TypeDesc)
    (hp : tmps.getD p undef = .pointer (some ⟨g, 0, none⟩)) (hg : w.heap[g]? = some (.cells cs t fr))
    (hu : P.underlying ty = some d) (hd : (match d with | .struct _ | .array _ _ => true | _ => false) = true) (hi : (P.info? ty).map (·.size) = some cs.size) :
    (results fn tmps).run P w = .ok (.tuple #[.agg cs, tmps.getD u undef]) w := by
  have hp' : tmps[p]?.getD undef = .pointer (some ⟨g, 0, none⟩) := by simpa using hp
  simp [results, h, hp', asAddr, run_loadVar_row w g t ty cs fr d hg hu hd hi]
end Go.Proofs.YtbhpfdikkknijaaDoor

namespace Go.Proofs.YtbhpfdikkknijaaDoor
open Go.RowKit
end Go.Proofs.YtbhpfdikkknijaaDoor

namespace Go.Proofs.YtbhpfdikkknijaaDoor
open Go.RowKit

abbrev arr3 (x y z : Int) : Array Value := #[.int .u8 x, .int .u8 y, .int .u8 z]
end Go.Proofs.YtbhpfdikkknijaaDoor

namespace Go.Proofs.YtbhpfdikkknijaaDoor
open Go.RowKit
end Go.Proofs.YtbhpfdikkknijaaDoor

namespace Go.Proofs.YtbhpfdikkknijaaDoor
open Go.RowKit Go.ChangeShapes
end Go.Proofs.YtbhpfdikkknijaaDoor
