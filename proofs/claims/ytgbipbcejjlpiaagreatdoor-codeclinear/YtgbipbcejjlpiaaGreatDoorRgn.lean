/- append onto a row of the call's own, of whatever bytes, nil let in. -/
import Derived.Test.YtgbipbcejjlpiaaGreatDoorRgl
import Derived.Laws.AppendOwnNone
namespace Go.Proofs.YtgbipbcejjlpiaaGreatDoor
open Go.RowKit

end Go.Proofs.YtgbipbcejjlpiaaGreatDoor
