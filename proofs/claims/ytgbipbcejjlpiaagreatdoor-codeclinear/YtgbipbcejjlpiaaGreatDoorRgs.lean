/- Contracts of the laws' own tests: are two rows of bytes, two lists of numbers, the same; was it an error. -/
import Derived.Test.YtgbipbcejjlpiaaGreatDoorRgl
import Derived.Laws.BytesArg
namespace Go.Proofs.YtgbipbcejjlpiaaGreatDoor
open Go.RowKit

end Go.Proofs.YtgbipbcejjlpiaaGreatDoor
