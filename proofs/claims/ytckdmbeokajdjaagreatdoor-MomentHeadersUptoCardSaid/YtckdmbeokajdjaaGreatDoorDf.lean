/- moment: At. -/
import Derived.Test.YtckdmbeokajdjaaGreatDoorDe
namespace Go.Proofs.YtckdmbeokajdjaaGreatDoor
open Go.RowKit

end Go.Proofs.YtckdmbeokajdjaaGreatDoor
