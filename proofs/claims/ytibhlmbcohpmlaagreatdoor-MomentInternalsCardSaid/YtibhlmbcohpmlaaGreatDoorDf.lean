/- moment: At. -/
import Derived.Test.YtibhlmbcohpmlaaGreatDoorDe
namespace Go.Proofs.YtibhlmbcohpmlaaGreatDoor
open Go.RowKit

end Go.Proofs.YtibhlmbcohpmlaaGreatDoor
