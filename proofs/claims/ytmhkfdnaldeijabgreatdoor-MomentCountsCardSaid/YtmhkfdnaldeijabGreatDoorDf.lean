/- moment: At. -/
import Derived.Test.YtmhkfdnaldeijabGreatDoorDe
namespace Go.Proofs.YtmhkfdnaldeijabGreatDoor
open Go.RowKit

end Go.Proofs.YtmhkfdnaldeijabGreatDoor
