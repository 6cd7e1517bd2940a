/- postbagref2: Weekday, Stamp, Order. -/
import Derived.Test.YtmhkfdnaldeijabDoorCc
namespace Go.Proofs.YtmhkfdnaldeijabDoor
open Go.RowKit

end Go.Proofs.YtmhkfdnaldeijabDoor
