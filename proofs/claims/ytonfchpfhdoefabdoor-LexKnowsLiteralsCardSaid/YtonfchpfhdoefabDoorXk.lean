/- The reference's Is: Tag, Flag, Pattern; in whole. -/
import Derived.Test.YtonfchpfhdoefabDoorXj
namespace Go.Proofs.YtonfchpfhdoefabDoor
open Go.RowKit

end Go.Proofs.YtonfchpfhdoefabDoor
