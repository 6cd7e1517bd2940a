/- The reference's Is: Tag, Flag, Pattern; in whole. -/
import Derived.Test.YtliiapdakojomabDoorXj
namespace Go.Proofs.YtliiapdakojomabDoor
open Go.RowKit

end Go.Proofs.YtliiapdakojomabDoor
