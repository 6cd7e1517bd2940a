/- moment: At. -/
import Derived.Test.YtlcjpkbcnoibeabGreatDoorDe
namespace Go.Proofs.YtlcjpkbcnoibeabGreatDoor
open Go.RowKit

end Go.Proofs.YtlcjpkbcnoibeabGreatDoor
