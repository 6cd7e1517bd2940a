/- postbagref2: Valid, Days, Weekday, Stamp, Order. -/
import Derived.Test.YtmhkfdnaldeijabDoorCb
namespace Go.Proofs.YtmhkfdnaldeijabDoor
open Go.RowKit

theorem year_int (y : Int) (w : World) (hy0 : 0 ≤ y) (hy : y ≤ 20000) :
    Calls Tryd.prog 35 #[.int .i64 y] w fun e w' => e = .returned (.int .i64 (ylen y.toNat : Nat)) ∧ w' = w := by
  obtain ⟨a, rfl⟩ := Int.eq_ofNat_of_zero_le hy0
  exact year_any a w (by omega)
end Go.Proofs.YtmhkfdnaldeijabDoor
