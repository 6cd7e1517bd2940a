/- The statement MomentDays: the walk. -/
import Derived.Test.YtckdmbeokajdjaaGreatDoorGf
import Derived.Test.YtckdmbeokajdjaaGreatDoorDy
namespace Go.Proofs.YtckdmbeokajdjaaGreatDoor
open Go.RowKit

set_option maxHeartbeats 400000 in
theorem mnum_any (e : Int) (w : World) :
    Calls Tryz.prog 15 #[.int .i64 e] w fun x w' => x = .returned (.int .i64 e) ∧ w' = w := by
  go_enter Tryz.func15, Tryz.ntmps15
  go_wp2
  go_ret
  exact ⟨rfl, rfl⟩
end Go.Proofs.YtckdmbeokajdjaaGreatDoor
