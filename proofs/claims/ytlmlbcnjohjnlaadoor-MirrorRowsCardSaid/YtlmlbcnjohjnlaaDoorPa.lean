/- octet: small, Lower. -/
import Derived.Test.YtlmlbcnjohjnlaaDoorRows
import Derived.Test.YtlmlbcnjohjnlaaDoorPu
namespace Go.Proofs.YtlmlbcnjohjnlaaDoor
open Go.RowKit

set_option maxHeartbeats 400000 in
theorem small_any (c : Int) (w : World) (h0 : 0 ≤ c) (h1 : c ≤ 255) :
    Calls Tryd.prog 78 #[.int .u8 c] w fun e w' => e = .returned (.int .u8 (smI c)) ∧ w' = w := by
  by_cases h : 65 ≤ c
  · by_cases h' : c ≤ 90
    · have e : smI c = c + 32 := by unfold smI; rw [if_pos ⟨h, h'⟩]
      rw [e]; clear e
      go_enter Tryd.func78, Tryd.ntmps78
      go_wp2
      go_ret
      exact ⟨rfl, rfl⟩
    · have e : smI c = c := by unfold smI; rw [if_neg (by omega)]
      rw [e]; clear e
      go_enter Tryd.func78, Tryd.ntmps78
      go_wp2
      go_ret
      exact ⟨rfl, rfl⟩
  · have e : smI c = c := by unfold smI; rw [if_neg (by omega)]
    rw [e]; clear e
    go_enter Tryd.func78, Tryd.ntmps78
    go_wp2
    go_ret
    exact ⟨rfl, rfl⟩


end Go.Proofs.YtlmlbcnjohjnlaaDoor
