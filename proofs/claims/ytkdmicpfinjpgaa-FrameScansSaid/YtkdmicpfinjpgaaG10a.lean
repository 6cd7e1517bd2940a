/- frame: the reference's value. -/
import Derived.Test.YtkdmicpfinjpgaaE10d
namespace Go.Proofs.Ytkdmicpfinjpgaa
open Go.RowKit

set_option maxHeartbeats 1000000 in
theorem value_any (s : ByteArray) (i : Nat) (w : World) (hi : i + 4 ≤ s.size) (hs : s.size ≤ 140737488355328) :
    Calls Try.prog 35 #[.string s, .int .i64 (i : Int)] w fun e w' => e = .returned (.int .i64 (w4 (L s) i : Nat)) ∧ ∃ n, w' = w.drewN n := by
  have e0 : bt (L s) i = s[i] := (bt_getElem (L s) i (by rw [L_length]; omega)).trans rfl
  have e1 : bt (L s) (i + 1) = s[i + 1] := (bt_getElem (L s) (i + 1) (by rw [L_length]; omega)).trans rfl
  have e2 : bt (L s) (i + 2) = s[i + 2] := (bt_getElem (L s) (i + 2) (by rw [L_length]; omega)).trans rfl
  have e3 : bt (L s) (i + 3) = s[i + 3] := (bt_getElem (L s) (i + 3) (by rw [L_length]; omega)).trans rfl
  unfold w4
  rw [e0, e1, e2, e3]
  clear e0 e1 e2 e3
  have b0 : i < s.size := by omega
  have b1 : i + 1 < s.size := by omega
  have b2 : i + 2 < s.size := by omega
  have b3 : i + 3 < s.size := by omega
  have k1 : (i : Int) + 1 < (s.size : Int) := by omega
  have z1 : (0 : Int) ≤ (i : Int) + 1 := by omega
  have n1 : ((i : Int) + 1).toNat = i + 1 := by omega
  have v1 : IntKind.i64.wrap ((i : Int) + 1) = (i : Int) + 1 := by rw [IntKind.wrap_i64]; omega
  have k2 : (i : Int) + 2 < (s.size : Int) := by omega
  have z2 : (0 : Int) ≤ (i : Int) + 2 := by omega
  have n2 : ((i : Int) + 2).toNat = i + 2 := by omega
  have v2 : IntKind.i64.wrap ((i : Int) + 2) = (i : Int) + 2 := by rw [IntKind.wrap_i64]; omega
  have k3 : (i : Int) + 3 < (s.size : Int) := by omega
  have z3 : (0 : Int) ≤ (i : Int) + 3 := by omega
  have n3 : ((i : Int) + 3).toNat = i + 3 := by omega
  have v3 : IntKind.i64.wrap ((i : Int) + 3) = (i : Int) + 3 := by rw [IntKind.wrap_i64]; omega
  have h0 := s[i].toNat_lt; have h1 := s[i + 1].toNat_lt; have h2 := s[i + 2].toNat_lt; have h3 := s[i + 3].toNat_lt
  go_enter Try.func35, Try.ntmps35
  go_wp2
  go_region
  go_wp2
  go_ret
  exact ⟨ret_int (by first | omega | trace_state), 1, rfl⟩
end Go.Proofs.Ytkdmicpfinjpgaa
