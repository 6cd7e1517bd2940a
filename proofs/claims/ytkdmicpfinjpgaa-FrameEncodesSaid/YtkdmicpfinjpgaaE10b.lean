/- frame: body, of a question. -/
import Derived.Test.YtkdmicpfinjpgaaE10a
namespace Go.Proofs.Ytkdmicpfinjpgaa
open Go.RowKit

set_option maxHeartbeats 2000000 in
theorem body_any (k n : Int) (s : ByteArray) (m z : Int) (w : World) (hs : s.size ≤ 4195304) :
    Calls Try.prog 5 #[.agg #[.int .i64 k, .int .i64 n, .string s, .int .i64 m, .int .i64 z]] w fun e w' => ∃ b : ByteArray, e = .returned (.string b) ∧ b.size ≤ 4195304 ∧ Below w.heap.size w w' := by
  have hbx : Below w.heap.size w (w.alloc (.cells #[.int .i64 k, .int .i64 n, .string s, .int .i64 m, .int .i64 z] 24)) := (Below.refl _ _).alloc (Nat.le_refl _) _
  have HBX := Lib.hid hbx
  clear hbx
  go_enter Try.func5, Try.ntmps5
  go_wp2
  go_loopw [3, 4] (fun v3 v4 wr => ∃ (b : ByteArray) (i : Nat), v3 = .string b ∧ v4 = .int .i64 (i : Int) ∧ b.size ≤ 4195304 ∧ i ≤ b.size + 1 ∧ wr = w.alloc (.cells #[.int .i64 k, .int .i64 n, .string s, .int .i64 m, .int .i64 z] 24)) (fun v3 _ _ => match v3 with | .string b => 4195305 - b.size | _ => 0)
  case atStart => exact ⟨s, 1, rfl, rfl, hs, by omega, rfl⟩
  case round =>
    obtain ⟨b, i, rfl, rfl, hb, hi, rfl⟩ := hrel
    by_cases h1 : (i : Int) < m
    · by_cases h2 : (b.size : Int) ≤ 2097152
      · by_cases h3 : (0 : Int) < (b.size : Int)
        · have hbb : (b ++ b).size = b.size + b.size := ByteArray.size_append
          have l1 : ¬ 9223372036854775807 < b.size + b.size := by omega
          by_cases h4 : (2097153 : Int) < (b.size : Int) + (b.size : Int)
          · have hz : ((b ++ b).extract 0 2097153).size = 2097153 := by rw [size_extract' _ _ _ (by omega)]
            have HZ := Lib.hid hz
            have h5 : (2097153 : Int) ≤ (b.size : Int) + (b.size : Int) := by omega
            clear hz
            go_wp2
            go_roundw
            case rel => exact ⟨(b ++ b).extract 0 2097153, i + 1, rfl, by go_num, by rw [HZ.out]; omega, by rw [HZ.out]; omega, trivial⟩
            case measure => simp only []; rw [HZ.out]; omega
          · go_wp2
            go_roundw
            case rel => exact ⟨b ++ b, i + 1, rfl, by go_num, by rw [hbb]; omega, by rw [hbb]; omega, trivial⟩
            case measure => simp only []; rw [hbb]; omega
        · go_wp2
          go_ret
          exact ⟨b, rfl, hb, HBX.out⟩
      · go_wp2
        go_ret
        exact ⟨b, rfl, hb, HBX.out⟩
    · go_wp2
      go_ret
      exact ⟨b, rfl, hb, HBX.out⟩
end Go.Proofs.Ytkdmicpfinjpgaa
