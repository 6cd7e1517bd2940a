/- lex: isDigit, the reference's digit, Number of both. -/
import Derived.Test.YtmpbbkjdfneklaaRows
import Derived.Test.YtmpbbkjdfneklaaXa
namespace Go.Proofs.Ytmpbbkjdfneklaa
open Go.RowKit

set_option maxHeartbeats 400000 in
theorem isDigit_any (c : UInt8) (w : World) :
    Calls Try.prog 17 #[.int .u8 (c.toNat : Int)] w fun e w' => e = .returned (.bool (isDig c)) ∧ w' = w := by
  have h256 : c.toNat < 256 := c.toNat_lt
  by_cases h : 48 ≤ c.toNat
  · by_cases h2 : c.toNat ≤ 57
    · have HR : Hid (isDig c = true) := Lib.hid ((isDig_iff c).2 ⟨h, h2⟩)
      go_enter Try.func17, Try.ntmps17
      go_wp2
      go_ret
      exact ⟨ret_bool (by first | exact HR.out.symm | (rw [HR.out, decide_eq_true_iff]; omega) | (rw [HR.out, decide_eq_false_iff_not]; omega)), rfl⟩
    · have HR : Hid (isDig c = false) := Lib.hid (by rw [← Bool.not_eq_true, isDig_iff]; omega)
      go_enter Try.func17, Try.ntmps17
      go_wp2
      go_ret
      exact ⟨ret_bool (by first | exact HR.out.symm | (rw [HR.out, decide_eq_true_iff]; omega) | (rw [HR.out, decide_eq_false_iff_not]; omega)), rfl⟩
  · have HR : Hid (isDig c = false) := Lib.hid (by rw [← Bool.not_eq_true, isDig_iff]; omega)
    go_enter Try.func17, Try.ntmps17
    go_wp2
    go_ret
    exact ⟨ret_bool (by first | exact HR.out.symm | (rw [HR.out, decide_eq_true_iff]; omega) | (rw [HR.out, decide_eq_false_iff_not]; omega)), rfl⟩
set_option maxHeartbeats 400000 in
theorem rdigit_any (c : UInt8) (w : World) :
    Calls Try.prog 16 #[.int .u8 (c.toNat : Int)] w fun e w' => e = .returned (.bool (isDig c)) ∧ w' = w := by
  have h256 : c.toNat < 256 := c.toNat_lt
  by_cases h : 48 ≤ c.toNat
  · by_cases h2 : c.toNat ≤ 57
    · have HR : Hid (isDig c = true) := Lib.hid ((isDig_iff c).2 ⟨h, h2⟩)
      go_enter Try.func16, Try.ntmps16
      go_wp2
      go_ret
      exact ⟨ret_bool (by first | exact HR.out.symm | (rw [HR.out, decide_eq_true_iff]; omega) | (rw [HR.out, decide_eq_false_iff_not]; omega)), rfl⟩
    · have HR : Hid (isDig c = false) := Lib.hid (by rw [← Bool.not_eq_true, isDig_iff]; omega)
      go_enter Try.func16, Try.ntmps16
      go_wp2
      go_ret
      exact ⟨ret_bool (by first | exact HR.out.symm | (rw [HR.out, decide_eq_true_iff]; omega) | (rw [HR.out, decide_eq_false_iff_not]; omega)), rfl⟩
  · have HR : Hid (isDig c = false) := Lib.hid (by rw [← Bool.not_eq_true, isDig_iff]; omega)
    go_enter Try.func16, Try.ntmps16
    go_wp2
    go_ret
    exact ⟨ret_bool (by first | exact HR.out.symm | (rw [HR.out, decide_eq_true_iff]; omega) | (rw [HR.out, decide_eq_false_iff_not]; omega)), rfl⟩
end Go.Proofs.Ytmpbbkjdfneklaa
