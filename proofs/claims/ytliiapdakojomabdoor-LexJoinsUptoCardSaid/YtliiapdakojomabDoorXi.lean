/- The reference's atom, null and Is. -/
import Derived.Test.YtliiapdakojomabDoorXh
namespace Go.Proofs.YtliiapdakojomabDoor
open Go.RowKit

theorem isEmpty_L (s : ByteArray) (h : s.size = 0) : (L s).isEmpty = true := by
  cases hl : L s with
  | nil => rfl
  | cons a b => exact absurd (by rw [← L_length, hl] at h; exact h) (by simp)
theorem isEmpty_Ln (s : ByteArray) (h : s.size ≠ 0) : (L s).isEmpty = false := by
  cases hl : L s with
  | nil => exact absurd (by rw [← L_length, hl]; rfl) h
  | cons a b => rfl
theorem isAtom_no (s : ByteArray) (k : Nat) (hk : k < s.size) (h : atomC (bt (L s) k) = false) : isAtom (L s) = false := by
  unfold isAtom; rw [all_noP atomC (L s) k hk h, Bool.and_false]
theorem isAtom_yes (s : ByteArray) (h0 : s.size ≠ 0) (h : (L s).all atomC = true) : isAtom (L s) = true := by
  unfold isAtom; rw [h, isEmpty_Ln s h0]; rfl
theorem isAtom_nil (s : ByteArray) (h0 : s.size = 0) : isAtom (L s) = false := by
  unfold isAtom; rw [isEmpty_L s h0]; rfl
end Go.Proofs.YtliiapdakojomabDoor
