/- postbaglaw2: known. -/
import Derived.Test.YtckdmbeokajdjaaGreatDoorDw
import Derived.Test.YtckdmbeokajdjaaGreatDoorDo
namespace Go.Proofs.YtckdmbeokajdjaaGreatDoor
open Go.RowKit

def kT : List UInt8 := [32, 49, 45, 70, 101, 98, 45, 50, 48, 50, 54, 32, 49, 48, 58, 48, 48, 58, 48, 48, 32, 43, 48, 49, 48, 48]
def kH : List UInt8 := [49, 32, 70, 101, 98, 32, 50, 48, 50, 54, 32, 49, 48, 58, 48, 48, 32, 43, 48, 49, 48, 48]
theorem kn_valid : validB 2026 2 1 10 0 0 60 = true := by decide +kernel
theorem kn_print : piL 2026 2 1 10 0 0 60 = kT := by
  unfold piL piT dayL
  rw [kn_valid, if_pos rfl, show (1 : Int).toNat = 1 from rfl, dec1 1 (by omega)]
  decide +kernel
theorem kn_ri : riV kT = mom 2026 2 1 10 0 0 60 ∧ riE kT = 0 := by
  have h1 : riB kT = true := by decide +kernel
  have h2 : tdY (riDay kT) = 2026 := by decide +kernel
  have h3 : tdM (riDay kT) = 2 := by decide +kernel
  have h4 : tdD (riDay kT) = 1 := by decide +kernel
  have h5 : tcH ((kT.drop 12).take 8) = 10 := by decide +kernel
  have h6 : tcN ((kT.drop 12).take 8) = 0 := by decide +kernel
  have h7 : tcS ((kT.drop 12).take 8) = 0 := by decide +kernel
  have h8 : tzV (kT.drop 21) = 60 := by decide +kernel
  have h9 : isDayB 2026 2 1 = true := by decide +kernel
  unfold riV riE judV judE
  rw [h1, h2, h3, h4, h5, h6, h7, h8, h9]
  exact ⟨rfl, rfl⟩
theorem kn_rh : rhV kH 0 = mom 2026 2 1 10 0 0 60 ∧ rhE kH = 0 := by
  have h1 : rhB kH = true := by decide +kernel
  have h2 : dyY (hc1 kH) = 2026 := by decide +kernel
  have h3 : dyM (hc1 kH) = 2 := by decide +kernel
  have h4 : dyD (hc1 kH) = 1 := by decide +kernel
  have h5 : clH (hc2 kH) = 10 := by decide +kernel
  have h6 : clN (hc2 kH) = 0 := by decide +kernel
  have h7 : clS (hc2 kH) 0 = 0 := by decide +kernel
  have h8 : znZ (hc3 kH) 0 0 = 60 := by decide +kernel
  have h9 : isDayB 2026 2 1 = true := by decide +kernel
  unfold rhV rhE judV judE
  rw [h1, h2, h3, h4, h5, h6, h7, h8, h9]
  exact ⟨rfl, rfl⟩
theorem kn_k : (hc3 kH).k ≠ 1 := by decide +kernel
theorem kn_wd : wdayV 2026 2 1 10 0 0 60 = 0 := by decide +kernel
theorem kn_days : daysV 2026 2 1 10 0 0 60 = 20485 := by decide +kernel
theorem kn_pr : prE 2026 2 1 10 0 0 60 = 0 := by decide +kernel
structure KF (sk : ByteArray) : Prop where
  p : ∀ W, Env W → Calls Tryz.prog 6 #[mom 2026 2 1 10 0 0 60] W fun e w' => e = .returned (.tuple #[.string sk, .int .i64 0]) ∧ Below W.heap.size W w'
  r : ∀ W, Env W → Calls Tryz.prog 7 #[.string sk] W fun e w' => e = .returned (.tuple #[mom 2026 2 1 10 0 0 60, .int .i64 0]) ∧ Below W.heap.size W w'
  h : ∀ W, Env W → Calls Tryz.prog 8 #[.string ⟨#[49, 32, 70, 101, 98, 32, 50, 48, 50, 54, 32, 49, 48, 58, 48, 48, 32, 43, 48, 49, 48, 48]⟩] W fun e w' => e = .returned (.tuple #[mom 2026 2 1 10 0 0 60, .int .i64 0]) ∧ Below W.heap.size W w'
  v : ∀ W, Env W → Calls Tryz.prog 9 #[mom 2026 2 1 10 0 0 60] W fun e w' => e = .returned (.bool true) ∧ Below W.heap.size W w'
  wd : ∀ W, Env W → Calls Tryz.prog 10 #[mom 2026 2 1 10 0 0 60] W fun e w' => e = .returned (.int .i64 0) ∧ Below W.heap.size W w'
  d : ∀ W, Env W → Calls Tryz.prog 11 #[mom 2026 2 1 10 0 0 60] W fun e w' => e = .returned (.int .i64 20485) ∧ Below W.heap.size W w'
theorem kf : KF (S kT) := by
  refine ⟨fun W hW => ?_, fun W hW => ?_, fun W hW => ?_, fun W hW => ?_, fun W hW => ?_, fun W hW => ?_⟩
  · have := momPrintInternal_any 2026 2 1 10 0 0 60 W hW
    rw [kn_print, kn_pr] at this
    exact this
  · have := momReadInternal_yes (S kT) W hW rfl (by decide +kernel) (by decide +kernel)
    rw [L_S, kn_ri.1, kn_ri.2] at this
    exact this
  · have := momReadHeader_go (S kH) 0 W hW (by rw [S_size]; decide) (fun h => absurd h (by rw [L_S]; exact kn_k))
    rw [L_S, kn_rh.1, kn_rh.2] at this
    exact this
  · have := momValid_any 2026 2 1 10 0 0 60 W hW
    rw [kn_valid] at this
    exact this
  · have := momWeekday_any 2026 2 1 10 0 0 60 W hW
    rw [kn_wd] at this
    exact this
  · have := momDays_any 2026 2 1 10 0 0 60 W hW
    rw [kn_days] at this
    exact this

end Go.Proofs.YtckdmbeokajdjaaGreatDoor
