/- The statement LexClasses: the walk. -/
import Derived.Test.YtmpbbkjdfneklaaXl
namespace Go.Proofs.Ytmpbbkjdfneklaa
open Go.RowKit

set_option maxHeartbeats 1000000 in
theorem LexClasses_walk (k : Int) (s : ByteArray) (w : World) (hs : s.size ≤ 140737488355328) :
    Calls Try.prog 3 #[.int .i64 k, .string s] w fun e w' => e = .returned (.bool true) ∧ Below w.heap.size w w' := by
  have HL := Lib.hid (fun k W => lIs_any k s W hs)
  have HR := Lib.hid (fun k W => rIs_any k s W hs)
  have HF : Hid (∀ W, Calls Try.prog 5 #[.int .i64 4, .string ⟨#[92, 83, 101, 101, 110]⟩] W fun e w' => e = .returned (.bool true) ∧ w' = W) := Lib.hid (fun W => lIs4 ⟨#[92, 83, 101, 101, 110]⟩ W (by decide))
  have HE : Hid (∀ W, Calls Try.prog 5 #[.int .i64 1, .string ⟨#[]⟩] W fun e w' => e = .returned (.bool false) ∧ w' = W) := Lib.hid (fun W => lIs1 ⟨#[]⟩ W (by decide))
  go_enter Try.func3, Try.ntmps3
  go_wp2
  go_loopw [5] (fun i wr => ∃ j : Nat, j ≤ 8 ∧ i = .int .i64 j ∧ Below w.heap.size w wr) (fun i _ => 8 - (intOf i).toNat)
  case atStart => exact ⟨0, Nat.zero_le _, rfl, Below.refl _ _⟩
  case round =>
    obtain ⟨j, hj, rfl, hb⟩ := hrel
    by_cases hlt : j < 8
    · go_wp2_with fail
      refine (HL.out _ _).mono ?_
      rintro e w1 ⟨rfl, hb1⟩
      go_wp2_with fail
      refine (HR.out _ _).mono ?_
      rintro e w2 ⟨rfl, rfl⟩
      have q := hb.trans (hb1.mono hb.size)
      go_wp2
      go_roundw
      case rel => exact ⟨j + 1, by omega, by go_num, q⟩
      case measure => simp [intOf]; omega
    · go_wp2_with fail
      refine (HL.out _ _).mono ?_
      rintro e w1 ⟨rfl, hb1⟩
      go_wp2_with fail
      refine (HR.out _ _).mono ?_
      rintro e w2 ⟨rfl, rfl⟩
      have q := hb.trans (hb1.mono hb.size)
      go_wp2_with fail
      refine (HF.out _).mono ?_
      rintro e w3 ⟨rfl, rfl⟩
      go_wp2_with fail
      refine (HE.out _).mono ?_
      rintro e w4 ⟨rfl, rfl⟩
      go_wp2
      go_ret
      exact ⟨rfl, q⟩
end Go.Proofs.Ytmpbbkjdfneklaa
