/- The statement LexNumbers: the walk. -/
import Derived.Test.YtmpbbkjdfneklaaXe
namespace Go.Proofs.Ytmpbbkjdfneklaa
open Go.RowKit

set_option maxHeartbeats 400000 in
theorem num_any (e : Int) (w : World) :
    Calls Try.prog 9 #[.int .i64 e] w fun x w' => x = .returned (.int .i64 e) ∧ w' = w := by
  go_enter Try.func9, Try.ntmps9
  go_wp2
  go_ret
  exact ⟨rfl, rfl⟩
set_option maxHeartbeats 1000000 in
theorem LexNumbers_walk (s : ByteArray) (most : Int) (w : World) (hs : s.size ≤ 140737488355328) (hm0 : -9223372036854775808 ≤ most) (hm1 : most ≤ 9223372036854775807) :
    Calls Try.prog 4 #[.string s, .int .i64 most] w fun e w' => e = .returned (.bool true) ∧ Below w.heap.size w w' := by
  have HR := Lib.hid (fun W => refNumber_any s most W hs hm0 hm1)
  have HL := Lib.hid (fun W => lexNumber_any s most W hs hm0 hm1)
  have HT : Hid (∀ W, Calls Try.prog 8 #[.string ⟨#[49, 48]⟩, .int .i64 10] W fun e w' => e = .returned (.tuple #[.int .i64 10, .int .i64 0]) ∧ w' = W) :=
    Lib.hid (fun W => lexNumber_any ⟨#[49, 48]⟩ 10 W (by decide) (by decide) (by decide))
  generalize numV (L s) most = a at *
  generalize errV (L s) most = b at *
  go_enter Try.func4, Try.ntmps4
  go_wp2_with fail
  refine (HR.out _).mono ?_
  rintro e w1 ⟨rfl, rfl⟩
  go_wp2_with fail
  refine (HL.out _).mono ?_
  rintro e w1 ⟨rfl, rfl⟩
  go_wp2_with fail
  refine (HT.out _).mono ?_
  rintro e w1 ⟨rfl, rfl⟩
  go_wp2_with (go_at_call 9; refine (num_any _ _).mono ?_; rintro e w' ⟨rfl, rfl⟩)
  go_ret
  exact ⟨by simp, Below.refl _ _⟩
end Go.Proofs.Ytmpbbkjdfneklaa
