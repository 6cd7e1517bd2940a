/- The document's view: bad. -/
import Derived.Test.YtflkhnmggmfhfaaGreatR16y
import Derived.Test.YtflkhnmggmfhfaaGreatR16i
namespace Go.Proofs.YtflkhnmggmfhfaaGreat
open Go.RowKit

set_option maxHeartbeats 1000000 in
theorem bad_any (a b : Int) (n : Nat) (w : World) :
    Calls Tryz.prog 52 #[rgV a b, .int .i64 (n : Int)] w fun e w' => e = .returned (.bool (!takesB n (a, b))) ∧ Below w.heap.size w w' := by
  have HB : Hid (Below w.heap.size w (w.alloc (.cells #[.int .i64 a, .int .i64 b] 90))) := Lib.hid ((Below.refl _ _).alloc (Nat.le_refl _) _)
  by_cases hz : a = 0
  · subst hz
    by_cases hn : n = 0
    · have hnb : ((n : Int) == 0) = true := by simp; omega
      have HE : Hid (true = !takesB n (0, b)) := Lib.hid (by unfold takesB; simp only []; (repeat' split) <;> (first | rfl | (simp; omega) | omega))
      go_enter Tryz.func52, Tryz.ntmps52
      go_wp2_with fail
      go_ret
      exact ⟨ret_bool HE.out, HB.out⟩
    · have hnb : ((n : Int) == 0) = false := by simp; omega
      by_cases hb0 : b < 0
      · have hb0b : decide (b < 0) = true := by simpa using hb0
        have HE : Hid (true = !takesB n (0, b)) := Lib.hid (by unfold takesB; simp only []; (repeat' split) <;> (first | rfl | (simp; omega) | omega))
        go_enter Tryz.func52, Tryz.ntmps52
        go_wp2_with fail
        go_ret
        exact ⟨ret_bool HE.out, HB.out⟩
      · have hb0b : decide (b < 0) = false := by simpa using hb0
        by_cases hb1 : 4294967295 < b
        · have hb1b : decide (4294967295 < b) = true := by simpa using hb1
          have HE : Hid (true = !takesB n (0, b)) := Lib.hid (by unfold takesB; simp only []; (repeat' split) <;> (first | rfl | (simp; omega) | omega))
          go_enter Tryz.func52, Tryz.ntmps52
          go_wp2_with fail
          go_ret
          exact ⟨ret_bool HE.out, HB.out⟩
        · have hb1b : decide (4294967295 < b) = false := by simpa using hb1
          have HE : Hid (false = !takesB n (0, b)) := Lib.hid (by unfold takesB; simp only []; (repeat' split) <;> (first | rfl | (simp; omega) | omega))
          go_enter Tryz.func52, Tryz.ntmps52
          go_wp2_with fail
          go_ret
          exact ⟨ret_bool HE.out, HB.out⟩
  · have hzb : (a == 0) = false := by simpa using hz
    by_cases hy : b = 0
    · subst hy
      by_cases hn : n = 0
      · have hnb : ((n : Int) == 0) = true := by simp; omega
        have HE : Hid (true = !takesB n (a, 0)) := Lib.hid (by unfold takesB; simp only []; (repeat' split) <;> (first | rfl | (simp; omega) | omega))
        go_enter Tryz.func52, Tryz.ntmps52
        go_wp2_with fail
        go_ret
        exact ⟨ret_bool HE.out, HB.out⟩
      · have hnb : ((n : Int) == 0) = false := by simp; omega
        by_cases ha0 : a < 0
        · have ha0b : decide (a < 0) = true := by simpa using ha0
          have HE : Hid (true = !takesB n (a, 0)) := Lib.hid (by unfold takesB; simp only []; (repeat' split) <;> (first | rfl | (simp; omega) | omega))
          go_enter Tryz.func52, Tryz.ntmps52
          go_wp2_with fail
          go_ret
          exact ⟨ret_bool HE.out, HB.out⟩
        · have ha0b : decide (a < 0) = false := by simpa using ha0
          by_cases ha1 : 4294967295 < a
          · have ha1b : decide (4294967295 < a) = true := by simpa using ha1
            have HE : Hid (true = !takesB n (a, 0)) := Lib.hid (by unfold takesB; simp only []; (repeat' split) <;> (first | rfl | (simp; omega) | omega))
            go_enter Tryz.func52, Tryz.ntmps52
            go_wp2_with fail
            go_ret
            exact ⟨ret_bool HE.out, HB.out⟩
          · have ha1b : decide (4294967295 < a) = false := by simpa using ha1
            have HE : Hid (false = !takesB n (a, 0)) := Lib.hid (by unfold takesB; simp only []; (repeat' split) <;> (first | rfl | (simp; omega) | omega))
            go_enter Tryz.func52, Tryz.ntmps52
            go_wp2_with fail
            go_ret
            exact ⟨ret_bool HE.out, HB.out⟩
    · have hyb : (b == 0) = false := by simpa using hy
      by_cases ha0 : a < 1
      · have ha0b : decide (a < 1) = true := by simpa using ha0
        have HE : Hid (true = !takesB n (a, b)) := Lib.hid (by unfold takesB; simp only []; (repeat' split) <;> (first | rfl | (simp; omega) | omega))
        go_enter Tryz.func52, Tryz.ntmps52
        go_wp2_with fail
        go_ret
        exact ⟨ret_bool HE.out, HB.out⟩
      · have ha0b : decide (a < 1) = false := by simpa using ha0
        by_cases hb0 : b < 1
        · have hb0b : decide (b < 1) = true := by simpa using hb0
          have HE : Hid (true = !takesB n (a, b)) := Lib.hid (by unfold takesB; simp only []; (repeat' split) <;> (first | rfl | (simp; omega) | omega))
          go_enter Tryz.func52, Tryz.ntmps52
          go_wp2_with fail
          go_ret
          exact ⟨ret_bool HE.out, HB.out⟩
        · have hb0b : decide (b < 1) = false := by simpa using hb0
          by_cases ha1 : (n : Int) < a
          · have ha1b : decide ((n : Int) < a) = true := by simpa using ha1
            have HE : Hid (true = !takesB n (a, b)) := Lib.hid (by unfold takesB; simp only []; (repeat' split) <;> (first | rfl | (simp; omega) | omega))
            go_enter Tryz.func52, Tryz.ntmps52
            go_wp2_with fail
            go_ret
            exact ⟨ret_bool HE.out, HB.out⟩
          · have ha1b : decide ((n : Int) < a) = false := by simpa using ha1
            by_cases hb1 : (n : Int) < b
            · have hb1b : decide ((n : Int) < b) = true := by simpa using hb1
              have HE : Hid (true = !takesB n (a, b)) := Lib.hid (by unfold takesB; simp only []; (repeat' split) <;> (first | rfl | (simp; omega) | omega))
              go_enter Tryz.func52, Tryz.ntmps52
              go_wp2_with fail
              go_ret
              exact ⟨ret_bool HE.out, HB.out⟩
            · have hb1b : decide ((n : Int) < b) = false := by simpa using hb1
              have HE : Hid (false = !takesB n (a, b)) := Lib.hid (by unfold takesB; simp only []; (repeat' split) <;> (first | rfl | (simp; omega) | omega))
              go_enter Tryz.func52, Tryz.ntmps52
              go_wp2_with fail
              go_ret
              exact ⟨ret_bool HE.out, HB.out⟩
end Go.Proofs.YtflkhnmggmfhfaaGreat
