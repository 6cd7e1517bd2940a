/- postbagref2: the calendar. -/
import Derived.Test.YtibhlmbcohpmlaaGreatDoorProg
import Derived.Test.YtibhlmbcohpmlaaGreatDoorPu
import Derived.Test.YtibhlmbcohpmlaaGreatDoorCm
import Derived.Deep.QuietTactic
namespace Go.Proofs.YtibhlmbcohpmlaaGreatDoor
open Go.RowKit

set_option maxHeartbeats 400000 in
theorem leap_any (y : Nat) (w : World) (hy : y ≤ 20000) :
    Calls Tryz.prog 83 #[.int .i64 y] w fun e w' => e = .returned (.bool (leapY y)) ∧ w' = w := by
  have hl := Lib.hid (leapY_iff y)
  have hn := Lib.hid (leapY_not y)
  cases h4 : (((y : Int) % 4) == 0) with
  | false =>
    have HR : Hid (leapY y = false) := Lib.hid (hn.out.2 (fun h => by rw [beq_eq_false_iff_ne] at h4; omega))
    go_enter Tryz.func83, Tryz.ntmps83
    go_wp2
    go_ret
    exact ⟨ret_bool HR.out.symm, rfl⟩
  | true =>
    rw [beq_iff_eq] at h4
    have h4' : ((y : Int) % 4 == 0) = true := by rw [beq_iff_eq]; exact h4
    cases h100 : (((y : Int) % 100) != 0) with
    | true =>
      have HR : Hid (leapY y = true) := Lib.hid (hl.out.2 ⟨by omega, .inl (by rw [bne_iff_ne] at h100; omega)⟩)
      clear h4
      go_enter Tryz.func83, Tryz.ntmps83
      go_wp2
      go_ret
      exact ⟨ret_bool HR.out.symm, rfl⟩
    | false =>
      cases h400 : (((y : Int) % 400) == 0) with
      | true =>
        have HR : Hid (leapY y = true) := Lib.hid (hl.out.2 ⟨by omega, .inr (by rw [beq_iff_eq] at h400; omega)⟩)
        clear h4
        go_enter Tryz.func83, Tryz.ntmps83
        go_wp2
        go_ret
        exact ⟨ret_bool HR.out.symm, rfl⟩
      | false =>
        have HR : Hid (leapY y = false) := Lib.hid (hn.out.2 (fun h => by rw [beq_eq_false_iff_ne] at h400; simp at h100; omega))
        clear h4
        go_enter Tryz.func83, Tryz.ntmps83
        go_wp2
        go_ret
        exact ⟨ret_bool HR.out.symm, rfl⟩

set_option maxHeartbeats 400000 in
theorem length_any (y m : Nat) (w : World) (hy : y ≤ 20000) (hm : m ≤ 20) :
    Calls Tryz.prog 58 #[.int .i64 y, .int .i64 m] w fun e w' => e = .returned (.int .i64 (mlen y m : Nat)) ∧ w' = w := by
  have hL := Lib.hid (fun W => leap_any y W hy)
  have HM : Hid (mlen y m = if m = 4 ∨ m = 6 ∨ m = 9 ∨ m = 11 then 30 else if m = 2 then (if leapY y then 29 else 28) else 31) := Lib.hid rfl
  cases hl : leapY y with
  | true =>
    rw [hl] at hL HM
    rcases (by omega : m = 0 ∨ m = 1 ∨ m = 2 ∨ m = 3 ∨ m = 4 ∨ m = 5 ∨ m = 6 ∨ m = 7 ∨ m = 8 ∨ m = 9 ∨ m = 10 ∨ m = 11 ∨ 12 ≤ m) with rfl | rfl | rfl | rfl | rfl | rfl | rfl | rfl | rfl | rfl | rfl | rfl | h
    case inr.inr.inr.inr.inr.inr.inr.inr.inr.inr.inr.inr =>
      have e4 : ((m : Int) == 4) = false := by rw [beq_eq_false_iff_ne]; omega
      have e6 : ((m : Int) == 6) = false := by rw [beq_eq_false_iff_ne]; omega
      have e9 : ((m : Int) == 9) = false := by rw [beq_eq_false_iff_ne]; omega
      have e11 : ((m : Int) == 11) = false := by rw [beq_eq_false_iff_ne]; omega
      have e2 : ((m : Int) == 2) = false := by rw [beq_eq_false_iff_ne]; omega
      have HR : Hid (mlen y m = 31) := Lib.hid (by rw [HM.out, if_neg (by omega), if_neg (by omega)])
      go_enter Tryz.func58, Tryz.ntmps58
      go_wp2
      go_ret
      exact ⟨ret_int (by rw [HR.out]; rfl), rfl⟩
    all_goals (
      go_enter Tryz.func58, Tryz.ntmps58
      go_wp2_with (go_at_call 83; refine (hL.out _).mono ?_; rintro e w' ⟨rfl, rfl⟩)
      go_ret
      exact ⟨ret_int (by rw [HM.out]; rfl), rfl⟩)
  | false =>
    rw [hl] at hL HM
    rcases (by omega : m = 0 ∨ m = 1 ∨ m = 2 ∨ m = 3 ∨ m = 4 ∨ m = 5 ∨ m = 6 ∨ m = 7 ∨ m = 8 ∨ m = 9 ∨ m = 10 ∨ m = 11 ∨ 12 ≤ m) with rfl | rfl | rfl | rfl | rfl | rfl | rfl | rfl | rfl | rfl | rfl | rfl | h
    case inr.inr.inr.inr.inr.inr.inr.inr.inr.inr.inr.inr =>
      have e4 : ((m : Int) == 4) = false := by rw [beq_eq_false_iff_ne]; omega
      have e6 : ((m : Int) == 6) = false := by rw [beq_eq_false_iff_ne]; omega
      have e9 : ((m : Int) == 9) = false := by rw [beq_eq_false_iff_ne]; omega
      have e11 : ((m : Int) == 11) = false := by rw [beq_eq_false_iff_ne]; omega
      have e2 : ((m : Int) == 2) = false := by rw [beq_eq_false_iff_ne]; omega
      have HR : Hid (mlen y m = 31) := Lib.hid (by rw [HM.out, if_neg (by omega), if_neg (by omega)])
      go_enter Tryz.func58, Tryz.ntmps58
      go_wp2
      go_ret
      exact ⟨ret_int (by rw [HR.out]; rfl), rfl⟩
    all_goals (
      go_enter Tryz.func58, Tryz.ntmps58
      go_wp2_with (go_at_call 83; refine (hL.out _).mono ?_; rintro e w' ⟨rfl, rfl⟩)
      go_ret
      exact ⟨ret_int (by rw [HM.out]; rfl), rfl⟩)

set_option maxHeartbeats 400000 in
theorem year_any (y : Nat) (w : World) (hy : y ≤ 20000) :
    Calls Tryz.prog 57 #[.int .i64 y] w fun e w' => e = .returned (.int .i64 (ylen y : Nat)) ∧ w' = w := by
  have hL := Lib.hid (fun W => leap_any y W hy)
  have HY : Hid (ylen y = if leapY y then 366 else 365) := Lib.hid rfl
  cases hl : leapY y <;> rw [hl] at hL HY
  all_goals (
    go_enter Tryz.func57, Tryz.ntmps57
    go_wp2_with (go_at_call 83; refine (hL.out _).mono ?_; rintro e w' ⟨rfl, rfl⟩)
    go_ret
    exact ⟨ret_int (by rw [HY.out]; rfl), rfl⟩)

theorem length_int (y m : Int) (w : World) (hy0 : 0 ≤ y) (hy : y ≤ 20000) (hm0 : 0 ≤ m) (hm : m ≤ 20) :
    Calls Tryz.prog 58 #[.int .i64 y, .int .i64 m] w fun e w' => e = .returned (.int .i64 (mlen y.toNat m.toNat : Nat)) ∧ w' = w := by
  obtain ⟨a, rfl⟩ := Int.eq_ofNat_of_zero_le hy0
  obtain ⟨b, rfl⟩ := Int.eq_ofNat_of_zero_le hm0
  exact length_any a b w (by omega) (by omega)

set_option maxHeartbeats 400000 in
theorem IsDay_any (y m d h n s z : Int) (w : World) :
    Calls Tryz.prog 56 #[mom y m d h n s z] w fun e w' => e = .returned (.bool (isDayB y m d)) ∧ Below w.heap.size w w' := by
  unfold mom
  by_cases hy : 1 ≤ y ∧ y ≤ 9999 ∧ 1 ≤ m ∧ m ≤ 12 ∧ 1 ≤ d
  · obtain ⟨y1, y2, m1, m2, d1⟩ := hy
    have HR : Hid (isDayB y m d = decide (d ≤ (mlen y.toNat m.toNat : Int))) := Lib.hid (by
      unfold isDayB
      rw [Bool.eq_iff_iff, decide_eq_true_iff, decide_eq_true_iff]
      exact ⟨fun h => h.2.2.2.2.2, fun h => ⟨y1, y2, m1, m2, d1, h⟩⟩)
    go_enter Tryz.func56, Tryz.ntmps56
    go_wp2
    go_quiet ((go_at_call 58; exact Calls.quiet_of_same (length_int _ _ _ (by omega) (by omega) (by omega) (by omega))))
    go_wp2
    go_ret
    exact ⟨ret_bool HR.out.symm, below_drewN ((Below.refl _ _).alloc (Nat.le_refl _) _) _⟩
  · have HR : Hid (isDayB y m d = false) := Lib.hid (by
      unfold isDayB
      rw [decide_eq_false_iff_not]
      exact fun h => hy ⟨h.1, h.2.1, h.2.2.1, h.2.2.2.1, h.2.2.2.2.1⟩)
    go_enter Tryz.func56, Tryz.ntmps56
    go_wp2
    all_goals first
      | (go_ret; exact ⟨ret_bool HR.out.symm, (Below.refl _ _).alloc (Nat.le_refl _) _⟩)
      | (exfalso; omega)
      | (trace_state; sorry)
end Go.Proofs.YtibhlmbcohpmlaaGreatDoor
