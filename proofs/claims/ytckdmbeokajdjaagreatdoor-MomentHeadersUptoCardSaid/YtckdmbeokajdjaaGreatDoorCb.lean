/- postbagref2: the calendar. -/
import Derived.Test.YtckdmbeokajdjaaGreatDoorProg
import Derived.Test.YtckdmbeokajdjaaGreatDoorPu
import Derived.Test.YtckdmbeokajdjaaGreatDoorCm
import Derived.Deep.QuietTactic
namespace Go.Proofs.YtckdmbeokajdjaaGreatDoor
open Go.RowKit

set_option maxHeartbeats 400000 in
theorem leap_any (y : Nat) (w : World) (hy : y ≤ 20000) :
    Calls Tryz.prog 96 #[.int .i64 y] w fun e w' => e = .returned (.bool (leapY y)) ∧ w' = w := by
  have hl := Lib.hid (leapY_iff y)
  have hn := Lib.hid (leapY_not y)
  cases h4 : (((y : Int) % 4) == 0) with
  | false =>
    have HR : Hid (leapY y = false) := Lib.hid (hn.out.2 (fun h => by rw [beq_eq_false_iff_ne] at h4; omega))
    go_enter Tryz.func96, Tryz.ntmps96
    go_wp2
    go_ret
    exact ⟨ret_bool HR.out.symm, rfl⟩
  | true =>
    rw [beq_iff_eq] at h4
    have h4' : ((y : Int) % 4 == 0) = true := by rw [beq_iff_eq]; exact h4
    cases h100 : (((y : Int) % 100) != 0) with
    | true =>
      have HR : Hid (leapY y = true) := Lib.hid (hl.out.2 ⟨by omega, .inl (by rw [bne_iff_ne] at h100; omega)⟩)
      clear h4
      go_enter Tryz.func96, Tryz.ntmps96
      go_wp2
      go_ret
      exact ⟨ret_bool HR.out.symm, rfl⟩
    | false =>
      cases h400 : (((y : Int) % 400) == 0) with
      | true =>
        have HR : Hid (leapY y = true) := Lib.hid (hl.out.2 ⟨by omega, .inr (by rw [beq_iff_eq] at h400; omega)⟩)
        clear h4
        go_enter Tryz.func96, Tryz.ntmps96
        go_wp2
        go_ret
        exact ⟨ret_bool HR.out.symm, rfl⟩
      | false =>
        have HR : Hid (leapY y = false) := Lib.hid (hn.out.2 (fun h => by rw [beq_eq_false_iff_ne] at h400; simp at h100; omega))
        clear h4
        go_enter Tryz.func96, Tryz.ntmps96
        go_wp2
        go_ret
        exact ⟨ret_bool HR.out.symm, rfl⟩

set_option maxHeartbeats 400000 in
theorem length_any (y m : Nat) (w : World) (hy : y ≤ 20000) (hm : m ≤ 20) :
    Calls Tryz.prog 83 #[.int .i64 y, .int .i64 m] w fun e w' => e = .returned (.int .i64 (mlen y m : Nat)) ∧ w' = w := by
  have hL := Lib.hid (fun W => leap_any y W hy)
  have HM : Hid (mlen y m = if m = 4 ∨ m = 6 ∨ m = 9 ∨ m = 11 then 30 else if m = 2 then (if leapY y then 29 else 28) else 31) := Lib.hid rfl
  cases hl : leapY y with
  | true =>
    rw [hl] at hL HM
    rcases (by omega : m = 0 ∨ m = 1 ∨ m = 2 ∨ m = 3 ∨ m = 4 ∨ m = 5 ∨ m = 6 ∨ m = 7 ∨ m = 8 ∨ m = 9 ∨ m = 10 ∨ m = 11 ∨ 12 ≤ m) with rfl | rfl | rfl | rfl | rfl | rfl | rfl | rfl | rfl | rfl | rfl | rfl | h
    case inr.inr.inr.inr.inr.inr.inr.inr.inr.inr.inr.inr =>
      have e4 : ((m : Int) == 4) = false := by rw [beq_eq_false_iff_ne]; omega
      have e6 : ((m : Int) == 6) = false := by rw [beq_eq_false_iff_ne]; omega
      have e9 : ((m : Int) == 9) = false := by rw [beq_eq_false_iff_ne]; omega
      have e11 : ((m : Int) == 11) = false := by rw [beq_eq_false_iff_ne]; omega
      have e2 : ((m : Int) == 2) = false := by rw [beq_eq_false_iff_ne]; omega
      have HR : Hid (mlen y m = 31) := Lib.hid (by rw [HM.out, if_neg (by omega), if_neg (by omega)])
      go_enter Tryz.func83, Tryz.ntmps83
      go_wp2
      go_ret
      exact ⟨ret_int (by rw [HR.out]; rfl), rfl⟩
    all_goals (
      go_enter Tryz.func83, Tryz.ntmps83
      go_wp2_with (go_at_call 96; refine (hL.out _).mono ?_; rintro e w' ⟨rfl, rfl⟩)
      go_ret
      exact ⟨ret_int (by rw [HM.out]; rfl), rfl⟩)
  | false =>
    rw [hl] at hL HM
    rcases (by omega : m = 0 ∨ m = 1 ∨ m = 2 ∨ m = 3 ∨ m = 4 ∨ m = 5 ∨ m = 6 ∨ m = 7 ∨ m = 8 ∨ m = 9 ∨ m = 10 ∨ m = 11 ∨ 12 ≤ m) with rfl | rfl | rfl | rfl | rfl | rfl | rfl | rfl | rfl | rfl | rfl | rfl | h
    case inr.inr.inr.inr.inr.inr.inr.inr.inr.inr.inr.inr =>
      have e4 : ((m : Int) == 4) = false := by rw [beq_eq_false_iff_ne]; omega
      have e6 : ((m : Int) == 6) = false := by rw [beq_eq_false_iff_ne]; omega
      have e9 : ((m : Int) == 9) = false := by rw [beq_eq_false_iff_ne]; omega
      have e11 : ((m : Int) == 11) = false := by rw [beq_eq_false_iff_ne]; omega
      have e2 : ((m : Int) == 2) = false := by rw [beq_eq_false_iff_ne]; omega
      have HR : Hid (mlen y m = 31) := Lib.hid (by rw [HM.out, if_neg (by omega), if_neg (by omega)])
      go_enter Tryz.func83, Tryz.ntmps83
      go_wp2
      go_ret
      exact ⟨ret_int (by rw [HR.out]; rfl), rfl⟩
    all_goals (
      go_enter Tryz.func83, Tryz.ntmps83
      go_wp2_with (go_at_call 96; refine (hL.out _).mono ?_; rintro e w' ⟨rfl, rfl⟩)
      go_ret
      exact ⟨ret_int (by rw [HM.out]; rfl), rfl⟩)

set_option maxHeartbeats 400000 in
theorem year_any (y : Nat) (w : World) (hy : y ≤ 20000) :
    Calls Tryz.prog 91 #[.int .i64 y] w fun e w' => e = .returned (.int .i64 (ylen y : Nat)) ∧ w' = w := by
  have hL := Lib.hid (fun W => leap_any y W hy)
  have HY : Hid (ylen y = if leapY y then 366 else 365) := Lib.hid rfl
  cases hl : leapY y <;> rw [hl] at hL HY
  all_goals (
    go_enter Tryz.func91, Tryz.ntmps91
    go_wp2_with (go_at_call 96; refine (hL.out _).mono ?_; rintro e w' ⟨rfl, rfl⟩)
    go_ret
    exact ⟨ret_int (by rw [HY.out]; rfl), rfl⟩)

theorem length_int (y m : Int) (w : World) (hy0 : 0 ≤ y) (hy : y ≤ 20000) (hm0 : 0 ≤ m) (hm : m ≤ 20) :
    Calls Tryz.prog 83 #[.int .i64 y, .int .i64 m] w fun e w' => e = .returned (.int .i64 (mlen y.toNat m.toNat : Nat)) ∧ w' = w := by
  obtain ⟨a, rfl⟩ := Int.eq_ofNat_of_zero_le hy0
  obtain ⟨b, rfl⟩ := Int.eq_ofNat_of_zero_le hm0
  exact length_any a b w (by omega) (by omega)

set_option maxHeartbeats 400000 in
theorem IsDay_any (y m d h n s z : Int) (w : World) :
    Calls Tryz.prog 65 #[mom y m d h n s z] w fun e w' => e = .returned (.bool (isDayB y m d)) ∧ Below w.heap.size w w' := by
  unfold mom
  by_cases hy : 1 ≤ y ∧ y ≤ 9999 ∧ 1 ≤ m ∧ m ≤ 12 ∧ 1 ≤ d
  · obtain ⟨y1, y2, m1, m2, d1⟩ := hy
    have HR : Hid (isDayB y m d = decide (d ≤ (mlen y.toNat m.toNat : Int))) := Lib.hid (by
      unfold isDayB
      rw [Bool.eq_iff_iff, decide_eq_true_iff, decide_eq_true_iff]
      exact ⟨fun h => h.2.2.2.2.2, fun h => ⟨y1, y2, m1, m2, d1, h⟩⟩)
    go_enter Tryz.func65, Tryz.ntmps65
    go_wp2
    go_quiet ((go_at_call 83; exact Calls.quiet_of_same (length_int _ _ _ (by omega) (by omega) (by omega) (by omega))))
    go_wp2
    go_ret
    exact ⟨ret_bool HR.out.symm, below_drewN ((Below.refl _ _).alloc (Nat.le_refl _) _) _⟩
  · have HR : Hid (isDayB y m d = false) := Lib.hid (by
      unfold isDayB
      rw [decide_eq_false_iff_not]
      exact fun h => hy ⟨h.1, h.2.1, h.2.2.1, h.2.2.2.1, h.2.2.2.2.1⟩)
    go_enter Tryz.func65, Tryz.ntmps65
    go_wp2
    all_goals first
      | (go_ret; exact ⟨ret_bool HR.out.symm, (Below.refl _ _).alloc (Nat.le_refl _) _⟩)
      | (exfalso; omega)
      | (trace_state; sorry)
end Go.Proofs.YtckdmbeokajdjaaGreatDoor

/- postbagref2: Valid, Days, Weekday, Stamp, Order. -/
namespace Go.Proofs.YtckdmbeokajdjaaGreatDoor
open Go.RowKit

set_option maxHeartbeats 1000000 in
theorem Valid_any (y m d h n s z : Int) (w : World) :
    Calls Tryz.prog 68 #[mom y m d h n s z] w fun e w' => e = .returned (.bool (validB y m d h n s z)) ∧ Below w.heap.size w w' := by
  have hD := Lib.hid (fun W => IsDay_any y m d h n s z W)
  have q0 : ∀ cs t, Below w.heap.size w (w.alloc (.cells cs t)) := fun cs t => (Below.refl _ _).alloc (Nat.le_refl _) _
  unfold mom at hD ⊢
  cases hd : isDayB y m d with
  | false =>
    rw [hd] at hD
    have HR : Hid (validB y m d h n s z = false) := Lib.hid (by unfold validB; rw [hd]; rfl)
    go_enter Tryz.func68, Tryz.ntmps68
    go_wp2_with (go_at_call 65; refine (hD.out _).mono ?_; rintro e w1 ⟨rfl, hb1⟩)
    go_ret
    exact ⟨ret_bool HR.out.symm, (q0 _ _).trans (hb1.mono (q0 _ _).size)⟩
  | true =>
    rw [hd] at hD
    have HR : Hid (validB y m d h n s z = timeB h n s z) := Lib.hid (by unfold validB; rw [hd]; rfl)
    go_enter Tryz.func68, Tryz.ntmps68
    go_wp2_with fail
    refine (hD.out _).mono ?_
    rintro e w1 ⟨rfl, hb1⟩
    have x3 := boxed hb1 3
    have x4 := boxed hb1 4
    have x5 := boxed hb1 5
    have x6 := boxed hb1 6
    simp only [List.getElem?_toArray, List.getElem?_cons_succ, List.getElem?_cons_zero] at x3 x4 x5 x6
    go_wp2
    all_goals (
      go_ret
      exact ⟨ret_bool (by rw [HR.out]; unfold timeB; first | (symm; rw [decide_eq_true_iff]; omega) | (symm; rw [decide_eq_false_iff_not]; omega) | (rw [decide_eq_decide]; omega)), (q0 _ _).trans (hb1.mono (q0 _ _).size)⟩)

theorem year_int (y : Int) (w : World) (hy0 : 0 ≤ y) (hy : y ≤ 20000) :
    Calls Tryz.prog 91 #[.int .i64 y] w fun e w' => e = .returned (.int .i64 (ylen y.toNat : Nat)) ∧ w' = w := by
  obtain ⟨a, rfl⟩ := Int.eq_ofNat_of_zero_le hy0
  exact year_any a w (by omega)
set_option maxRecDepth 100000 in
set_option maxHeartbeats 2000000 in
theorem refDays_any (y m d h n s z : Int) (w : World) :
    Calls Tryz.prog 69 #[mom y m d h n s z] w fun e w' => e = .returned (.int .i64 (daysV y m d h n s z)) ∧ Below w.heap.size w w' := by
  have hV := Lib.hid (fun W => Valid_any y m d h n s z W)
  have q0 : ∀ cs t, Below w.heap.size w (w.alloc (.cells cs t)) := fun cs t => (Below.refl _ _).alloc (Nat.le_refl _) _
  unfold mom at hV ⊢
  cases hv : validB y m d h n s z with
  | false =>
    rw [hv] at hV
    have HR : Hid (daysV y m d h n s z = 0) := Lib.hid (by unfold daysV; rw [hv]; rfl)
    go_enter Tryz.func69, Tryz.ntmps69
    go_wp2_with (go_at_call 68; refine (hV.out _).mono ?_; rintro e w1 ⟨rfl, hb1⟩)
    go_ret
    exact ⟨ret_int HR.out.symm, (q0 _ _).trans (hb1.mono (q0 _ _).size)⟩
  | true =>
    rw [hv] at hV
    have HR : Hid (daysV y m d h n s z = daysI y.toNat m.toNat d.toNat) := Lib.hid (by unfold daysV; rw [hv]; rfl)
    obtain ⟨Y, M, D, rfl, rfl, rfl, hd, ht⟩ := valid_parts y m d h n s z hv
    simp only [Int.toNat_natCast] at HR
    have y1 := hd.y1
    have y2 := hd.y2
    have m1 := hd.m1
    have m2 := hd.m2
    have d1 := hd.d1
    have d2 := hd.d2
    have d3 := mlen_bounds Y M
    have hdl := dno_lt Y M D hd
    have HD : Hid (daysI Y M D = (D : Int) - 1 + ((dby Y : Int) - 719162) + (dbm Y M : Int)) := Lib.hid (by unfold daysI dno; omega)
    have hyl := dby_mono Y 10000 y1 (by omega)
    rw [dby_10000] at hyl
    have hml := dbm_mono Y M 13 m1 (by omega)
    rw [dbm_13] at hml
    have hy3 := ylen_le Y
    have d31 : D ≤ 31 := by omega
    clear hd ht hv d2 hdl
    go_enter Tryz.func69, Tryz.ntmps69
    go_wp2_with fail
    refine (hV.out _).mono ?_
    rintro e w1 ⟨rfl, hb1⟩
    have x0 := boxed hb1 0
    have x1 := boxed hb1 1
    have x2 := boxed hb1 2
    simp only [List.getElem?_toArray, List.getElem?_cons_succ, List.getElem?_cons_zero] at x0 x1 x2
    have HB := Lib.hid ((q0 _ _).trans (hb1.mono (q0 _ _).size))
    clear hb1 q0 hV
    go_wp2
    go_loop [3, 4] (fun nn yy => ∃ k : Nat, 1970 ≤ k ∧ (k ≤ Y ∨ k = 1970) ∧ yy = .int .i64 k ∧ nn = .int .i64 ((D : Int) - 1 + ((dby k : Int) - 719162))) (fun _ yy => Y - (intOf yy).toNat)
    case atStart => exact ⟨1970, by omega, .inr rfl, rfl, by rw [dby_1970]; simp⟩
    case round =>
      obtain ⟨k, hk1, hk2, rfl, rfl⟩ := hrel
      have hkl := dby_mono k 10000 (by omega) (by omega)
      rw [dby_10000] at hkl
      by_cases hlt : k < Y
      · have hyk := Lib.hid (dby_succ k (by omega))
        have hYk := Lib.hid (fun W => year_any k W (by omega))
        have hyl := ylen_le k
        generalize ylen k = L at *
        generalize dby k = B at *
        go_wp2_with (go_at_call 91; refine (hYk.out _).mono ?_; rintro e w2 ⟨rfl, rfl⟩)
        go_round
        case rel => exact ⟨k + 1, by omega, by omega, by go_num, by rw [hyk.out]; congr 1; push_cast; omega⟩
        case measure => simp [intOf]; omega
      · have hkY : (Y < 1970 → k = 1970) ∧ (1970 ≤ Y → k = Y) := by omega
        have HKY := Lib.hid hkY
        clear hkY hk2
        generalize hBk : dby k = Bk at *
        have HBK := Lib.hid hBk
        clear hBk
        go_wp2
        go_loop [3, 5] (fun nn yy => ∃ j : Nat, Y ≤ j ∧ (j ≤ 1970 ∨ j = Y) ∧ yy = .int .i64 j ∧ nn = .int .i64 ((D : Int) - 1 + ((Bk : Int) - 719162) - ((dby j : Int) - (dby Y : Int)))) (fun _ yy => 1970 - (intOf yy).toNat)
        case atStart => exact ⟨Y, by omega, .inr rfl, rfl, by congr 1; omega⟩
        case round =>
          obtain ⟨j, hj1, hj2, rfl, rfl⟩ := hrel
          have hjl := dby_mono j 10000 (by omega) (by omega)
          rw [dby_10000] at hjl
          by_cases hlt2 : j < 1970
          · have hyj := Lib.hid (dby_succ j (by omega))
            have hYj := Lib.hid (fun W => year_any j W (by omega))
            have hyl2 := ylen_le j
            generalize ylen j = L at *
            generalize dby j = C at *
            go_wp2_with (go_at_call 91; refine (hYj.out _).mono ?_; rintro e w2 ⟨rfl, rfl⟩)
            go_round
            case rel => exact ⟨j + 1, by omega, by omega, by go_num, by rw [hyj.out]; congr 1; push_cast; omega⟩
            case measure => simp [intOf]; omega
          · have hN : (D : Int) - 1 + ((Bk : Int) - 719162) - ((dby j : Int) - (dby Y : Int)) = (D : Int) - 1 + ((dby Y : Int) - 719162) := by
              rw [← HBK.out]
              rcases Nat.lt_or_ge Y 1970 with h | h
              · rw [HKY.out.1 h, show j = 1970 by omega]; omega
              · rw [HKY.out.2 h, show j = Y by omega]; omega
            rw [hN]
            clear hN hj2 hjl
            generalize dby Y = BY at *
            go_wp2
            go_loop [3, 6] (fun nn ii => ∃ i : Nat, 1 ≤ i ∧ i ≤ M ∧ ii = .int .i64 i ∧ nn = .int .i64 ((D : Int) - 1 + ((BY : Int) - 719162) + (dbm Y i : Int))) (fun _ ii => M - (intOf ii).toNat)
            case atStart => exact ⟨1, by omega, by omega, rfl, by rw [dbm_one]; simp⟩
            case round =>
              obtain ⟨i, hi1, hi2, rfl, rfl⟩ := hrel
              by_cases hlt3 : i < M
              · have hmi := Lib.hid (dbm_succ Y i hi1)
                have hMi := Lib.hid (fun W => length_any Y i W (by omega) (by omega))
                have hb := mlen_bounds Y i
                have hil := dbm_mono Y i 13 hi1 (by omega)
                rw [dbm_13] at hil
                generalize mlen Y i = L at *
                generalize dbm Y i = C at *
                go_wp2_with (go_at_call 83; refine (hMi.out _).mono ?_; rintro e w2 ⟨rfl, rfl⟩)
                go_round
                case rel => exact ⟨i + 1, by omega, by omega, by go_num, by rw [hmi.out]; congr 1; push_cast; omega⟩
                case measure => simp [intOf]; omega
              · have hiM : i = M := by omega
                subst hiM
                go_wp2
                go_ret
                exact ⟨ret_int (by rw [HR.out, HD.out]), HB.out⟩
end Go.Proofs.YtckdmbeokajdjaaGreatDoor

/- postbagref2: Weekday, Stamp, Order. -/
namespace Go.Proofs.YtckdmbeokajdjaaGreatDoor
open Go.RowKit

set_option maxRecDepth 100000 in
set_option maxHeartbeats 1000000 in
theorem refWeekday_any (y m d h n s z : Int) (w : World) :
    Calls Tryz.prog 41 #[mom y m d h n s z] w fun e w' => e = .returned (.int .i64 (wdayV y m d h n s z)) ∧ Below w.heap.size w w' := by
  have hV := Lib.hid (fun W => Valid_any y m d h n s z W)
  have hD := Lib.hid (fun W => refDays_any y m d h n s z W)
  have q0 : ∀ cs t, Below w.heap.size w (w.alloc (.cells cs t)) := fun cs t => (Below.refl _ _).alloc (Nat.le_refl _) _
  unfold mom at hV hD ⊢
  cases hv : validB y m d h n s z with
  | false =>
    rw [hv] at hV
    have HR : Hid (wdayV y m d h n s z = 0) := Lib.hid (by unfold wdayV; rw [hv]; rfl)
    go_enter Tryz.func41, Tryz.ntmps41
    go_wp2_with (go_at_call 68; refine (hV.out _).mono ?_; rintro e w1 ⟨rfl, hb1⟩)
    go_ret
    exact ⟨ret_int HR.out.symm, (q0 _ _).trans (hb1.mono (q0 _ _).size)⟩
  | true =>
    rw [hv] at hV
    have hdv : daysV y m d h n s z = daysI y.toNat m.toNat d.toNat := by unfold daysV; rw [hv]; rfl
    have HR : Hid (wdayV y m d h n s z = wdayI (daysI y.toNat m.toNat d.toNat)) := Lib.hid (by unfold wdayV; rw [hv]; rfl)
    obtain ⟨b1, b2⟩ := days_bounds y m d h n s z hv
    rw [hdv] at hD
    generalize daysI y.toNat m.toNat d.toNat = N at *
    clear hdv hv
    go_enter Tryz.func41, Tryz.ntmps41
    go_wp2_with fail
    refine (hV.out _).mono ?_
    rintro e w1 ⟨rfl, hb1⟩
    have x0 := boxed hb1 0
    have x1 := boxed hb1 1
    have x2 := boxed hb1 2
    have x3 := boxed hb1 3
    have x4 := boxed hb1 4
    have x5 := boxed hb1 5
    have x6 := boxed hb1 6
    simp only [List.getElem?_toArray, List.getElem?_cons_succ, List.getElem?_cons_zero] at x0 x1 x2 x3 x4 x5 x6
    have HB := Lib.hid ((q0 _ _).trans (hb1.mono (q0 _ _).size))
    clear hb1 q0 hV
    go_wp2_with (go_at_call 69; refine (hD.out _).mono ?_; rintro e w2 ⟨rfl, hb2⟩)
    go_ret
    exact ⟨ret_int (by rw [HR.out, tmod7]; rfl), HB.out.trans (hb2.mono HB.out.size)⟩

end Go.Proofs.YtckdmbeokajdjaaGreatDoor
