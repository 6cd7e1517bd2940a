/- moment: dayNumber, Days, Weekday, Stamp. -/
import Derived.Test.YtckdmbeokajdjaaGreatDoorDb
namespace Go.Proofs.YtckdmbeokajdjaaGreatDoor
open Go.RowKit

set_option maxRecDepth 100000 in
set_option maxHeartbeats 2000000 in
theorem dayNumber_any (Y M D : Nat) (h n s z : Int) (w : World) (he : Env w) (hd : IsDay Y M D) :
    Calls Tryz.prog 34 #[mom Y M D h n s z] w fun e w' => e = .returned (.int .i64 (daysI Y M D)) ∧ Below w.heap.size w w' := by
  have q0 : ∀ cs t, Below w.heap.size w (w.alloc (.cells cs t)) := fun cs t => (Below.refl _ _).alloc (Nat.le_refl _) _
  have HE := Lib.hid (fun cs t => he.on (q0 cs t))
  unfold mom
  have y1 := hd.y1
  have y2 := hd.y2
  have m1 := hd.m1
  have m2 := hd.m2
  have d1 := hd.d1
  have d2 := hd.d2
  have d3 := mlen_bounds Y M
  have HD : Hid (daysI Y M D = (dby Y : Int) - 719162 + (dbm Y M : Int) + (D : Int) - 1) := Lib.hid (by unfold daysI dno; omega)
  have hyl := dby_mono Y 10000 y1 (by omega)
  rw [dby_10000] at hyl
  have hml := dbm_mono Y M 13 m1 (by omega)
  rw [dbm_13] at hml
  have hy3 := ylen_le Y
  have d31 : D ≤ 31 := by omega
  have HP : Hid ((dby Y : Int) - 719162 = -719162 + 365 * ((Y : Int) - 1) + ((Y : Int) - 1) / 4 - ((Y : Int) - 1) / 100 + ((Y : Int) - 1) / 400) := Lib.hid (by unfold dby; omega)
  have p1 : 0 ≤ (Y : Int) - 1 := by omega
  have p2 : (Y : Int) - 1 ≤ 9998 := by omega
  have hmL : ∀ k, 1 ≤ k → k ≤ M → ∀ W, Env W → Calls Tryz.prog 55 #[.int .i64 Y, .int .i64 k] W fun e w' => e = .returned (.int .i64 (mlen Y k : Nat)) ∧ w' = W := fun k h1 h2 W hW => monthLength_any Y k W hW (by omega) h1 (by omega)
  have HML := Lib.hid hmL
  generalize hBY : dby Y = BY at *
  clear hd d2 hmL he q0 hBY
  go_enter Tryz.func34, Tryz.ntmps34
  go_wp2
  rw [← HP.out]
  clear HP p1 p2
  go_loop [4, 5] (fun nn ii => ∃ i : Nat, 1 ≤ i ∧ i ≤ M ∧ ii = .int .i64 i ∧ nn = .int .i64 ((BY : Int) - 719162 + (dbm Y i : Int))) (fun _ ii => M - (intOf ii).toNat)
  case atStart => exact ⟨1, by omega, by omega, rfl, by rw [dbm_one]; simp⟩
  case round =>
    obtain ⟨i, hi1, hi2, rfl, rfl⟩ := hrel
    have hil := dbm_mono Y i 13 hi1 (by omega)
    rw [dbm_13] at hil
    by_cases hlt : i < M
    · have hmk := Lib.hid (dbm_succ Y i hi1)
      have hmb := mlen_bounds Y i
      have hmi := Lib.hid (HML.out i hi1 hi2)
      clear HML d3
      generalize mlen Y i = Lm at *
      generalize dbm Y i = Bm at *
      go_wp2_with (go_at_call 55; refine (hmi.out _ (HE.out _ _)).mono ?_; rintro e w2 ⟨rfl, rfl⟩)
      go_round
      case rel => exact ⟨i + 1, by omega, by omega, by go_num, by rw [hmk.out]; congr 1; push_cast; omega⟩
      case measure => simp [intOf]; omega
    · have hiM : i = M := by omega
      subst hiM
      clear HML
      generalize dbm Y i = Bm at *
      go_wp2
      go_ret
      exact ⟨ret_int (by rw [HD.out]), (Below.refl _ _).alloc (Nat.le_refl _) _⟩
theorem dayNumber_val (y m d h n s z : Int) (w : World) (he : Env w) (hv : isDayB y m d = true) :
    Calls Tryz.prog 34 #[mom y m d h n s z] w fun e w' => e = .returned (.int .i64 (daysI y.toNat m.toNat d.toNat)) ∧ Below w.heap.size w w' := by
  unfold isDayB at hv
  rw [decide_eq_true_iff] at hv
  obtain ⟨a1, a2, a3, a4, a5, a6⟩ := hv
  obtain ⟨Y, rfl⟩ := Int.eq_ofNat_of_zero_le (show 0 ≤ y by omega)
  obtain ⟨M, rfl⟩ := Int.eq_ofNat_of_zero_le (show 0 ≤ m by omega)
  obtain ⟨D, rfl⟩ := Int.eq_ofNat_of_zero_le (show 0 ≤ d by omega)
  exact dayNumber_any Y M D h n s z w he ⟨by omega, by omega, by omega, by omega, by omega, by simpa using a6⟩

theorem valid_day {y m d h n s z : Int} (hv : validB y m d h n s z = true) : isDayB y m d = true := by
  unfold validB at hv
  rw [Bool.and_eq_true] at hv
  exact hv.1
/-- What the box of a moment holds behind a call. -/
theorem boxed7 {w w1 : World} {y m d h n s z : Int} {t : TypeId} (hb : Below (w.alloc (.cells #[.int .i64 y, .int .i64 m, .int .i64 d, .int .i64 h, .int .i64 n, .int .i64 s, .int .i64 z] t)).heap.size (w.alloc (.cells #[.int .i64 y, .int .i64 m, .int .i64 d, .int .i64 h, .int .i64 n, .int .i64 s, .int .i64 z] t)) w1) :
    w1.cell? ⟨w.heap.size, 0, none⟩ = some (.int .i64 y) ∧ w1.cell? ⟨w.heap.size, 1, none⟩ = some (.int .i64 m) ∧ w1.cell? ⟨w.heap.size, 2, none⟩ = some (.int .i64 d) ∧ w1.cell? ⟨w.heap.size, 3, none⟩ = some (.int .i64 h) ∧ w1.cell? ⟨w.heap.size, 4, none⟩ = some (.int .i64 n) ∧ w1.cell? ⟨w.heap.size, 5, none⟩ = some (.int .i64 s) ∧ w1.cell? ⟨w.heap.size, 6, none⟩ = some (.int .i64 z) :=
  ⟨boxed hb 0, boxed hb 1, boxed hb 2, boxed hb 3, boxed hb 4, boxed hb 5, boxed hb 6⟩

set_option maxRecDepth 100000 in
set_option maxHeartbeats 1000000 in
theorem momDays_any (y m d h n s z : Int) (w : World) (he : Env w) :
    Calls Tryz.prog 11 #[mom y m d h n s z] w fun e w' => e = .returned (.int .i64 (daysV y m d h n s z)) ∧ Below w.heap.size w w' := by
  have hV := Lib.hid (fun W he => momValid_any y m d h n s z W he)
  have q0 : ∀ cs t, Below w.heap.size w (w.alloc (.cells cs t)) := fun cs t => (Below.refl _ _).alloc (Nat.le_refl _) _
  have HE := Lib.hid (fun cs t => he.on (q0 cs t))
  clear he
  cases hv : validB y m d h n s z with
  | false =>
    rw [hv] at hV
    unfold mom at hV ⊢
    have HR : Hid (daysV y m d h n s z = 0) := Lib.hid (by unfold daysV; rw [hv]; rfl)
    go_enter Tryz.func11, Tryz.ntmps11
    go_wp2_with (go_at_call 9; refine (hV.out _ (HE.out _ _)).mono ?_; rintro e w1 ⟨rfl, hb1⟩)
    go_ret
    exact ⟨ret_int HR.out.symm, (q0 _ _).trans (hb1.mono (q0 _ _).size)⟩
  | true =>
    rw [hv] at hV
    have hN := Lib.hid (fun W hW => dayNumber_val y m d h n s z W hW (valid_day hv))
    unfold mom at hV hN ⊢
    have HR : Hid (daysV y m d h n s z = daysI y.toNat m.toNat d.toNat) := Lib.hid (by unfold daysV; rw [hv]; rfl)
    clear hv
    go_enter Tryz.func11, Tryz.ntmps11
    go_wp2_with fail
    refine (hV.out _ (HE.out _ _)).mono ?_
    rintro e w1 ⟨rfl, hb1⟩
    have he1 := Lib.hid ((HE.out _ _).on hb1)
    obtain ⟨x0, x1, x2, x3, x4, x5, x6⟩ := boxed7 hb1
    have HB := Lib.hid ((q0 _ _).trans (hb1.mono (q0 _ _).size))
    clear hb1 HE
    go_wp2_with (go_at_call 34; refine (hN.out _ he1.out).mono ?_; rintro e w2 ⟨rfl, hb2⟩)
    go_ret
    exact ⟨ret_int HR.out.symm, HB.out.trans (hb2.mono HB.out.size)⟩

set_option maxRecDepth 100000 in
set_option maxHeartbeats 1000000 in
theorem momWeekday_any (y m d h n s z : Int) (w : World) (he : Env w) :
    Calls Tryz.prog 10 #[mom y m d h n s z] w fun e w' => e = .returned (.int .i64 (wdayV y m d h n s z)) ∧ Below w.heap.size w w' := by
  have hV := Lib.hid (fun W he => momValid_any y m d h n s z W he)
  have q0 : ∀ cs t, Below w.heap.size w (w.alloc (.cells cs t)) := fun cs t => (Below.refl _ _).alloc (Nat.le_refl _) _
  have HE := Lib.hid (fun cs t => he.on (q0 cs t))
  clear he
  cases hv : validB y m d h n s z with
  | false =>
    rw [hv] at hV
    unfold mom at hV ⊢
    have HR : Hid (wdayV y m d h n s z = 0) := Lib.hid (by unfold wdayV; rw [hv]; rfl)
    go_enter Tryz.func10, Tryz.ntmps10
    go_wp2_with (go_at_call 9; refine (hV.out _ (HE.out _ _)).mono ?_; rintro e w1 ⟨rfl, hb1⟩)
    go_ret
    exact ⟨ret_int HR.out.symm, (q0 _ _).trans (hb1.mono (q0 _ _).size)⟩
  | true =>
    rw [hv] at hV
    have hN := Lib.hid (fun W hW => dayNumber_val y m d h n s z W hW (valid_day hv))
    unfold mom at hV hN ⊢
    have HR : Hid (wdayV y m d h n s z = wdayI (daysI y.toNat m.toNat d.toNat)) := Lib.hid (by unfold wdayV; rw [hv]; rfl)
    obtain ⟨b1, b2⟩ := days_bounds y m d h n s z hv
    generalize daysI y.toNat m.toNat d.toNat = N at *
    have hS := Lib.hid (fun W => split_any (N + 4) 7 W (by omega) (by omega) (by omega) (by omega))
    clear hv
    go_enter Tryz.func10, Tryz.ntmps10
    go_wp2_with fail
    refine (hV.out _ (HE.out _ _)).mono ?_
    rintro e w1 ⟨rfl, hb1⟩
    have he1 := Lib.hid ((HE.out _ _).on hb1)
    obtain ⟨x0, x1, x2, x3, x4, x5, x6⟩ := boxed7 hb1
    have HB := Lib.hid ((q0 _ _).trans (hb1.mono (q0 _ _).size))
    clear hb1 HE
    go_wp2_with (first | (go_at_call 34; refine (hN.out _ he1.out).mono ?_; rintro e w2 ⟨rfl, hb2⟩) | (go_at_call 33; refine (hS.out _).mono ?_; rintro e w3 ⟨rfl, rfl⟩))
    go_ret
    exact ⟨ret_int HR.out.symm, (HB.out.trans (hb2.mono HB.out.size)).drew⟩
end Go.Proofs.YtckdmbeokajdjaaGreatDoor
