/- The statement MomentTomorrow: what the walk asks for. -/
import Derived.Test.YtmhkfdnaldeijaaDoorTd
namespace Go.Proofs.YtmhkfdnaldeijaaDoor
open Go.RowKit

theorem daysV_mk (Y M D : Nat) (h n s z : Int) (hd : IsDay Y M D) (ht : IsTime h n s z) : daysV Y M D h n s z = daysI Y M D := by
  unfold daysV
  rw [valid_mk Y M D h n s z hd ht]
  rfl
theorem wdayV_mk (Y M D : Nat) (h n s z : Int) (hd : IsDay Y M D) (ht : IsTime h n s z) : wdayV Y M D h n s z = wdayI (daysI Y M D) := by
  unfold wdayV
  rw [valid_mk Y M D h n s z hd ht]
  rfl
theorem tomG (w : World) (g : Nat) (y m d h n s z a b c : Int) (hv : validB a b c h n s z = true) : TomG w g y m d h n s z a b c (daysV y m d h n s z) (wdayV y m d h n s z) (stampV y m d h n s z) (daysV a b c h n s z) (wdayV a b c h n s z) (stampV a b c h n s z) := by
  refine ⟨fun X hX => ?_, fun X hX => ?_, fun X hX => ?_, fun X hX => ?_, fun X hX => ?_, fun X hX => ?_⟩
  · have := momValid_any a b c h n s z X hX.env.1
    rw [hv] at this
    exact this.mono fun e w' ⟨k1, k2⟩ => ⟨k1, hX.on k2⟩
  · exact (momDays_any a b c h n s z X hX.env.1).mono fun e w' ⟨k1, k2⟩ => ⟨k1, hX.on k2⟩
  · exact (momDays_any y m d h n s z X hX.env.1).mono fun e w' ⟨k1, k2⟩ => ⟨k1, hX.on k2⟩
  · exact (momWeekday_any a b c h n s z X hX.env.1).mono fun e w' ⟨k1, k2⟩ => ⟨k1, hX.on k2⟩
  · exact (momStamp_any a b c h n s z X hX.env.1).mono fun e w' ⟨k1, k2⟩ => ⟨k1, hX.on k2⟩
  · exact (momStamp_any y m d h n s z X hX.env.1).mono fun e w' ⟨k1, k2⟩ => ⟨k1, hX.on k2⟩
theorem tomH (w : World) (g : Nat) (y m d h n s z fy : Int) (hk : wdayV fy m d h n s z = wdayV y m d h n s z) : TomH w g y m d h n s z fy (daysV y m d h n s z) (daysV fy m d h n s z) (wdayV y m d h n s z) := by
  refine ⟨fun X hX => ?_, fun X hX => ?_, fun X hX => ?_⟩
  · exact (momDays_any fy m d h n s z X hX.env.1).mono fun e w' ⟨k1, k2⟩ => ⟨k1, hX.on k2⟩
  · exact (momDays_any y m d h n s z X hX.env.1).mono fun e w' ⟨k1, k2⟩ => ⟨k1, hX.on k2⟩
  · have := momWeekday_any fy m d h n s z X hX.env.1
    rw [hk] at this
    exact this.mono fun e w' ⟨k1, k2⟩ => ⟨k1, hX.on k2⟩
theorem tomV (w : World) (g k : Nat) (y m d h n s z a b c d1 : Int) : TomV w g k y m d h n s z a b c d1 (validB y m d1 h n s z) :=
  ⟨fun X hX => (momValid_any y m d1 h n s z X hX.env).mono fun _ _ ⟨k1, k2⟩ => ⟨k1, hX.on k2⟩⟩
theorem valid_next_day (Y M D : Nat) (h n s z : Int) (hd : IsDay Y M D) (ht : IsTime h n s z) : validB Y M ((D : Int) + 1) h n s z = decide (D < mlen Y M) := by
  by_cases hD : D < mlen Y M
  · rw [decide_eq_true hD]
    have := valid_mk Y M (D + 1) h n s z ⟨hd.y1, hd.y2, hd.m1, hd.m2, by omega, by omega⟩ ht
    exact this
  · rw [decide_eq_false hD]
    cases hv : validB Y M ((D : Int) + 1) h n s z with
    | false => rfl
    | true =>
      obtain ⟨Y', M', D', e1, e2, e3, hd', _⟩ := valid_parts _ _ _ _ _ _ _ hv
      obtain rfl : Y = Y' := by omega
      obtain rfl : M = M' := by omega
      have := hd'.d2
      omega
theorem w64 (k : Int) (h1 : -9223372036854775808 ≤ k) (h2 : k ≤ 9223372036854775807) : wrap64 k = k := by unfold wrap64; omega
set_option maxHeartbeats 1000000 in
theorem tom_far (w : World) (Y M D : Nat) (h n s z : Int) (hd : IsDay Y M D) (ht : IsTime h n s z) : (decide (9999 < (Y : Int) + 400) = false ∧ (daysV ((Y : Int) + 400) M D h n s z == daysV Y M D h n s z + 146097) = true ∧ ∀ g, TomH w g Y M D h n s z ((Y : Int) + 400) (daysV Y M D h n s z) (daysV ((Y : Int) + 400) M D h n s z) (wdayV Y M D h n s z)) ∨
    (decide (9999 < (Y : Int) + 400) = true ∧ (daysV ((Y : Int) - 400) M D h n s z + 146097 == daysV Y M D h n s z) = true ∧ -10000000 ≤ daysV ((Y : Int) - 400) M D h n s z ∧ daysV ((Y : Int) - 400) M D h n s z ≤ 10000000 ∧ ∀ g, TomH w g Y M D h n s z ((Y : Int) - 400) (daysV Y M D h n s z) (daysV ((Y : Int) - 400) M D h n s z) (wdayV Y M D h n s z)) := by
  have hy1 := hd.y1
  have hy2 := hd.y2
  have hd1 := hd.d1
  have hd2 := hd.d2
  have hD := daysV_mk Y M D h n s z hd ht
  have hW := wdayV_mk Y M D h n s z hd ht
  have hb := days_bounds Y M D h n s z (valid_mk Y M D h n s z hd ht)
  simp only [Int.toNat_natCast] at hb
  by_cases hc : Y + 400 ≤ 9999
  · left
    obtain ⟨i1, i2⟩ := isDay_400 Y M D hd hc
    have k1 : daysV ((Y : Int) + 400) M D h n s z = daysI (Y + 400) M D := daysV_mk (Y + 400) M D h n s z i1 ht
    have k2 : wdayV ((Y : Int) + 400) M D h n s z = wdayI (daysI (Y + 400) M D) := wdayV_mk (Y + 400) M D h n s z i1 ht
    have k3 : daysI (Y + 400) M D = daysI Y M D + 146097 := by unfold daysI; omega
    refine ⟨by rw [decide_eq_false_iff_not]; omega, by rw [beq_iff_eq, k1, k3, hD], fun g => tomH w g _ _ _ _ _ _ _ _ ?_⟩
    rw [k2, k3, wday_400, hW]
  · right
    have hi : IsDay (Y - 400) M D := ⟨by omega, by omega, hd.m1, hd.m2, hd1, by rw [← mlen_400, show Y - 400 + 400 = Y by omega]; exact hd2⟩
    obtain ⟨i1, i2⟩ := isDay_400 (Y - 400) M D hi (by omega)
    rw [show Y - 400 + 400 = Y by omega] at i2
    have hc2 : ((Y - 400 : Nat) : Int) = (Y : Int) - 400 := by omega
    have k1 : daysV ((Y : Int) - 400) M D h n s z = daysI (Y - 400) M D := by rw [← hc2]; exact daysV_mk (Y - 400) M D h n s z hi ht
    have k2 : wdayV ((Y : Int) - 400) M D h n s z = wdayI (daysI (Y - 400) M D) := by rw [← hc2]; exact wdayV_mk (Y - 400) M D h n s z hi ht
    have k3 : daysI Y M D = daysI (Y - 400) M D + 146097 := by unfold daysI; omega
    refine ⟨by rw [decide_eq_true_iff]; omega, by rw [beq_iff_eq, k1, hD, k3], by rw [k1]; omega, by rw [k1]; omega, fun g => tomH w g _ _ _ _ _ _ _ _ ?_⟩
    rw [k2, hW, k3, wday_400]
theorem tom_next (Y M D : Nat) (h n s z : Int) (hd : IsDay Y M D) (ht : IsTime h n s z) : (validB Y M ((D : Int) + 1) h n s z = true ∧ (Y : Int) = ((nextD Y M D).1 : Int) ∧ (M : Int) = ((nextD Y M D).2.1 : Int) ∧ (D : Int) + 1 = ((nextD Y M D).2.2 : Int)) ∨ (validB Y M ((D : Int) + 1) h n s z = false ∧ ((D : Int) + 1 == ((nextD Y M D).2.2 : Int)) = false ∧ (((nextD Y M D).2.2 : Int) == (D : Int) + 1) = false) := by
  have hd1 := hd.d1
  rw [valid_next_day Y M D h n s z hd ht]
  by_cases hc : D < mlen Y M
  · left
    rw [next_in Y M D hc]
    exact ⟨decide_eq_true hc, rfl, rfl, rfl⟩
  · right
    have : (nextD Y M D).2.2 = 1 := by unfold nextD; rw [if_neg hc]; split <;> rfl
    rw [this]
    exact ⟨decide_eq_false hc, by rw [beq_eq_false_iff_ne]; omega, by rw [beq_eq_false_iff_ne]; omega⟩
set_option maxRecDepth 100000 in
set_option maxHeartbeats 2000000 in
theorem MomentTomorrow_walk (y m d h n s z : Int) (w : World) (he : Env w) :
    Calls Tryd.prog 3 #[mom y m d h n s z] w fun e w' => e = .returned (.bool true) ∧ Below w.heap.size w w' := by
  cases hv : validB y m d h n s z with
  | false => exact MomentTomorrow_no y m d h n s z w he hv
  | true =>
    obtain ⟨Y, M, D, rfl, rfl, rfl, hd, ht⟩ := valid_parts y m d h n s z hv
    have hy1 := hd.y1
    have hy2 := hd.y2
    have hd1 := hd.d1
    have hd2 := hd.d2
    have hml := mlen_bounds Y M
    have hfy : wrap64 ((Y : Int) + 400) = (Y : Int) + 400 := w64 _ (by omega) (by omega)
    have hfz : wrap64 ((Y : Int) - 400) = (Y : Int) - 400 := w64 _ (by omega) (by omega)
    have hdd : wrap64 ((D : Int) + 1) = (D : Int) + 1 := w64 _ (by omega) (by omega)
    have hD := daysV_mk Y M D h n s z hd ht
    have hW := wdayV_mk Y M D h n s z hd ht
    have hS := stampV_mk Y M D h n s z hd ht
    have hb := days_bounds Y M D h n s z hv
    simp only [Int.toNat_natCast] at hb
    have hsb := stampV_bounds Y M D h n s z
    have hno := next_dno Y M D hd
    have hU := tom_far w Y M D h n s z hd ht
    have hcm := tom_next Y M D h n s z hd ht
    by_cases h9 : (nextD Y M D).1 ≤ 9999
    · have hi := next_isDay Y M D hd h9
      have k1 := daysV_mk _ _ _ h n s z hi ht
      have k2 := wdayV_mk _ _ _ h n s z hi ht
      have k3 := stampV_mk _ _ _ h n s z hi ht
      have k4 : daysI (nextD Y M D).1 (nextD Y M D).2.1 (nextD Y M D).2.2 = daysI Y M D + 1 := by unfold daysI; omega
      have hN : TomN w Y M D h n s z (nextD Y M D).1 (nextD Y M D).2.1 (nextD Y M D).2.2 true := ⟨fun X => by
        have := behind_any Y M D h n s z X hd
        unfold behV at this
        rw [decide_eq_true (by omega : ((nextD Y M D).1 : Int) ≤ 9999)] at this
        exact this⟩
      refine MomentTomorrow_1 Y M D h n s z _ _ _ _ _ _ _ _ _ w he (fun g => tomG w g Y M D h n s z _ _ _ (valid_mk _ _ _ h n s z hi ht)) ?_ ?_ ?_ _ _ _ _ hfy hfz hU _ _ hdd hcm (fun g k => tomV w g k _ _ _ _ _ _ _ _ _ _ _) ?_ ?_ ?_ ?_ ?_ ?_ hv hN rfl
      · rw [bne_eq_false_iff_eq, k1, k4, hD]
      · rw [bne_eq_false_iff_eq, k2, k4, wday_next, hW, Int.tmod_eq_emod_of_nonneg (by unfold wdayI; omega)]
      · rw [bne_eq_false_iff_eq, k3, hS]
        unfold stampI
        rw [k4]
        omega
      · rw [hD]; omega
      · rw [hD]; omega
      · rw [hW]; unfold wdayI; omega
      · rw [hW]; unfold wdayI; omega
      · omega
      · omega
    · have hN : TomN w Y M D h n s z (nextD Y M D).1 (nextD Y M D).2.1 (nextD Y M D).2.2 false := ⟨fun X => by
        have := behind_any Y M D h n s z X hd
        unfold behV at this
        rw [decide_eq_false (by omega : ¬ ((nextD Y M D).1 : Int) ≤ 9999)] at this
        exact this⟩
      exact MomentTomorrow_2 Y M D h n s z _ _ _ _ _ w he _ _ _ _ hfy hfz hU _ _ hdd hcm (fun g k => tomV w g k _ _ _ _ _ _ _ _ _ _ _) (by rw [hD]; omega) (by rw [hD]; omega) hv hN rfl
end Go.Proofs.YtmhkfdnaldeijaaDoor
