/- The reference of chapter 2: zoned, zone, may, clock. -/
import Derived.Test.YtibhlmbcohpmlaaGreatDoorGg
import Derived.Test.YtibhlmbcohpmlaaGreatDoorCd
import Derived.Deep.RegionHeld3
namespace Go.Proofs.YtibhlmbcohpmlaaGreatDoor
open Go.RowKit

set_option maxHeartbeats 4000000 in
theorem zoned_any (s : ByteArray) (w : World) (hs : s.size = 5) :
    Calls Tryz.prog 64 #[.string s] w fun e w' => ∃ v, e = .returned (.tuple #[.int .i64 v, .bool (tzB (L s))]) ∧ w' = w ∧ (-100000 ≤ v ∧ v ≤ 100000) ∧ (tzB (L s) = true → v = tzV (L s)) := by
  have x1 : L (s.extract 1 3) = ((L s).drop 1).take 2 := by rw [extract_S, L_S]
  have x2 : L (s.extract 3 5) = (L s).drop 3 := by
    rw [extract_S, L_S, List.take_of_length_le (by rw [List.length_drop, L_length]; omega)]
  have z1 : (s.extract 1 3).size = 2 := by rw [ByteArray.size_extract]; omega
  have z2 : (s.extract 3 5).size = 2 := by rw [ByteArray.size_extract]; omega
  have hC1 := Lib.hid (fun W => count_any (s.extract 1 3) W (by omega) (by omega))
  have hC2 := Lib.hid (fun W => count_any (s.extract 3 5) W (by omega) (by omega))
  have n1 := num_count (L (s.extract 1 3)) 2 2 (by rw [L_length]; omega) (by rw [L_length]; omega) (by rw [L_length]; omega) (by rw [L_length]; omega)
  have n2 := num_count (L (s.extract 3 5)) 2 2 (by rw [L_length]; omega) (by rw [L_length]; omega) (by rw [L_length]; omega) (by rw [L_length]; omega)
  rw [n1.1, n1.2, x1] at hC1
  rw [n2.1, n2.2, x2] at hC2
  have hb1 := numI_bounds (((L s).drop 1).take 2) 2 2
  have hb2 := numI_bounds ((L s).drop 3) 2 2
  have e0 := get_bt s 0 (by omega)
  have t43 := neq_test (bt (L s) 0) 43 43 rfl
  have t45 := neq_test (bt (L s) 0) 45 45 rfl
  have q45 := byte_test (bt (L s) 0) 45 45 rfl
  have HB : Hid (tzB (L s) = (numB (((L s).drop 1).take 2) 2 2 && numB ((L s).drop 3) 2 2 && decide (numI (((L s).drop 1).take 2) 2 2 ≤ 23) && decide (numI ((L s).drop 3) 2 2 ≤ 59) && (bt (L s) 0 == 43 || bt (L s) 0 == 45))) := Lib.hid (by
    unfold tzB tzH tzM; rw [L_length, decide_eq_true hs, Bool.true_and])
  have HV : Hid (tzV (L s) = if bt (L s) 0 == 45 then -(60 * numI (((L s).drop 1).take 2) 2 2 + numI ((L s).drop 3) 2 2) else 60 * numI (((L s).drop 1).take 2) 2 2 + numI ((L s).drop 3) 2 2) := Lib.hid rfl
  have h34 : (bt (L s) 0 == 43) = true → (bt (L s) 0 == 45) = false := by
    intro h; rw [beq_iff_eq] at h; rw [h]; rfl
  generalize tzB (L s) = ok at *
  generalize tzV (L s) = V at *
  generalize (bt (L s) 0 == 43) = p at *
  generalize (bt (L s) 0 == 45) = q at *
  generalize numI (((L s).drop 1).take 2) 2 2 = h at *
  generalize numI ((L s).drop 3) 2 2 = m at *
  generalize numB (((L s).drop 1).take 2) 2 2 = hb at *
  generalize numB ((L s).drop 3) 2 2 = mb at *
  generalize bt (L s) 0 = B at *
  have hb1' : 0 ≤ h ∧ h < 100 := hb1
  have hb2' : 0 ≤ m ∧ m < 100 := hb2
  clear x1 x2 z1 z2 n1 n2 hb1 hb2
  obtain ⟨h0, h1⟩ := hb1'
  obtain ⟨m0, m1⟩ := hb2'
  cases p
  · cases q
    · clear h34
      simp only [Bool.not_false] at t43 t45
      go_enter Tryz.func64, Tryz.ntmps64
      go_wp2
      go_ret2
      exact ⟨0, by rw [HB.out]; simp, rfl, by omega, fun hh => by rw [HB.out] at hh; simp at hh⟩
    · clear h34
      simp only [Bool.not_false, Bool.not_true] at t43 t45
      simp only [if_true] at HV
      cases hb
      all_goals cases mb
      all_goals rcases (by omega : h ≤ 23 ∨ 23 < h) with g1 | g1
      all_goals rcases (by omega : m ≤ 59 ∨ 59 < m) with g2 | g2
      all_goals (
        go_enter Tryz.func64, Tryz.ntmps64
        go_wp2_with fail
        refine (hC1.out _).mono ?_
        rintro e w1 ⟨rfl, rfl⟩
        go_wp2_with fail
        refine (hC2.out _).mono ?_
        rintro e w1 ⟨rfl, rfl⟩
        go_wp2
        go_ret2
        first
          | (have hok : ok = false := (by rw [HB.out]; first | rfl | (rw [decide_eq_false (show ¬ h ≤ 23 by omega)]; rfl) | (rw [decide_eq_true g1, decide_eq_false (show ¬ m ≤ 59 by omega)]; rfl)); exact ⟨0, by rw [hok]; rfl, rfl, by omega, fun hh => by rw [hok] at hh; cases hh⟩)
          | exact ⟨-60 * h - m, by rw [HB.out, decide_eq_true g1, decide_eq_true g2]; rfl, rfl, by omega, fun _ => by rw [HV.out]; omega⟩)
  · have hq := h34 rfl
    subst hq
    clear h34
    simp only [Bool.not_false, Bool.not_true] at t43 t45
    simp only [Bool.false_eq_true, if_false] at HV
    cases hb
    all_goals cases mb
    all_goals rcases (by omega : h ≤ 23 ∨ 23 < h) with g1 | g1
    all_goals rcases (by omega : m ≤ 59 ∨ 59 < m) with g2 | g2
    all_goals (
      go_enter Tryz.func64, Tryz.ntmps64
      go_wp2_with fail
      refine (hC1.out _).mono ?_
      rintro e w1 ⟨rfl, rfl⟩
      go_wp2_with fail
      refine (hC2.out _).mono ?_
      rintro e w1 ⟨rfl, rfl⟩
      go_wp2
      go_ret2
      first
        | (have hok : ok = false := (by rw [HB.out]; first | rfl | (rw [decide_eq_false (show ¬ h ≤ 23 by omega)]; rfl) | (rw [decide_eq_true g1, decide_eq_false (show ¬ m ≤ 59 by omega)]; rfl)); exact ⟨0, by rw [hok]; rfl, rfl, by omega, fun hh => by rw [hok] at hh; cases hh⟩)
        | exact ⟨60 * h + m, by rw [HB.out, decide_eq_true g1, decide_eq_true g2]; rfl, rfl, by omega, fun _ => HV.out.symm⟩)
end Go.Proofs.YtibhlmbcohpmlaaGreatDoor
