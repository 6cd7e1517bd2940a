/- moment: dayAt, At. -/
import Derived.Test.YtckdmbeokajdjaaGreatDoorDd
namespace Go.Proofs.YtckdmbeokajdjaaGreatDoor
open Go.RowKit

theorem year_uniq (a b n : Nat) (ha : 1 ≤ a) (hb : 1 ≤ b) (h1 : dby a ≤ n) (h2 : n < dby (a + 1)) (h3 : dby b ≤ n) (h4 : n < dby (b + 1)) : a = b := by
  rcases Nat.lt_trichotomy a b with k | k | k
  · have := dby_mono (a + 1) b (by omega) k; omega
  · exact k
  · have := dby_mono (b + 1) a (by omega) k; omega
theorem year_parts (c h f o : Nat) (hh : h ≤ 3) (hf : f ≤ 24) (ho : o ≤ 3) : dby (1 + 400 * c + 100 * h + 4 * f + o) = 146097 * c + 36524 * h + 1461 * f + 365 * o := by
  have e : 1 + 400 * c + 100 * h + 4 * f + o - 1 = 400 * c + 100 * h + 4 * f + o := by omega
  unfold dby
  rw [e]
  have h4 : (400 * c + 100 * h + 4 * f + o) / 4 = 100 * c + 25 * h + f := by omega
  have h100 : (400 * c + 100 * h + 4 * f + o) / 100 = 4 * c + h := by omega
  have h400 : (400 * c + 100 * h + 4 * f + o) / 400 = c := by omega
  rw [h4, h100, h400]
  omega
/-- The year out of a day's number, by the cycles of the calendar. -/
theorem year_by (N Y M D : Nat) (hd : IsDay Y M D) (hN : dno Y M D = N) (c r1 h r2 f r3 o r4 : Int) (hc : c = (N : Int) / 146097) (h1 : r1 = (N : Int) % 146097)
    (hh : h = if 3 < r1 / 36524 then 3 else r1 / 36524) (h2 : r2 = r1 - h * 36524) (hf : f = r2 / 1461) (h3 : r3 = r2 % 1461)
    (ho : o = if 3 < r3 / 365 then 3 else r3 / 365) (h4 : r4 = r3 - o * 365) : 1 + 400 * c + 100 * h + 4 * f + o = (Y : Int) ∧ (N : Int) - (dby Y : Int) = r4 := by
  have a1 : 0 ≤ r1 ∧ r1 < 146097 := by omega
  have a2 : 0 ≤ h ∧ h ≤ 3 ∧ 0 ≤ r2 ∧ r2 ≤ 36524 ∧ (h < 3 → r2 < 36524) := by
    rw [hh] at h2 ⊢
    split at h2 <;> rename_i k <;> simp only [k, if_true, if_false] <;> omega
  have a3 : 0 ≤ f ∧ f ≤ 24 ∧ 0 ≤ r3 ∧ r3 < 1461 := by omega
  have a4 : 0 ≤ o ∧ o ≤ 3 ∧ 0 ≤ r4 ∧ r4 ≤ 365 ∧ (o < 3 → r4 < 365) := by
    rw [ho] at h4 ⊢
    split at h4 <;> rename_i k <;> simp only [k, if_true, if_false] <;> omega
  clear hh ho
  obtain ⟨C, rfl⟩ := Int.eq_ofNat_of_zero_le (show 0 ≤ c by omega)
  obtain ⟨H, rfl⟩ := Int.eq_ofNat_of_zero_le (show 0 ≤ h by omega)
  obtain ⟨F, rfl⟩ := Int.eq_ofNat_of_zero_le (show 0 ≤ f by omega)
  obtain ⟨O, rfl⟩ := Int.eq_ofNat_of_zero_le (show 0 ≤ o by omega)
  have hy := year_parts C H F O (by omega) (by omega) (by omega)
  have hNr : (N : Int) = (dby (1 + 400 * C + 100 * H + 4 * F + O) : Int) + r4 := by rw [hy]; omega
  have hs := dby_succ (1 + 400 * C + 100 * H + 4 * F + O) (by omega)
  have hl : r4 < (ylen (1 + 400 * C + 100 * H + 4 * F + O) : Int) := by
    have hb := ylen_le (1 + 400 * C + 100 * H + 4 * F + O)
    rcases Int.lt_or_le r4 365 with k | k
    · omega
    · have hO : O = 3 := by omega
      have h1460 : r3 = 1460 := by omega
      have hleap : leapY (1 + 400 * C + 100 * H + 4 * F + O) = true := by
        rw [leapY_iff]
        refine ⟨by omega, ?_⟩
        rcases Nat.lt_or_ge F 24 with kf | kf
        · left; omega
        · right
          have hF : F = 24 := by omega
          have hr2 : r2 = 36524 := by omega
          have hH : H = 3 := by omega
          omega
      unfold ylen
      rw [hleap]
      simp
      omega
  have hyr := dno_year Y M D hd
  rw [hN] at hyr
  have hY : Y = 1 + 400 * C + 100 * H + 4 * F + O := year_uniq Y _ N hd.y1 (by omega) hyr.1 hyr.2 (by omega) (by omega)
  subst hY
  exact ⟨by omega, by omega⟩

end Go.Proofs.YtckdmbeokajdjaaGreatDoor
