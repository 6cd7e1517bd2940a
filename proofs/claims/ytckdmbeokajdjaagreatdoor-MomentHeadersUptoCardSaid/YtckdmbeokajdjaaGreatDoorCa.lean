/- Plain mathematics: the calendar. Nothing of the program. -/
import Derived.Lib.Hide
namespace Go.Proofs.YtckdmbeokajdjaaGreatDoor

def leapY (y : Nat) : Bool := y % 4 == 0 && (y % 100 != 0 || y % 400 == 0)
theorem leapY_iff (y : Nat) : leapY y = true ↔ (y % 4 = 0 ∧ (y % 100 ≠ 0 ∨ y % 400 = 0)) := by
  unfold leapY; simp
theorem leapY_not (y : Nat) : leapY y = false ↔ ¬ (y % 4 = 0 ∧ (y % 100 ≠ 0 ∨ y % 400 = 0)) := by
  rw [← leapY_iff]; simp
def ylen (y : Nat) : Nat := if leapY y then 366 else 365
def mlen (y m : Nat) : Nat := if m = 4 ∨ m = 6 ∨ m = 9 ∨ m = 11 then 30 else if m = 2 then (if leapY y then 29 else 28) else 31
/-- Days from the first of the year 1 to the first of a year. -/
def dby (y : Nat) : Nat := 365 * (y - 1) + (y - 1) / 4 - (y - 1) / 100 + (y - 1) / 400
/-- Days from the first of a year to the first of a month. -/
def dbm (y : Nat) : Nat → Nat
  | 0 => 0
  | m + 1 => dbm y m + (if m = 0 then 0 else mlen y m)
def dno (y m d : Nat) : Nat := dby y + dbm y m + (d - 1)
theorem div_up (q k : Nat) (hk : 0 < k) : (q + 1) / k = q / k + (if (q + 1) % k = 0 then 1 else 0) := by
  have h1 := Nat.div_add_mod q k
  have h2 := Nat.mod_lt q hk
  split
  · rename_i h
    have h3 := Nat.div_add_mod (q + 1) k
    rw [h] at h3
    have h4 : k * ((q + 1) / k) = k * (q / k) + (q % k + 1) := by omega
    have h5 : q % k + 1 = k := by
      have h6 : k ∣ q % k + 1 := by
        have : k ∣ k * (q / k) + (q % k + 1) := by rw [← h4]; exact Nat.dvd_mul_right _ _
        exact (Nat.dvd_add_right (Nat.dvd_mul_right _ _)).1 this
      have := Nat.le_of_dvd (by omega) h6
      omega
    rw [h5, ← Nat.mul_succ] at h4
    exact Nat.eq_of_mul_eq_mul_left hk h4
  · rename_i h
    have h3 : q % k + 1 < k := by
      rcases Nat.lt_or_ge (q % k + 1) k with h3 | h3
      · exact h3
      · exfalso
        apply h
        have h4 : q % k + 1 = k := by omega
        have h5 : q + 1 = k * (q / k + 1) := by rw [Nat.mul_succ]; omega
        rw [h5, Nat.mul_mod_right]
    have h4 : q + 1 = k * (q / k) + (q % k + 1) := by omega
    rw [h4, Nat.mul_add_div hk, Nat.div_eq_of_lt h3]
theorem dby_succ (y : Nat) (h : 1 ≤ y) : dby (y + 1) = dby y + ylen y := by
  obtain ⟨q, rfl⟩ : ∃ q, y = q + 1 := ⟨y - 1, by omega⟩
  unfold dby ylen
  have a1 := div_up q 4 (by omega)
  have a2 := div_up q 100 (by omega)
  have a3 := div_up q 400 (by omega)
  have b1 : q / 100 ≤ q / 4 := by omega
  have hl := leapY_iff (q + 1)
  have d1 : (q + 1) % 100 = 0 → (q + 1) % 4 = 0 := by omega
  have d2 : (q + 1) % 400 = 0 → (q + 1) % 100 = 0 := by omega
  rw [Nat.add_sub_cancel, Nat.add_sub_cancel, a1, a2, a3]
  clear a1 a2 a3
  generalize q / 4 = x4 at *
  generalize q / 100 = x100 at *
  generalize q / 400 = x400 at *
  by_cases h4 : (q + 1) % 4 = 0
  · by_cases h100 : (q + 1) % 100 = 0
    · by_cases h400 : (q + 1) % 400 = 0
      · rw [if_pos h4, if_pos h100, if_pos h400, if_pos (hl.2 ⟨h4, .inr h400⟩)]; omega
      · rw [if_pos h4, if_pos h100, if_neg h400, if_neg (fun k => (hl.1 k).2.elim (fun z => z h100) h400)]; omega
    · rw [if_pos h4, if_neg h100, if_neg (fun k => h100 (d2 k)), if_pos (hl.2 ⟨h4, .inl h100⟩)]; omega
  · rw [if_neg h4, if_neg (fun k => h4 (d1 k)), if_neg (fun k => h4 (d1 (d2 k))), if_neg (fun k => h4 (hl.1 k).1)]; omega
theorem dby_one : dby 1 = 0 := rfl
theorem dby_1970 : dby 1970 = 719162 := by decide
theorem dby_10000 : dby 10000 = 3652059 := by decide
theorem ylen_le (y : Nat) : 365 ≤ ylen y ∧ ylen y ≤ 366 := by unfold ylen; split <;> omega
theorem dby_le (a : Nat) (h : 1 ≤ a) : ∀ n, dby a + 365 * n ≤ dby (a + n) := by
  intro n
  induction n with
  | zero => simp
  | succ n ih =>
    have := dby_succ (a + n) (by omega)
    have := ylen_le (a + n)
    have e : a + (n + 1) = a + n + 1 := rfl
    rw [e]
    omega
theorem dby_mono (a b : Nat) (ha : 1 ≤ a) (h : a ≤ b) : dby a ≤ dby b := by
  have := dby_le a ha (b - a)
  have e : a + (b - a) = b := by omega
  rw [e] at this
  omega
theorem dby_lt (a b : Nat) (ha : 1 ≤ a) (h : a < b) : dby a + 365 ≤ dby b := by
  have := dby_le a ha (b - a)
  have e : a + (b - a) = b := by omega
  rw [e] at this
  omega
theorem dby_400 (y : Nat) (h : 1 ≤ y) : dby (y + 400) = dby y + 146097 := by unfold dby; omega
theorem leap_400 (y : Nat) : leapY (y + 400) = leapY y := by
  rw [Bool.eq_iff_iff, leapY_iff, leapY_iff]; omega
theorem mlen_400 (y m : Nat) : mlen (y + 400) m = mlen y m := by unfold mlen; rw [leap_400]
theorem dbm_400 (y : Nat) : ∀ m, dbm (y + 400) m = dbm y m := by
  intro m
  induction m with
  | zero => rfl
  | succ m ih => rw [dbm, dbm, ih, mlen_400]
theorem mlen_bounds (y m : Nat) : 28 ≤ mlen y m ∧ mlen y m ≤ 31 := by unfold mlen; repeat' split
                                                                      all_goals omega
theorem dbm_one (y : Nat) : dbm y 1 = 0 := rfl
theorem dbm_succ (y m : Nat) (h : 1 ≤ m) : dbm y (m + 1) = dbm y m + mlen y m := by
  rw [dbm, if_neg (by omega)]
theorem dbm_13 (y : Nat) : dbm y 13 = ylen y := by
  unfold ylen
  simp only [dbm, mlen]
  cases leapY y <;> simp
theorem dbm_le (y a : Nat) (h : 1 ≤ a) : ∀ n, dbm y a + 28 * n ≤ dbm y (a + n) := by
  intro n
  induction n with
  | zero => simp
  | succ n ih =>
    have := dbm_succ y (a + n) (by omega)
    have := mlen_bounds y (a + n)
    have e : a + (n + 1) = a + n + 1 := rfl
    rw [e]
    omega
theorem dbm_mono (y a b : Nat) (ha : 1 ≤ a) (h : a ≤ b) : dbm y a ≤ dbm y b := by
  have := dbm_le y a ha (b - a)
  have e : a + (b - a) = b := by omega
  rw [e] at this
  omega
structure IsDay (y m d : Nat) : Prop where
  y1 : 1 ≤ y
  y2 : y ≤ 9999
  m1 : 1 ≤ m
  m2 : m ≤ 12
  d1 : 1 ≤ d
  d2 : d ≤ mlen y m
/-- A day lies within its month, a month within its year. -/
theorem dno_month (y m d : Nat) (h : IsDay y m d) : dby y + dbm y m ≤ dno y m d ∧ dno y m d < dby y + dbm y (m + 1) := by
  have := dbm_succ y m h.m1
  have h1 := h.d1
  have h2 := h.d2
  unfold dno
  omega
theorem dno_year (y m d : Nat) (h : IsDay y m d) : dby y ≤ dno y m d ∧ dno y m d < dby (y + 1) := by
  have h1 := dno_month y m d h
  have h2 := dbm_mono y (m + 1) 13 (by omega) (by have := h.m2; omega)
  have h3 := dby_succ y h.y1
  rw [dbm_13] at h2
  omega
theorem dno_lt (y m d : Nat) (h : IsDay y m d) : dno y m d < 3652059 := by
  have h1 := dno_year y m d h
  have h2 := dby_mono (y + 1) 10000 (by omega) (by have := h.y2; omega)
  rw [dby_10000] at h2
  omega
theorem dno_inj (y m d y' m' d' : Nat) (h : IsDay y m d) (h' : IsDay y' m' d') (e : dno y m d = dno y' m' d') : y = y' ∧ m = m' ∧ d = d' := by
  have a := dno_year y m d h
  have a' := dno_year y' m' d' h'
  have hy : y = y' := by
    rcases Nat.lt_trichotomy y y' with k | k | k
    · have := dby_mono (y + 1) y' (by omega) k; omega
    · exact k
    · have := dby_mono (y' + 1) y (by omega) k; omega
  subst hy
  have b := dno_month y m d h
  have b' := dno_month y m' d' h'
  have hm : m = m' := by
    rcases Nat.lt_trichotomy m m' with k | k | k
    · have := dbm_mono y (m + 1) m' (by omega) k; omega
    · exact k
    · have := dbm_mono y (m' + 1) m (by omega) k; omega
  subst hm
  refine ⟨rfl, rfl, ?_⟩
  have h1 := h.d1
  have h2 := h'.d1
  unfold dno at e
  omega
theorem year_of (n : Nat) : ∃ y, 1 ≤ y ∧ dby y ≤ n ∧ n < dby (y + 1) := by
  have gen : ∀ k, n < dby (k + 1) → ∃ y, 1 ≤ y ∧ dby y ≤ n ∧ n < dby (y + 1) := by
    intro k
    induction k with
    | zero => intro h; rw [dby_one] at h; omega
    | succ k ih =>
      intro h
      rcases Nat.lt_or_ge n (dby (k + 1)) with h1 | h1
      · exact ih h1
      · exact ⟨k + 1, by omega, h1, h⟩
  have h := dby_le 1 (by omega) (n + 1)
  exact gen (n + 1) (by rw [dby_one] at h; have e : 1 + (n + 1) = n + 1 + 1 := by omega
                        rw [e] at h; omega)
theorem month_of (y n : Nat) (h : n < ylen y) : ∃ m, 1 ≤ m ∧ m ≤ 12 ∧ dbm y m ≤ n ∧ n < dbm y (m + 1) := by
  have gen : ∀ k, k ≤ 12 → n < dbm y (k + 1) → ∃ m, 1 ≤ m ∧ m ≤ 12 ∧ dbm y m ≤ n ∧ n < dbm y (m + 1) := by
    intro k
    induction k with
    | zero => intro _ h; rw [dbm_one] at h; omega
    | succ k ih =>
      intro hk h
      rcases Nat.lt_or_ge n (dbm y (k + 1)) with h1 | h1
      · exact ih (by omega) h1
      · exact ⟨k + 1, by omega, hk, h1, h⟩
  exact gen 12 (by omega) (by rw [dbm_13]; exact h)
theorem day_of (n : Nat) (h : n < 3652059) : ∃ y m d, IsDay y m d ∧ dno y m d = n := by
  obtain ⟨y, h1, h2, h3⟩ := year_of n
  have hy : y ≤ 9999 := by
    rcases Nat.lt_or_ge 9999 y with k | k
    · have := dby_mono 10000 y (by omega) k
      rw [dby_10000] at this
      omega
    · exact k
  have h4 := dby_succ y h1
  obtain ⟨m, m1, m2, m3, m4⟩ := month_of y (n - dby y) (by omega)
  have h5 := dbm_succ y m m1
  refine ⟨y, m, n - dby y - dbm y m + 1, ⟨h1, hy, m1, m2, by omega, by omega⟩, ?_⟩
  unfold dno
  omega
/-- The day behind a day. -/
def nextD (y m d : Nat) : Nat × Nat × Nat := if d < mlen y m then (y, m, d + 1) else if m < 12 then (y, m + 1, 1) else (y + 1, 1, 1)
theorem next_dno (y m d : Nat) (h : IsDay y m d) : dno (nextD y m d).1 (nextD y m d).2.1 (nextD y m d).2.2 = dno y m d + 1 := by
  have h1 := h.d1
  have h2 := h.d2
  unfold nextD
  split
  · simp only [dno]; omega
  · split
    · simp only [dno]
      have := dbm_succ y m h.m1
      omega
    · rename_i k1 k2
      have hm : m = 12 := by have := h.m2; omega
      subst hm
      have a := dby_succ y h.y1
      have b := dbm_13 y
      rw [dbm_succ y 12 (by omega)] at b
      simp only [dno, dbm_one]
      omega
theorem next_isDay (y m d : Nat) (h : IsDay y m d) (hy : (nextD y m d).1 ≤ 9999) : IsDay (nextD y m d).1 (nextD y m d).2.1 (nextD y m d).2.2 := by
  have h1 := h.d1
  revert hy
  unfold nextD
  split
  · intro _; exact ⟨h.y1, h.y2, h.m1, h.m2, by simp only; omega, by simp only; omega⟩
  · split
    · intro _
      have := mlen_bounds y (m + 1)
      exact ⟨h.y1, h.y2, by simp only; omega, by simp only; omega, by simp only; omega, by simp only; omega⟩
    · intro hy
      have := mlen_bounds (y + 1) 1
      exact ⟨by simp only; omega, hy, by simp only; omega, by simp only; omega, by simp only; omega, by simp only; omega⟩
theorem isDay_400 (y m d : Nat) (h : IsDay y m d) (hy : y + 400 ≤ 9999) : IsDay (y + 400) m d ∧ dno (y + 400) m d = dno y m d + 146097 := by
  refine ⟨⟨by have := h.y1; omega, hy, h.m1, h.m2, h.d1, by rw [mlen_400]; exact h.d2⟩, ?_⟩
  unfold dno
  rw [dby_400 y h.y1, dbm_400]
  omega
/-- Days behind 1 January 1970, and the day of the week. -/
def daysI (y m d : Nat) : Int := (dno y m d : Int) - 719162
def wdayI (n : Int) : Int := (n + 4) % 7
theorem wday_next (n : Int) : wdayI (n + 1) = (wdayI n + 1) % 7 := by unfold wdayI; omega
theorem wday_400 (n : Int) : wdayI (n + 146097) = wdayI n := by unfold wdayI; omega
theorem daysI_1970 : daysI 1970 1 1 = 0 := by decide
theorem daysI_known : daysI 2026 2 1 = 20485 ∧ wdayI (daysI 2026 2 1) = 0 := by decide
/-- Stamps. -/
def stampI (y m d : Nat) (hh mm s z : Int) : Int := 86400 * daysI y m d + 3600 * hh + 60 * mm + s - 60 * z
structure IsTime (hh mm s z : Int) : Prop where
  h1 : 0 ≤ hh
  h2 : hh ≤ 23
  m1 : 0 ≤ mm
  m2 : mm ≤ 59
  s1 : 0 ≤ s
  s2 : s ≤ 59
  z1 : -1439 ≤ z
  z2 : z ≤ 1439
theorem stamp_day (y m d : Nat) (hh mm s z : Int) (ht : IsTime hh mm s z) : (stampI y m d hh mm s z + 60 * z) / 86400 = daysI y m d ∧ (stampI y m d hh mm s z + 60 * z) % 86400 = 3600 * hh + 60 * mm + s := by
  obtain ⟨a, b, c, e, f, g, _, _⟩ := ht
  unfold stampI
  omega
theorem time_of (n hh mm s : Int) (h3 : 0 ≤ mm) (h4 : mm ≤ 59) (h5 : 0 ≤ s) (h6 : s ≤ 59) (e : n = 3600 * hh + 60 * mm + s) : hh = n / 3600 ∧ mm = n / 60 % 60 ∧ s = n % 60 := by omega
theorem stamp_range (y m d : Nat) (hh mm s z : Int) (hd : IsDay y m d) (ht : IsTime hh mm s z) : -62135596800 ≤ stampI y m d hh mm s z + 60 * z ∧ stampI y m d hh mm s z + 60 * z ≤ 253402300799 := by
  have h1 := dno_lt y m d hd
  obtain ⟨a, b, c, e, f, g, _, _⟩ := ht
  unfold stampI daysI
  omega
/-- At and Stamp are each the other's way back. -/
theorem stamp_of (st z : Int) (hz1 : -1439 ≤ z) (hz2 : z ≤ 1439) (h1 : -62135596800 ≤ st + 60 * z) (h2 : st + 60 * z ≤ 253402300799) :
    ∃ y m d, IsDay y m d ∧ IsTime ((st + 60 * z) % 86400 / 3600) ((st + 60 * z) % 86400 / 60 % 60) ((st + 60 * z) % 86400 % 60) z ∧ daysI y m d = (st + 60 * z) / 86400 ∧ stampI y m d ((st + 60 * z) % 86400 / 3600) ((st + 60 * z) % 86400 / 60 % 60) ((st + 60 * z) % 86400 % 60) z = st := by
  obtain ⟨y, m, d, hd, hn⟩ := day_of ((st + 60 * z) / 86400 + 719162).toNat (by omega)
  have hdays : daysI y m d = (st + 60 * z) / 86400 := by unfold daysI; rw [hn]; omega
  refine ⟨y, m, d, hd, ⟨by omega, by omega, by omega, by omega, by omega, by omega, hz1, hz2⟩, hdays, ?_⟩
  unfold stampI
  rw [hdays]
  omega
theorem stamp_inj (y m d y' m' d' : Nat) (hh mm s hh' mm' s' z : Int) (hd : IsDay y m d) (hd' : IsDay y' m' d') (ht : IsTime hh mm s z) (ht' : IsTime hh' mm' s' z) (e : stampI y m d hh mm s z = stampI y' m' d' hh' mm' s' z) :
    y = y' ∧ m = m' ∧ d = d' ∧ hh = hh' ∧ mm = mm' ∧ s = s' := by
  have a := stamp_day y m d hh mm s z ht
  have b := stamp_day y' m' d' hh' mm' s' z ht'
  rw [e] at a
  have hdn : dno y m d = dno y' m' d' := by
    have : daysI y m d = daysI y' m' d' := a.1.symm.trans b.1
    unfold daysI at this
    omega
  obtain ⟨rfl, rfl, rfl⟩ := dno_inj y m d y' m' d' hd hd' hdn
  have hn := a.2.symm.trans b.2
  obtain ⟨p1, p2, p3, p4, p5, p6, _, _⟩ := ht
  obtain ⟨q1, q2, q3, q4, q5, q6, _, _⟩ := ht'
  refine ⟨rfl, rfl, rfl, by omega, by omega, by omega⟩
end Go.Proofs.YtckdmbeokajdjaaGreatDoor
