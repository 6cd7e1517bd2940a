/- Plain mathematics: the calendar. Nothing of the program. -/
import Derived.Lib.Hide
import Derived.Test.YtbncaiocmklgnaaGreatDoorProg
import Derived.Test.YtbncaiocmklgnaaGreatDoorPu
import Derived.Deep.QuietTactic
import Derived.Laws.ResultCell
import Derived.Laws.CopyOwn
import Derived.Test.YtbncaiocmklgnaaGreatDoorV11s
import Derived.Handy
import Derived.Lib.LaidTab
import Derived.Lib.ItoaNum
import Derived.Deep.RegionHeld3
import Derived.Deep.RegionWith
import Derived.BigQuiet
import Derived.Deep.MidRow
import Derived.Test.YtbncaiocmklgnaaGreatDoorZv
namespace Go.Proofs.YtbncaiocmklgnaaGreatDoor

def leapY (y : Nat) : Bool := y % 4 == 0 && (y % 100 != 0 || y % 400 == 0)
theorem leapY_iff (y : Nat) : leapY y = true ↔ (y % 4 = 0 ∧ (y % 100 ≠ 0 ∨ y % 400 = 0)) := by
  unfold leapY; simp
theorem leapY_not (y : Nat) : leapY y = false ↔ ¬ (y % 4 = 0 ∧ (y % 100 ≠ 0 ∨ y % 400 = 0)) := by
  rw [← leapY_iff]; simp
def ylen (y : Nat) : Nat := if leapY y then 366 else 365
def mlen (y m : Nat) : Nat := if m = 4 ∨ m = 6 ∨ m = 9 ∨ m = 11 then 30 else if m = 2 then (if leapY y then 29 else 28) else 31
/-- Days from the first of the year 1 to the first of a year. -/
def dby (y : Nat) : Nat := 365 * (y - 1) + (y - 1) / 4 - (y - 1) / 100 + (y - 1) / 400
/-- Days from the first of a year to the first of a month. -/
def dbm (y : Nat) : Nat → Nat
  | 0 => 0
  | m + 1 => dbm y m + (if m = 0 then 0 else mlen y m)
def dno (y m d : Nat) : Nat := dby y + dbm y m + (d - 1)
theorem div_up (q k : Nat) (hk : 0 < k) : (q + 1) / k = q / k + (if (q + 1) % k = 0 then 1 else 0) := by
  have h1 := Nat.div_add_mod q k
  have h2 := Nat.mod_lt q hk
  split
  · rename_i h
    have h3 := Nat.div_add_mod (q + 1) k
    rw [h] at h3
    have h4 : k * ((q + 1) / k) = k * (q / k) + (q % k + 1) := by omega
    have h5 : q % k + 1 = k := by
      have h6 : k ∣ q % k + 1 := by
        have : k ∣ k * (q / k) + (q % k + 1) := by rw [← h4]; exact Nat.dvd_mul_right _ _
        exact (Nat.dvd_add_right (Nat.dvd_mul_right _ _)).1 this
      have := Nat.le_of_dvd (by omega) h6
      omega
    rw [h5, ← Nat.mul_succ] at h4
    exact Nat.eq_of_mul_eq_mul_left hk h4
  · rename_i h
    have h3 : q % k + 1 < k := by
      rcases Nat.lt_or_ge (q % k + 1) k with h3 | h3
      · exact h3
      · exfalso
        apply h
        have h4 : q % k + 1 = k := by omega
        have h5 : q + 1 = k * (q / k + 1) := by rw [Nat.mul_succ]; omega
        rw [h5, Nat.mul_mod_right]
    have h4 : q + 1 = k * (q / k) + (q % k + 1) := by omega
    rw [h4, Nat.mul_add_div hk, Nat.div_eq_of_lt h3]
theorem dby_succ (y : Nat) (h : 1 ≤ y) : dby (y + 1) = dby y + ylen y := by
  obtain ⟨q, rfl⟩ : ∃ q, y = q + 1 := ⟨y - 1, by omega⟩
  unfold dby ylen
  have a1 := div_up q 4 (by omega)
  have a2 := div_up q 100 (by omega)
  have a3 := div_up q 400 (by omega)
  have b1 : q / 100 ≤ q / 4 := by omega
  have hl := leapY_iff (q + 1)
  have d1 : (q + 1) % 100 = 0 → (q + 1) % 4 = 0 := by omega
  have d2 : (q + 1) % 400 = 0 → (q + 1) % 100 = 0 := by omega
  rw [Nat.add_sub_cancel, Nat.add_sub_cancel, a1, a2, a3]
  clear a1 a2 a3
  generalize q / 4 = x4 at *
  generalize q / 100 = x100 at *
  generalize q / 400 = x400 at *
  by_cases h4 : (q + 1) % 4 = 0
  · by_cases h100 : (q + 1) % 100 = 0
    · by_cases h400 : (q + 1) % 400 = 0
      · rw [if_pos h4, if_pos h100, if_pos h400, if_pos (hl.2 ⟨h4, .inr h400⟩)]; omega
      · rw [if_pos h4, if_pos h100, if_neg h400, if_neg (fun k => (hl.1 k).2.elim (fun z => z h100) h400)]; omega
    · rw [if_pos h4, if_neg h100, if_neg (fun k => h100 (d2 k)), if_pos (hl.2 ⟨h4, .inl h100⟩)]; omega
  · rw [if_neg h4, if_neg (fun k => h4 (d1 k)), if_neg (fun k => h4 (d1 (d2 k))), if_neg (fun k => h4 (hl.1 k).1)]; omega
theorem dby_one : dby 1 = 0 := rfl
theorem dby_1970 : dby 1970 = 719162 := by decide
theorem dby_10000 : dby 10000 = 3652059 := by decide
theorem ylen_le (y : Nat) : 365 ≤ ylen y ∧ ylen y ≤ 366 := by unfold ylen; split <;> omega
theorem dby_le (a : Nat) (h : 1 ≤ a) : ∀ n, dby a + 365 * n ≤ dby (a + n) := by
  intro n
  induction n with
  | zero => simp
  | succ n ih =>
    have := dby_succ (a + n) (by omega)
    have := ylen_le (a + n)
    have e : a + (n + 1) = a + n + 1 := rfl
    rw [e]
    omega
theorem dby_mono (a b : Nat) (ha : 1 ≤ a) (h : a ≤ b) : dby a ≤ dby b := by
  have := dby_le a ha (b - a)
  have e : a + (b - a) = b := by omega
  rw [e] at this
  omega
theorem dby_lt (a b : Nat) (ha : 1 ≤ a) (h : a < b) : dby a + 365 ≤ dby b := by
  have := dby_le a ha (b - a)
  have e : a + (b - a) = b := by omega
  rw [e] at this
  omega
theorem dby_400 (y : Nat) (h : 1 ≤ y) : dby (y + 400) = dby y + 146097 := by unfold dby; omega
theorem leap_400 (y : Nat) : leapY (y + 400) = leapY y := by
  rw [Bool.eq_iff_iff, leapY_iff, leapY_iff]; omega
theorem mlen_400 (y m : Nat) : mlen (y + 400) m = mlen y m := by unfold mlen; rw [leap_400]
theorem dbm_400 (y : Nat) : ∀ m, dbm (y + 400) m = dbm y m := by
  intro m
  induction m with
  | zero => rfl
  | succ m ih => rw [dbm, dbm, ih, mlen_400]
theorem mlen_bounds (y m : Nat) : 28 ≤ mlen y m ∧ mlen y m ≤ 31 := by unfold mlen; repeat' split
                                                                      all_goals omega
theorem dbm_one (y : Nat) : dbm y 1 = 0 := rfl
theorem dbm_succ (y m : Nat) (h : 1 ≤ m) : dbm y (m + 1) = dbm y m + mlen y m := by
  rw [dbm, if_neg (by omega)]
theorem dbm_13 (y : Nat) : dbm y 13 = ylen y := by
  unfold ylen
  simp only [dbm, mlen]
  cases leapY y <;> simp
theorem dbm_le (y a : Nat) (h : 1 ≤ a) : ∀ n, dbm y a + 28 * n ≤ dbm y (a + n) := by
  intro n
  induction n with
  | zero => simp
  | succ n ih =>
    have := dbm_succ y (a + n) (by omega)
    have := mlen_bounds y (a + n)
    have e : a + (n + 1) = a + n + 1 := rfl
    rw [e]
    omega
theorem dbm_mono (y a b : Nat) (ha : 1 ≤ a) (h : a ≤ b) : dbm y a ≤ dbm y b := by
  have := dbm_le y a ha (b - a)
  have e : a + (b - a) = b := by omega
  rw [e] at this
  omega
structure IsDay (y m d : Nat) : Prop where
  y1 : 1 ≤ y
  y2 : y ≤ 9999
  m1 : 1 ≤ m
  m2 : m ≤ 12
  d1 : 1 ≤ d
  d2 : d ≤ mlen y m
/-- A day lies within its month, a month within its year. -/
theorem dno_month (y m d : Nat) (h : IsDay y m d) : dby y + dbm y m ≤ dno y m d ∧ dno y m d < dby y + dbm y (m + 1) := by
  have := dbm_succ y m h.m1
  have h1 := h.d1
  have h2 := h.d2
  unfold dno
  omega
theorem dno_year (y m d : Nat) (h : IsDay y m d) : dby y ≤ dno y m d ∧ dno y m d < dby (y + 1) := by
  have h1 := dno_month y m d h
  have h2 := dbm_mono y (m + 1) 13 (by omega) (by have := h.m2; omega)
  have h3 := dby_succ y h.y1
  rw [dbm_13] at h2
  omega
theorem dno_lt (y m d : Nat) (h : IsDay y m d) : dno y m d < 3652059 := by
  have h1 := dno_year y m d h
  have h2 := dby_mono (y + 1) 10000 (by omega) (by have := h.y2; omega)
  rw [dby_10000] at h2
  omega
theorem dno_inj (y m d y' m' d' : Nat) (h : IsDay y m d) (h' : IsDay y' m' d') (e : dno y m d = dno y' m' d') : y = y' ∧ m = m' ∧ d = d' := by
  have a := dno_year y m d h
  have a' := dno_year y' m' d' h'
  have hy : y = y' := by
    rcases Nat.lt_trichotomy y y' with k | k | k
    · have := dby_mono (y + 1) y' (by omega) k; omega
    · exact k
    · have := dby_mono (y' + 1) y (by omega) k; omega
  subst hy
  have b := dno_month y m d h
  have b' := dno_month y m' d' h'
  have hm : m = m' := by
    rcases Nat.lt_trichotomy m m' with k | k | k
    · have := dbm_mono y (m + 1) m' (by omega) k; omega
    · exact k
    · have := dbm_mono y (m' + 1) m (by omega) k; omega
  subst hm
  refine ⟨rfl, rfl, ?_⟩
  have h1 := h.d1
  have h2 := h'.d1
  unfold dno at e
  omega
theorem year_of (n : Nat) : ∃ y, 1 ≤ y ∧ dby y ≤ n ∧ n < dby (y + 1) := by
  have gen : ∀ k, n < dby (k + 1) → ∃ y, 1 ≤ y ∧ dby y ≤ n ∧ n < dby (y + 1) := by
    intro k
    induction k with
    | zero => intro h; rw [dby_one] at h; omega
    | succ k ih =>
      intro h
      rcases Nat.lt_or_ge n (dby (k + 1)) with h1 | h1
      · exact ih h1
      · exact ⟨k + 1, by omega, h1, h⟩
  have h := dby_le 1 (by omega) (n + 1)
  exact gen (n + 1) (by rw [dby_one] at h; have e : 1 + (n + 1) = n + 1 + 1 := by omega
                        rw [e] at h; omega)
theorem month_of (y n : Nat) (h : n < ylen y) : ∃ m, 1 ≤ m ∧ m ≤ 12 ∧ dbm y m ≤ n ∧ n < dbm y (m + 1) := by
  have gen : ∀ k, k ≤ 12 → n < dbm y (k + 1) → ∃ m, 1 ≤ m ∧ m ≤ 12 ∧ dbm y m ≤ n ∧ n < dbm y (m + 1) := by
    intro k
    induction k with
    | zero => intro _ h; rw [dbm_one] at h; omega
    | succ k ih =>
      intro hk h
      rcases Nat.lt_or_ge n (dbm y (k + 1)) with h1 | h1
      · exact ih (by omega) h1
      · exact ⟨k + 1, by omega, hk, h1, h⟩
  exact gen 12 (by omega) (by rw [dbm_13]; exact h)
theorem day_of (n : Nat) (h : n < 3652059) : ∃ y m d, IsDay y m d ∧ dno y m d = n := by
  obtain ⟨y, h1, h2, h3⟩ := year_of n
  have hy : y ≤ 9999 := by
    rcases Nat.lt_or_ge 9999 y with k | k
    · have := dby_mono 10000 y (by omega) k
      rw [dby_10000] at this
      omega
    · exact k
  have h4 := dby_succ y h1
  obtain ⟨m, m1, m2, m3, m4⟩ := month_of y (n - dby y) (by omega)
  have h5 := dbm_succ y m m1
  refine ⟨y, m, n - dby y - dbm y m + 1, ⟨h1, hy, m1, m2, by omega, by omega⟩, ?_⟩
  unfold dno
  omega
/-- The day behind a day. -/
def nextD (y m d : Nat) : Nat × Nat × Nat := if d < mlen y m then (y, m, d + 1) else if m < 12 then (y, m + 1, 1) else (y + 1, 1, 1)
theorem next_dno (y m d : Nat) (h : IsDay y m d) : dno (nextD y m d).1 (nextD y m d).2.1 (nextD y m d).2.2 = dno y m d + 1 := by
  have h1 := h.d1
  have h2 := h.d2
  unfold nextD
  split
  · simp only [dno]; omega
  · split
    · simp only [dno]
      have := dbm_succ y m h.m1
      omega
    · rename_i k1 k2
      have hm : m = 12 := by have := h.m2; omega
      subst hm
      have a := dby_succ y h.y1
      have b := dbm_13 y
      rw [dbm_succ y 12 (by omega)] at b
      simp only [dno, dbm_one]
      omega
theorem next_isDay (y m d : Nat) (h : IsDay y m d) (hy : (nextD y m d).1 ≤ 9999) : IsDay (nextD y m d).1 (nextD y m d).2.1 (nextD y m d).2.2 := by
  have h1 := h.d1
  revert hy
  unfold nextD
  split
  · intro _; exact ⟨h.y1, h.y2, h.m1, h.m2, by simp only; omega, by simp only; omega⟩
  · split
    · intro _
      have := mlen_bounds y (m + 1)
      exact ⟨h.y1, h.y2, by simp only; omega, by simp only; omega, by simp only; omega, by simp only; omega⟩
    · intro hy
      have := mlen_bounds (y + 1) 1
      exact ⟨by simp only; omega, hy, by simp only; omega, by simp only; omega, by simp only; omega, by simp only; omega⟩
theorem isDay_400 (y m d : Nat) (h : IsDay y m d) (hy : y + 400 ≤ 9999) : IsDay (y + 400) m d ∧ dno (y + 400) m d = dno y m d + 146097 := by
  refine ⟨⟨by have := h.y1; omega, hy, h.m1, h.m2, h.d1, by rw [mlen_400]; exact h.d2⟩, ?_⟩
  unfold dno
  rw [dby_400 y h.y1, dbm_400]
  omega
/-- Days behind 1 January 1970, and the day of the week. -/
def daysI (y m d : Nat) : Int := (dno y m d : Int) - 719162
def wdayI (n : Int) : Int := (n + 4) % 7
theorem wday_next (n : Int) : wdayI (n + 1) = (wdayI n + 1) % 7 := by unfold wdayI; omega
theorem wday_400 (n : Int) : wdayI (n + 146097) = wdayI n := by unfold wdayI; omega
theorem daysI_1970 : daysI 1970 1 1 = 0 := by decide
theorem daysI_known : daysI 2026 2 1 = 20485 ∧ wdayI (daysI 2026 2 1) = 0 := by decide
/-- Stamps. -/
def stampI (y m d : Nat) (hh mm s z : Int) : Int := 86400 * daysI y m d + 3600 * hh + 60 * mm + s - 60 * z
structure IsTime (hh mm s z : Int) : Prop where
  h1 : 0 ≤ hh
  h2 : hh ≤ 23
  m1 : 0 ≤ mm
  m2 : mm ≤ 59
  s1 : 0 ≤ s
  s2 : s ≤ 59
  z1 : -1439 ≤ z
  z2 : z ≤ 1439
theorem stamp_day (y m d : Nat) (hh mm s z : Int) (ht : IsTime hh mm s z) : (stampI y m d hh mm s z + 60 * z) / 86400 = daysI y m d ∧ (stampI y m d hh mm s z + 60 * z) % 86400 = 3600 * hh + 60 * mm + s := by
  obtain ⟨a, b, c, e, f, g, _, _⟩ := ht
  unfold stampI
  omega
theorem time_of (n hh mm s : Int) (h3 : 0 ≤ mm) (h4 : mm ≤ 59) (h5 : 0 ≤ s) (h6 : s ≤ 59) (e : n = 3600 * hh + 60 * mm + s) : hh = n / 3600 ∧ mm = n / 60 % 60 ∧ s = n % 60 := by omega
theorem stamp_range (y m d : Nat) (hh mm s z : Int) (hd : IsDay y m d) (ht : IsTime hh mm s z) : -62135596800 ≤ stampI y m d hh mm s z + 60 * z ∧ stampI y m d hh mm s z + 60 * z ≤ 253402300799 := by
  have h1 := dno_lt y m d hd
  obtain ⟨a, b, c, e, f, g, _, _⟩ := ht
  unfold stampI daysI
  omega
/-- At and Stamp are each the other's way back. -/
theorem stamp_of (st z : Int) (hz1 : -1439 ≤ z) (hz2 : z ≤ 1439) (h1 : -62135596800 ≤ st + 60 * z) (h2 : st + 60 * z ≤ 253402300799) :
    ∃ y m d, IsDay y m d ∧ IsTime ((st + 60 * z) % 86400 / 3600) ((st + 60 * z) % 86400 / 60 % 60) ((st + 60 * z) % 86400 % 60) z ∧ daysI y m d = (st + 60 * z) / 86400 ∧ stampI y m d ((st + 60 * z) % 86400 / 3600) ((st + 60 * z) % 86400 / 60 % 60) ((st + 60 * z) % 86400 % 60) z = st := by
  obtain ⟨y, m, d, hd, hn⟩ := day_of ((st + 60 * z) / 86400 + 719162).toNat (by omega)
  have hdays : daysI y m d = (st + 60 * z) / 86400 := by unfold daysI; rw [hn]; omega
  refine ⟨y, m, d, hd, ⟨by omega, by omega, by omega, by omega, by omega, by omega, hz1, hz2⟩, hdays, ?_⟩
  unfold stampI
  rw [hdays]
  omega
theorem stamp_inj (y m d y' m' d' : Nat) (hh mm s hh' mm' s' z : Int) (hd : IsDay y m d) (hd' : IsDay y' m' d') (ht : IsTime hh mm s z) (ht' : IsTime hh' mm' s' z) (e : stampI y m d hh mm s z = stampI y' m' d' hh' mm' s' z) :
    y = y' ∧ m = m' ∧ d = d' ∧ hh = hh' ∧ mm = mm' ∧ s = s' := by
  have a := stamp_day y m d hh mm s z ht
  have b := stamp_day y' m' d' hh' mm' s' z ht'
  rw [e] at a
  have hdn : dno y m d = dno y' m' d' := by
    have : daysI y m d = daysI y' m' d' := a.1.symm.trans b.1
    unfold daysI at this
    omega
  obtain ⟨rfl, rfl, rfl⟩ := dno_inj y m d y' m' d' hd hd' hdn
  have hn := a.2.symm.trans b.2
  obtain ⟨p1, p2, p3, p4, p5, p6, _, _⟩ := ht
  obtain ⟨q1, q2, q3, q4, q5, q6, _, _⟩ := ht'
  refine ⟨rfl, rfl, rfl, by omega, by omega, by omega⟩
end Go.Proofs.YtbncaiocmklgnaaGreatDoor

/- Moments as values; what is asked of them, plain. -/
namespace Go.Proofs.YtbncaiocmklgnaaGreatDoor
open Go.RowKit

/-- A moment as a value. -/
def mom (y m d h n s z : Int) : Value := .agg #[.int .i64 y, .int .i64 m, .int .i64 d, .int .i64 h, .int .i64 n, .int .i64 s, .int .i64 z]
def isDayB (y m d : Int) : Bool := decide (1 ≤ y ∧ y ≤ 9999 ∧ 1 ≤ m ∧ m ≤ 12 ∧ 1 ≤ d ∧ d ≤ (mlen y.toNat m.toNat : Int))

def timeB (h n s z : Int) : Bool := decide (0 ≤ h ∧ h ≤ 23 ∧ 0 ≤ n ∧ n ≤ 59 ∧ 0 ≤ s ∧ s ≤ 59 ∧ -1439 ≤ z ∧ z ≤ 1439)
def validB (y m d h n s z : Int) : Bool := isDayB y m d && timeB h n s z
theorem boxed {w w1 : World} {cs : Array Value} {t : TypeId} (hb : Below (w.alloc (.cells cs t)).heap.size (w.alloc (.cells cs t)) w1) (k : Nat) : w1.cell? ⟨w.heap.size, k, none⟩ = cs[k]? := by
  rw [hb.cell (p := ⟨w.heap.size, k, none⟩) (by simp)]
  exact cell_of_row _ _ k _ _ _ (heap_alloc_new w _)

def daysV (y m d h n s z : Int) : Int := if validB y m d h n s z then daysI y.toNat m.toNat d.toNat else 0
theorem valid_parts (y m d h n s z : Int) (hv : validB y m d h n s z = true) : ∃ Y M D : Nat, y = Y ∧ m = M ∧ d = D ∧ IsDay Y M D ∧ IsTime h n s z := by
  unfold validB isDayB timeB at hv
  rw [Bool.and_eq_true, decide_eq_true_iff, decide_eq_true_iff] at hv
  obtain ⟨⟨a1, a2, a3, a4, a5, a6⟩, b1, b2, b3, b4, b5, b6, b7, b8⟩ := hv
  obtain ⟨Y, rfl⟩ := Int.eq_ofNat_of_zero_le (show 0 ≤ y by omega)
  obtain ⟨M, rfl⟩ := Int.eq_ofNat_of_zero_le (show 0 ≤ m by omega)
  obtain ⟨D, rfl⟩ := Int.eq_ofNat_of_zero_le (show 0 ≤ d by omega)
  exact ⟨Y, M, D, rfl, rfl, rfl, ⟨by omega, by omega, by omega, by omega, by omega, by simpa using a6⟩, ⟨b1, b2, b3, b4, b5, b6, b7, b8⟩⟩

def wdayV (y m d h n s z : Int) : Int := if validB y m d h n s z then wdayI (daysI y.toNat m.toNat d.toNat) else 0
def stampV (y m d h n s z : Int) : Int := if validB y m d h n s z then stampI y.toNat m.toNat d.toNat h n s z else 0
theorem valid_time (y m d h n s z : Int) (hv : validB y m d h n s z = true) : 0 ≤ h ∧ h ≤ 23 ∧ 0 ≤ n ∧ n ≤ 59 ∧ 0 ≤ s ∧ s ≤ 59 ∧ -1439 ≤ z ∧ z ≤ 1439 := by
  unfold validB timeB at hv
  rw [Bool.and_eq_true, decide_eq_true_iff] at hv
  exact hv.2
theorem days_bounds (y m d h n s z : Int) (hv : validB y m d h n s z = true) : -719162 ≤ daysI y.toNat m.toNat d.toNat ∧ daysI y.toNat m.toNat d.toNat ≤ 2932896 := by
  obtain ⟨Y, M, D, rfl, rfl, rfl, hd, _⟩ := valid_parts y m d h n s z hv
  have := dno_lt Y M D hd
  simp only [Int.toNat_natCast]
  unfold daysI
  omega

theorem tmod7 (a : Int) : (wrap64 (a.tmod 7 + 7)).tmod 7 = a % 7 := by
  have key : a.tmod 7 = if 0 ≤ a then a % 7 else -((-a) % 7) := by
    split
    · rw [Int.tmod_eq_emod_of_nonneg (by omega)]
    · have : a = -(-a) := by omega
      rw [this, Int.neg_tmod, Int.tmod_eq_emod_of_nonneg (by omega)]
      simp
  have hb : -7 < a.tmod 7 ∧ a.tmod 7 < 7 := by rw [key]; split <;> omega
  have hw : wrap64 (a.tmod 7 + 7) = a.tmod 7 + 7 := by unfold wrap64; omega
  rw [hw, Int.tmod_eq_emod_of_nonneg (by omega), key]
  split <;> omega

/-- A moment in a block of its own. -/
structure Bx (b : Nat) (y m d h n s z : Int) (W : World) : Prop where
  blk : W.heap[b]? = some (.cells #[.int .i64 y, .int .i64 m, .int .i64 d, .int .i64 h, .int .i64 n, .int .i64 s, .int .i64 z] 33 (0, 0))
theorem Bx.on {b : Nat} {y m d h n s z : Int} {W W' : World} (h1 : Bx b y m d h n s z W) (hb : Below W.heap.size W W') : Bx b y m d h n s z W' :=
  ⟨by rw [hb.block b (Array.getElem?_eq_some_iff.1 h1.blk).1]; exact h1.blk⟩
theorem Bx.cells {b : Nat} {y m d h n s z : Int} {W : World} (h1 : Bx b y m d h n s z W) : W.cell? ⟨b, 0, none⟩ = some (.int .i64 y) ∧ W.cell? ⟨b, 1, none⟩ = some (.int .i64 m) ∧ W.cell? ⟨b, 2, none⟩ = some (.int .i64 d) ∧ W.cell? ⟨b, 3, none⟩ = some (.int .i64 h) ∧ W.cell? ⟨b, 4, none⟩ = some (.int .i64 n) ∧ W.cell? ⟨b, 5, none⟩ = some (.int .i64 s) ∧ W.cell? ⟨b, 6, none⟩ = some (.int .i64 z) :=
  ⟨cell_of_row _ _ 0 _ _ _ h1.blk, cell_of_row _ _ 1 _ _ _ h1.blk, cell_of_row _ _ 2 _ _ _ h1.blk, cell_of_row _ _ 3 _ _ _ h1.blk, cell_of_row _ _ 4 _ _ _ h1.blk, cell_of_row _ _ 5 _ _ _ h1.blk, cell_of_row _ _ 6 _ _ _ h1.blk⟩
/-- Which of two comes first. -/
def orderV (va vb : Bool) (sa sb : Int) : Int := if va = false ∧ vb = true then -1 else if va = true ∧ vb = false then 1 else if sa < sb then -1 else if sb < sa then 1 else 0
theorem order_ft (a b : Int) : orderV false true a b = -1 := by simp [orderV]
theorem order_tf (a b : Int) : orderV true false a b = 1 := by simp [orderV]
theorem order_lt (v : Bool) (a b : Int) (h : a < b) : orderV v v a b = -1 := by cases v <;> simp [orderV, h]
theorem order_gt (v : Bool) (a b : Int) (h : b < a) : orderV v v a b = 1 := by
  have : ¬ a < b := by omega
  cases v <;> simp [orderV, h, this]
theorem order_eq (v : Bool) (a b : Int) (h1 : ¬ a < b) (h2 : ¬ b < a) : orderV v v a b = 0 := by cases v <;> simp [orderV, h1, h2]
theorem stampV_bounds (y m d h n s z : Int) : -100000000000 ≤ stampV y m d h n s z ∧ stampV y m d h n s z ≤ 300000000000 := by
  unfold stampV
  cases hv : validB y m d h n s z with
  | false => simp
  | true =>
    have h1 := days_bounds y m d h n s z hv
    have h2 := valid_time y m d h n s z hv
    simp only [if_pos]
    unfold stampI
    omega

theorem res2 {P : Program} {fn : Func} {p u : Tmp} {ty : TypeId} (h : fn.results = #[.cell p ty, .tmp u]) (tmps : Array Value) (w : World) (g : Nat) (t : TypeId) (cs : Array Value) (fr : Nat × Nat) (d : TypeDesc)
    (hp : tmps.getD p undef = .pointer (some ⟨g, 0, none⟩)) (hg : w.heap[g]? = some (.cells cs t fr))
    (hu : P.underlying ty = some d) (hd : (match d with | .struct _ | .array _ _ => true | _ => false) = true) (hi : (P.info? ty).map (·.size) = some cs.size) :
    (results fn tmps).run P w = .ok (.tuple #[.agg cs, tmps.getD u undef]) w := by
  rw [results_cell_tmp h, hp]
  simp [asAddr, Result.andThen, run_loadVar_row w g t ty cs fr d hg hu hd hi]
theorem Tryz.sizeMom : (Tryz.prog.info? 33).map (·.size) = some 7 := by kernel_rfl

theorem mom_one (y m d h n s z : Int) : ((#[.int .i64 y, .int .i64 m, .int .i64 d, .int .i64 h, .int .i64 n, .int .i64 s, .int .i64 z] : Array Value).all (·.oneCell')) = true := by simp [Value.oneCell']
def momC (y m d h n s z : Int) : Array Value := #[.int .i64 y, .int .i64 m, .int .i64 d, .int .i64 h, .int .i64 n, .int .i64 s, .int .i64 z]

end Go.Proofs.YtbncaiocmklgnaaGreatDoor

/- moment.Valid, for stage 11's seats (c11mgen: out of Da, Db). -/
namespace Go.Proofs.YtbncaiocmklgnaaGreatDoor
open Go.RowKit

def lenT : List Int := [31, 28, 31, 30, 31, 30, 31, 31, 30, 31, 30, 31]
structure EnvM (w : World) : Prop where
  len : Lib.TabIs Tryz.prog w "postbag/moment.monthLengths" .i64 lenT
theorem Tryz.gLen : Tryz.prog.globalNamed "postbag/moment.monthLengths" = some 4 := by kernel_rfl
theorem tab_on {n : String} {g : Nat} {k : IntKind} {zs : List Int} {w w' : World} (hg : Tryz.prog.globalNamed n = some g) (h : Lib.TabIs Tryz.prog w n k zs) (hb : Below w.heap.size w w') : Lib.TabIs Tryz.prog w' n k zs := by
  unfold Lib.TabIs World.var? at *
  rw [hg] at *
  simp only [Option.bind_some] at *
  have hlt : g < w.heap.size := by
    rcases Nat.lt_or_ge g w.heap.size with k | k
    · exact k
    · rw [Array.getElem?_eq_none k] at h; cases h
  rw [hb.block g hlt]
  exact h
theorem EnvM.on {w w' : World} (h : EnvM w) (hb : Below w.heap.size w w') : EnvM w' := ⟨tab_on Tryz.gLen h.len hb⟩
theorem EnvM.lenC {w : World} (h : EnvM w) (i : Nat) (hi : i < 12) : w.cell? ⟨4, i, none⟩ = some (.int .i64 (lenT.getD i 0)) := h.len.cell Tryz.gLen i hi
theorem EnvM.drewN {w : World} (h : EnvM w) (n : Nat) : EnvM (w.drewN n) := h.on (below_drewN (Below.refl _ _) n)
theorem EnvM.drew {w : World} (h : EnvM w) : EnvM w.drew := h.on (Below.refl _ _).drew

set_option maxHeartbeats 400000 in
theorem isLeap_any (y : Nat) (w : World) (hy : y ≤ 20000) :
    Calls Tryz.prog 151 #[.int .i64 y] w fun e w' => e = .returned (.bool (leapY y)) ∧ w' = w := by
  have hl := Lib.hid (leapY_iff y)
  have hn := Lib.hid (leapY_not y)
  cases h4 : (((y : Int) % 4) == 0) with
  | false =>
    have HR : Hid (leapY y = false) := Lib.hid (hn.out.2 (fun h => by rw [beq_eq_false_iff_ne] at h4; omega))
    go_enter Tryz.func151, Tryz.ntmps151
    go_wp2
    go_ret
    exact ⟨ret_bool HR.out.symm, rfl⟩
  | true =>
    rw [beq_iff_eq] at h4
    have h4' : ((y : Int) % 4 == 0) = true := by rw [beq_iff_eq]; exact h4
    cases h100 : (((y : Int) % 100) != 0) with
    | true =>
      have HR : Hid (leapY y = true) := Lib.hid (hl.out.2 ⟨by omega, .inl (by rw [bne_iff_ne] at h100; omega)⟩)
      clear h4
      go_enter Tryz.func151, Tryz.ntmps151
      go_wp2
      go_ret
      exact ⟨ret_bool HR.out.symm, rfl⟩
    | false =>
      cases h400 : (((y : Int) % 400) == 0) with
      | true =>
        have HR : Hid (leapY y = true) := Lib.hid (hl.out.2 ⟨by omega, .inr (by rw [beq_iff_eq] at h400; omega)⟩)
        clear h4
        go_enter Tryz.func151, Tryz.ntmps151
        go_wp2
        go_ret
        exact ⟨ret_bool HR.out.symm, rfl⟩
      | false =>
        have HR : Hid (leapY y = false) := Lib.hid (hn.out.2 (fun h => by rw [beq_eq_false_iff_ne] at h400; simp at h100; omega))
        clear h4
        go_enter Tryz.func151, Tryz.ntmps151
        go_wp2
        go_ret
        exact ⟨ret_bool HR.out.symm, rfl⟩

set_option maxHeartbeats 800000 in
theorem monthLength_any (y m : Nat) (w : World) (he : EnvM w) (hy : y ≤ 20000) (hm1 : 1 ≤ m) (hm : m ≤ 12) :
    Calls Tryz.prog 147 #[.int .i64 y, .int .i64 m] w fun e w' => e = .returned (.int .i64 (mlen y m : Nat)) ∧ w' = w := by
  have hL := Lib.hid (fun W => isLeap_any y W hy)
  have HM : Hid (mlen y m = if m = 4 ∨ m = 6 ∨ m = 9 ∨ m = 11 then 30 else if m = 2 then (if leapY y then 29 else 28) else 31) := Lib.hid rfl
  have c0 := he.lenC (m - 1) (by omega)
  cases hl : leapY y <;> rw [hl] at hL HM
  all_goals (
    rcases (by omega : m = 1 ∨ m = 2 ∨ m = 3 ∨ m = 4 ∨ m = 5 ∨ m = 6 ∨ m = 7 ∨ m = 8 ∨ m = 9 ∨ m = 10 ∨ m = 11 ∨ m = 12) with rfl | rfl | rfl | rfl | rfl | rfl | rfl | rfl | rfl | rfl | rfl | rfl
    all_goals (
      simp [lenT] at c0
      clear he
      go_enter Tryz.func147, Tryz.ntmps147
      go_wp2_with (go_at_call 151; refine (hL.out _).mono ?_; rintro e w' ⟨rfl, rfl⟩)
      go_ret
      exact ⟨ret_int (by rw [HM.out]; rfl), rfl⟩))
theorem monthLength_int (y m : Int) (w : World) (he : EnvM w) (hy0 : 0 ≤ y) (hy : y ≤ 20000) (hm0 : 1 ≤ m) (hm : m ≤ 12) :
    Calls Tryz.prog 147 #[.int .i64 y, .int .i64 m] w fun e w' => e = .returned (.int .i64 (mlen y.toNat m.toNat : Nat)) ∧ w' = w := by
  obtain ⟨a, rfl⟩ := Int.eq_ofNat_of_zero_le hy0
  obtain ⟨b, rfl⟩ := Int.eq_ofNat_of_zero_le (show 0 ≤ m by omega)
  exact monthLength_any a b w he (by omega) (by omega) (by omega)

def wi (n a b : Int) : Bool := decide (a ≤ n) && decide (n ≤ b)
theorem wi_true {n a b : Int} (h1 : a ≤ n) (h2 : n ≤ b) : wi n a b = true := by unfold wi; rw [decide_eq_true h1, decide_eq_true h2]; rfl
theorem wi_false {n a b : Int} (h : ¬ (a ≤ n ∧ n ≤ b)) : wi n a b = false := by
  unfold wi
  rw [Bool.and_eq_false_iff, decide_eq_false_iff_not, decide_eq_false_iff_not]
  omega
theorem wi_iff (n a b : Int) : wi n a b = true ↔ (a ≤ n ∧ n ≤ b) := by
  unfold wi
  rw [Bool.and_eq_true, decide_eq_true_iff, decide_eq_true_iff]
set_option maxHeartbeats 400000 in
theorem within_any (n a b : Int) (w : World) :
    Calls Tryz.prog 139 #[.int .i64 n, .int .i64 a, .int .i64 b] w fun e w' => e = .returned (.bool (wi n a b)) ∧ w' = w := by
  by_cases h1 : a ≤ n
  · have HR : Hid (wi n a b = decide (n ≤ b)) := Lib.hid (by unfold wi; rw [decide_eq_true h1]; rfl)
    go_enter Tryz.func139, Tryz.ntmps139
    go_wp2
    go_ret
    exact ⟨ret_bool HR.out.symm, rfl⟩
  · have HR : Hid (wi n a b = false) := Lib.hid (wi_false (fun h => h1 h.1))
    go_enter Tryz.func139, Tryz.ntmps139
    go_wp2
    go_ret
    exact ⟨ret_bool HR.out.symm, rfl⟩
theorem within_val (n a b : Int) (r : Bool) (w : World) (h : wi n a b = r) :
    Calls Tryz.prog 139 #[.int .i64 n, .int .i64 a, .int .i64 b] w fun e w' => e = .returned (.bool r) ∧ w' = w := by
  subst h
  exact within_any n a b w

theorem isDayB_no {y m d : Int} (h : wi y 1 9999 = false ∨ wi m 1 12 = false) : isDayB y m d = false := by
  unfold isDayB
  rw [decide_eq_false_iff_not]
  rcases h with h | h
  · intro k; rw [wi_true k.1 k.2.1] at h; cases h
  · intro k; rw [wi_true k.2.2.1 k.2.2.2.1] at h; cases h
theorem isDayB_yes {y m d : Int} (h1 : wi y 1 9999 = true) (h2 : wi m 1 12 = true) : isDayB y m d = wi d 1 (mlen y.toNat m.toNat : Nat) := by
  rw [wi_iff] at h1 h2
  rw [Bool.eq_iff_iff, wi_iff]
  unfold isDayB
  rw [decide_eq_true_iff]
  exact ⟨fun k => k.2.2.2.2, fun k => ⟨h1.1, h1.2, h2.1, h2.2, k.1, k.2⟩⟩

set_option maxHeartbeats 400000 in
theorem isDay_any (y m d h n s z : Int) (w : World) (he : EnvM w) :
    Calls Tryz.prog 137 #[mom y m d h n s z] w fun e w' => e = .returned (.bool (isDayB y m d)) ∧ Below w.heap.size w w' := by
  unfold mom
  have q0 : ∀ cs t, Below w.heap.size w (w.alloc (.cells cs t)) := fun cs t => (Below.refl _ _).alloc (Nat.le_refl _) _
  have hundef : undef = Value.tuple #[] := rfl
  cases h1 : wi y 1 9999 with
  | false =>
    have HR : Hid (isDayB y m d = false) := Lib.hid (isDayB_no (.inl h1))
    have W1 := Lib.hid (fun W => within_val y 1 9999 false W h1)
    go_enter Tryz.func137, Tryz.ntmps137
    go_wp2
    go_quiet ((go_at_call 139; exact Calls.quiet_of_same (W1.out _)))
    go_wp2
    go_ret
    exact ⟨ret_bool HR.out.symm, below_drewN (q0 _ _) _⟩
  | true =>
    cases h2 : wi m 1 12 with
    | false =>
      have HR : Hid (isDayB y m d = false) := Lib.hid (isDayB_no (.inr h2))
      have W1 := Lib.hid (fun W => within_val y 1 9999 true W h1)
      have W2 := Lib.hid (fun W => within_val m 1 12 false W h2)
      go_enter Tryz.func137, Tryz.ntmps137
      go_wp2
      go_quiet ((go_at_call 139; first | with_reducible exact Calls.quiet_of_same (W1.out _) | with_reducible exact Calls.quiet_of_same (W2.out _)))
      go_wp2
      go_ret
      exact ⟨ret_bool HR.out.symm, below_drewN (q0 _ _) _⟩
    | true =>
      have HR : Hid (isDayB y m d = wi d 1 (mlen y.toNat m.toNat : Nat)) := Lib.hid (isDayB_yes h1 h2)
      have W1 := Lib.hid (fun W => within_val y 1 9999 true W h1)
      have W2 := Lib.hid (fun W => within_val m 1 12 true W h2)
      rw [wi_iff] at h1 h2
      have HE := Lib.hid (fun cs t => he.on (q0 cs t))
      have W3 := Lib.hid (fun W hW => monthLength_int y m W hW (by omega) (by omega) h2.1 h2.2)
      have W4 := Lib.hid (fun W => within_any d 1 (mlen y.toNat m.toNat : Nat) W)
      clear he
      generalize mlen y.toNat m.toNat = X at *
      go_enter Tryz.func137, Tryz.ntmps137
      go_wp2
      go_quiet (first | (go_at_call 139; first | with_reducible exact Calls.quiet_of_same (W1.out _) | with_reducible exact Calls.quiet_of_same (W2.out _) | with_reducible exact Calls.quiet_of_same (W4.out _)) | (go_at_call 147; exact Calls.quiet_of_same (W3.out _ ((HE.out _ _).drewN _))))
      go_wp2
      go_ret
      exact ⟨ret_bool HR.out.symm, below_drewN (q0 _ _) _⟩

def clockB (h n s : Int) : Bool := wi h 0 23 && wi n 0 59 && wi s 0 59
set_option maxHeartbeats 400000 in
theorem isClock_any (y m d h n s z : Int) (w : World) :
    Calls Tryz.prog 138 #[mom y m d h n s z] w fun e w' => e = .returned (.bool (clockB h n s)) ∧ Below w.heap.size w w' := by
  unfold mom
  have q0 : ∀ cs t, Below w.heap.size w (w.alloc (.cells cs t)) := fun cs t => (Below.refl _ _).alloc (Nat.le_refl _) _
  cases h1 : wi h 0 23 with
  | false =>
    have HR : Hid (clockB h n s = false) := Lib.hid (by unfold clockB; rw [h1]; rfl)
    have W1 := Lib.hid (fun W => within_val h 0 23 false W h1)
    go_enter Tryz.func138, Tryz.ntmps138
    go_wp2_with (go_at_call 139; refine (W1.out _).mono ?_; rintro e w' ⟨rfl, rfl⟩)
    go_ret
    exact ⟨ret_bool HR.out.symm, q0 _ _⟩
  | true =>
    cases h2 : wi n 0 59 with
    | false =>
      have HR : Hid (clockB h n s = false) := Lib.hid (by unfold clockB; rw [h1, h2]; rfl)
      have W1 := Lib.hid (fun W => within_val h 0 23 true W h1)
      have W2 := Lib.hid (fun W => within_val n 0 59 false W h2)
      go_enter Tryz.func138, Tryz.ntmps138
      go_wp2_with (go_at_call 139; (first | with_reducible refine (W1.out _).mono ?_ | with_reducible refine (W2.out _).mono ?_); rintro e w' ⟨rfl, rfl⟩)
      go_ret
      exact ⟨ret_bool HR.out.symm, q0 _ _⟩
    | true =>
      have HR : Hid (clockB h n s = wi s 0 59) := Lib.hid (by unfold clockB; rw [h1, h2]; rfl)
      have W1 := Lib.hid (fun W => within_val h 0 23 true W h1)
      have W2 := Lib.hid (fun W => within_val n 0 59 true W h2)
      have W3 := Lib.hid (fun W => within_any s 0 59 W)
      go_enter Tryz.func138, Tryz.ntmps138
      go_wp2_with (go_at_call 139; (first | with_reducible refine (W1.out _).mono ?_ | with_reducible refine (W2.out _).mono ?_ | with_reducible refine (W3.out _).mono ?_); rintro e w' ⟨rfl, rfl⟩)
      go_ret
      exact ⟨ret_bool HR.out.symm, q0 _ _⟩
theorem time_clock (h n s z : Int) : timeB h n s z = (clockB h n s && wi z (-1439) 1439) := by
  rw [Bool.eq_iff_iff]
  unfold clockB
  rw [Bool.and_eq_true, Bool.and_eq_true, Bool.and_eq_true, wi_iff, wi_iff, wi_iff, wi_iff]
  unfold timeB
  rw [decide_eq_true_iff]
  omega

set_option maxHeartbeats 1000000 in
theorem momValid_any (y m d h n s z : Int) (w : World) (he : EnvM w) :
    Calls Tryz.prog 119 #[mom y m d h n s z] w fun e w' => e = .returned (.bool (validB y m d h n s z)) ∧ Below w.heap.size w w' := by
  have hD := Lib.hid (fun W he => isDay_any y m d h n s z W he)
  have hC := Lib.hid (fun W => isClock_any y m d h n s z W)
  have hZ := Lib.hid (fun W => within_any z (-1439) 1439 W)
  have q0 : ∀ cs t, Below w.heap.size w (w.alloc (.cells cs t)) := fun cs t => (Below.refl _ _).alloc (Nat.le_refl _) _
  have HE := Lib.hid (fun cs t => he.on (q0 cs t))
  clear he
  unfold mom at hD hC ⊢
  cases hd : isDayB y m d with
  | false =>
    rw [hd] at hD
    have HR : Hid (validB y m d h n s z = false) := Lib.hid (by unfold validB; rw [hd]; rfl)
    go_enter Tryz.func119, Tryz.ntmps119
    go_wp2_with (go_at_call 137; refine (hD.out _ (HE.out _ _)).mono ?_; rintro e w1 ⟨rfl, hb1⟩)
    go_ret
    exact ⟨ret_bool HR.out.symm, (q0 _ _).trans (hb1.mono (q0 _ _).size)⟩
  | true =>
    rw [hd] at hD
    have HR : Hid (validB y m d h n s z = (clockB h n s && wi z (-1439) 1439)) := Lib.hid (by unfold validB; rw [hd, time_clock]; rfl)
    go_enter Tryz.func119, Tryz.ntmps119
    go_wp2_with fail
    refine (hD.out _ (HE.out _ _)).mono ?_
    rintro e w1 ⟨rfl, hb1⟩
    have x0 := boxed hb1 0
    have x1 := boxed hb1 1
    have x2 := boxed hb1 2
    have x3 := boxed hb1 3
    have x4 := boxed hb1 4
    have x5 := boxed hb1 5
    have x6 := boxed hb1 6
    simp only [List.getElem?_toArray, List.getElem?_cons_succ, List.getElem?_cons_zero] at x0 x1 x2 x3 x4 x5 x6
    have HB := Lib.hid ((q0 _ _).trans (hb1.mono (q0 _ _).size))
    clear hb1 HE
    cases hc : clockB h n s with
    | false =>
      rw [hc] at hC HR
      go_wp2_with (go_at_call 138; refine (hC.out _).mono ?_; rintro e w2 ⟨rfl, hb2⟩)
      go_ret
      exact ⟨ret_bool HR.out.symm, HB.out.trans (hb2.mono HB.out.size)⟩
    | true =>
      rw [hc, Bool.true_and] at HR
      rw [hc] at hC
      go_wp2_with fail
      refine (hC.out _).mono ?_
      rintro e w2 ⟨rfl, hb2⟩
      have y6 : w2.cell? ⟨w.heap.size, 6, none⟩ = some (.int .i64 z) := by rw [hb2.cell (p := ⟨w.heap.size, 6, none⟩) (block_lt_of_cell x6)]; exact x6
      have HB2 := Lib.hid (HB.out.trans (hb2.mono HB.out.size))
      clear hb2 x0 x1 x2 x3 x4 x5 x6
      go_wp2_with (go_at_call 139; refine (hZ.out _).mono ?_; rintro e w3 ⟨rfl, rfl⟩)
      go_ret
      exact ⟨ret_bool HR.out.symm, HB2.out⟩
end Go.Proofs.YtbncaiocmklgnaaGreatDoor

/- event: any event, plain: what it may be. -/
namespace Go.Proofs.YtbncaiocmklgnaaGreatDoor
open Go.RowKit Go.Lib

/-- An event as plain data. -/
structure PE where
  n : Int
  k : Int
  bx : Int
  tt : Int
  fi : Int
  nm : ByteArray
  ns : List ByteArray
  bs : List Int
  us : List Int
  ms : List (Int × List ByteArray)
  y : Int
  mo : Int
  d : Int
  h : Int
  mi : Int
  s : Int
  z : Int
  bd : ByteArray
def numB (n : Int) : Bool := decide (1 ≤ n) && decide (n < 4294967295)
/-- Numbers of a store that rise, from above one on. -/
def riseB (a : Int) : List Int → Bool
  | [] => true
  | n :: l => decide (a < n) && numB n && riseB n l
def riseN (l : List Int) : Bool := riseB 0 l && !l.isEmpty
def goOnB (l : List Int) : Bool := riseN l && decide (l.getD (l.length - 1) 0 - l.getD 0 0 = (l.length : Int) - 1)
def nmB (s : ByteArray) : Bool := decide ((wire (L s)).2 = 0)
def inbxB : ByteArray := ⟨#[73, 78, 66, 79, 88]⟩
/-- Names, none twice, none INBOX; those ahead of them. -/
def areB (ah : List ByteArray) : List ByteArray → Bool
  | [] => true
  | x :: l => nmB x && !(x.toList == inbxB.toList) && !(Lib.containsS ah x) && areB (ah ++ [x]) l
def areN (l : List ByteArray) : Bool := areB [] l && !l.isEmpty
def formB (l : List ByteArray) : Bool := decide (flagsE l = 0) && decide (flagsL l = l) && decide ((partO l).length ≤ 8)
/-- What an event has, one thing or another. -/
inductive Pt
  | box | tto | first | room | name | body | names | uids | mark | marks | date
def holdsP (e : PE) : Pt → Bool
  | .box => numB e.bx
  | .tto => numB e.tt
  | .first => numB e.fi
  | .room => numB e.fi && numB (e.fi + (e.us.length : Int) - 1)
  | .name => nmB e.nm
  | .body => true
  | .names => decide (e.ns.length = e.bs.length) && areN e.ns && goOnB e.bs
  | .uids => riseN e.us
  | .mark => decide (e.ms.length = 1) && decide ((e.ms.getD 0 (0, [])).1 = e.fi) && formB (e.ms.getD 0 (0, [])).2
  | .marks => riseN (e.ms.map (·.1)) && e.ms.all (fun m => formB m.2)
  | .date => validB e.y e.mo e.d e.h e.mi e.s e.z
def dropP (e : PE) : Pt → PE
  | .box => { e with bx := 0 }
  | .tto => { e with tt := 0 }
  | .first => { e with fi := 0 }
  | .room => { e with fi := 0 }
  | .name => { e with nm := ⟨#[]⟩ }
  | .body => { e with bd := ⟨#[]⟩ }
  | .names => { e with ns := [], bs := [] }
  | .uids => { e with us := [] }
  | .mark => { e with ms := [] }
  | .marks => { e with ms := [] }
  | .date => { e with y := 0, mo := 0, d := 0, h := 0, mi := 0, s := 0, z := 0 }
/-- What each kind has. -/
def kindP : Nat → List Pt
  | 1 => [.names]
  | 2 => [.box]
  | 3 => [.box, .names]
  | 4 => [.box, .names]
  | 5 => [.box, .first, .mark, .date, .body]
  | 6 => [.box, .marks]
  | 7 => [.box, .uids]
  | 8 => [.box, .tto, .room, .uids]
  | 9 => [.box, .tto, .room, .uids]
  | 10 => [.name]
  | 11 => [.name]
  | _ => []
def bareE (e : PE) : Bool := decide (e.bx = 0) && decide (e.tt = 0) && decide (e.fi = 0) && e.nm.toList.isEmpty && e.ns.isEmpty && e.bs.isEmpty && e.us.isEmpty && e.ms.isEmpty && decide (e.y = 0 ∧ e.mo = 0 ∧ e.d = 0 ∧ e.h = 0 ∧ e.mi = 0 ∧ e.s = 0 ∧ e.z = 0) && e.bd.toList.isEmpty
def dropE (e : PE) (l : List Pt) : PE := l.foldl dropP e
def longE (e : PE) : Bool := decide (16 < e.ns.length) || decide (16 < e.bs.length) || decide (64 < e.us.length) || decide (64 < e.ms.length) || e.ms.any (fun m => decide (16 < m.2.length)) || decide (16384 < e.bd.size)
def rightE (e : PE) : Bool := decide (1 ≤ e.k) && decide (e.k ≤ 11) && decide (2 ≤ e.n) && numB e.n && (kindP e.k.toNat).all (holdsP e) && bareE (dropE e (kindP e.k.toNat))
/-- What Check answers. -/
def chkE (e : PE) : Int := if longE e = true then 2 else if rightE e = true then 0 else 110
theorem chk_zero {e : PE} (h : chkE e = 0) : longE e = false ∧ rightE e = true := by
  unfold chkE at h
  cases h1 : longE e with
  | true => rw [h1] at h; simp at h
  | false =>
    rw [h1] at h
    cases h2 : rightE e with
    | true => exact ⟨rfl, rfl⟩
    | false => rw [h2] at h; simp at h
theorem chk_bad {e : PE} (h1 : longE e = false) (h2 : rightE e = false) : chkE e = 110 := by
  unfold chkE
  rw [h1, h2]
  rfl
end Go.Proofs.YtbncaiocmklgnaaGreatDoor

/- event: any event in memory; numbers, lists that rise. -/
namespace Go.Proofs.YtbncaiocmklgnaaGreatDoor
open Go.RowKit Go.Lib

/-- A list of numbers in memory that was there. -/
def Ints (w : World) (v : Value) (l : List Int) : Prop :=
  (l = [] ∧ ∃ ao cap, v = .slice ao 0 cap) ∨ ∃ b off cap, v = .slice (some ⟨b, off, none⟩) l.length cap ∧ l.length ≤ 140737488355328 ∧ b < w.heap.size ∧ ∀ i, i < l.length → w.cell? ⟨b, off + i, none⟩ = some (.int .i64 (l.getD i 0))
theorem Ints.on {w w' : World} {v : Value} {l : List Int} (h : Ints w v l) (hb : Below w.heap.size w w') : Ints w' v l := by
  rcases h with h | ⟨b, off, cap, rfl, h0, h1, h2⟩
  · exact .inl h
  · refine .inr ⟨b, off, cap, rfl, h0, Nat.lt_of_lt_of_le h1 hb.size, fun i hi => ?_⟩
    rw [hb.cell (p := ⟨b, off + i, none⟩) h1]
    exact h2 i hi
theorem Ints.cells {w : World} {v : Value} {l : List Int} (h : Ints w v l) : ∃ ao cap, v = .slice ao l.length cap ∧ l.length ≤ 140737488355328 ∧ ∀ i, i < l.length → ∃ b off, ao = some ⟨b, off, none⟩ ∧ b < w.heap.size ∧ w.cell? ⟨b, off + i, none⟩ = some (.int .i64 (l.getD i 0)) := by
  rcases h with ⟨rfl, ao, cap, rfl⟩ | ⟨b, off, cap, rfl, h0, h1, h2⟩
  · exact ⟨ao, cap, rfl, by simp, fun i hi => by simp at hi⟩
  · exact ⟨_, cap, rfl, h0, fun i hi => ⟨b, off, rfl, h1, h2 i hi⟩⟩
/-- A list of marks in memory that was there. -/
def Mks (w : World) (v : Value) (l : List (Int × List ByteArray)) : Prop :=
  (l = [] ∧ ∃ ao cap, v = .slice ao 0 cap) ∨ ∃ b off cap, v = .slice (some ⟨b, off, none⟩) l.length cap ∧ l.length ≤ 140737488355328 ∧ b < w.heap.size ∧ ∀ i, i < l.length → ∃ fv, w.cell? ⟨b, off + i * 2, none⟩ = some (.int .i64 (l.getD i (0, [])).1) ∧ w.cell? ⟨b, off + i * 2 + 1, none⟩ = some fv ∧ Strs w fv (l.getD i (0, [])).2
theorem Mks.on {w w' : World} {v : Value} {l : List (Int × List ByteArray)} (h : Mks w v l) (hb : Below w.heap.size w w') : Mks w' v l := by
  rcases h with h | ⟨b, off, cap, rfl, h0, h1, h2⟩
  · exact .inl h
  · refine .inr ⟨b, off, cap, rfl, h0, Nat.lt_of_lt_of_le h1 hb.size, fun i hi => ?_⟩
    obtain ⟨fv, c0, c1, hs⟩ := h2 i hi
    exact ⟨fv, by rw [hb.cell (p := ⟨b, off + i * 2, none⟩) h1]; exact c0, by rw [hb.cell (p := ⟨b, off + i * 2 + 1, none⟩) h1]; exact c1, hs.on hb⟩
theorem Mks.cells {w : World} {v : Value} {l : List (Int × List ByteArray)} (h : Mks w v l) : ∃ ao cap, v = .slice ao l.length cap ∧ l.length ≤ 140737488355328 ∧ ∀ i, i < l.length → ∃ b off fv, ao = some ⟨b, off, none⟩ ∧ b < w.heap.size ∧ w.cell? ⟨b, off + i * 2, none⟩ = some (.int .i64 (l.getD i (0, [])).1) ∧ w.cell? ⟨b, off + i * 2 + 1, none⟩ = some fv ∧ Strs w fv (l.getD i (0, [])).2 := by
  rcases h with ⟨rfl, ao, cap, rfl⟩ | ⟨b, off, cap, rfl, h0, h1, h2⟩
  · exact ⟨ao, cap, rfl, by simp, fun i hi => by simp at hi⟩
  · refine ⟨_, cap, rfl, h0, fun i hi => ?_⟩
    obtain ⟨fv, c0, c1, hs⟩ := h2 i hi
    exact ⟨b, off, fv, rfl, h1, c0, c1, hs⟩
theorem isNum_any (n : Int) (w : World) : Calls Tryz.prog 46 #[.int .i64 n] w fun e w' => e = .returned (.bool (numB n)) ∧ w' = w := by
  by_cases h3 : 1 ≤ n
  · by_cases h2 : n < 4294967295
    · have h4 : decide (1 ≤ n) = true := decide_eq_true h3
      have h5 : numB n = true := by unfold numB; rw [h4, decide_eq_true h2]; rfl
      rw [h5]
      exact isNumber_any n w ⟨h3, h2⟩
    · have h4 : decide (1 ≤ n) = true := decide_eq_true h3
      have h6 : decide (n < 4294967295) = false := decide_eq_false h2
      have h5 : numB n = false := by unfold numB; rw [h4, h6]; rfl
      have h1 : ¬ n < 1 := by omega
      rw [h5]
      clear h5
      go_enter Tryz.func46, Tryz.ntmps46
      go_wp2
      go_ret
      exact ⟨rfl, rfl⟩
  · have h4 : decide (1 ≤ n) = false := decide_eq_false h3
    have h5 : numB n = false := by unfold numB; rw [h4]; rfl
    have h1 : n < 1 := by omega
    rw [h5]
    clear h5
    go_enter Tryz.func46, Tryz.ntmps46
    go_wp2
    go_ret
    exact ⟨rfl, rfl⟩
theorem itself_any (n : Int) (w : World) : Calls Tryz.prog 100 #[.int .i64 n] w fun e w' => e = .returned (.int .i64 n) ∧ w' = w := by
  go_enter Tryz.func100, Tryz.ntmps100
  go_wp2
  go_ret
  exact ⟨rfl, rfl⟩
theorem drop_consI (l : List Int) (k : Nat) (h : k < l.length) : l.drop k = l.getD k 0 :: l.drop (k + 1) := by
  rw [List.drop_eq_getElem_cons h, List.getD_eq_getElem?_getD, List.getElem?_eq_getElem h]
  rfl
theorem riseN_end {l : List Int} (h : riseB 0 l = true) (n : Nat) (hn : l.length = n) : riseN l = decide (0 < n) := by
  unfold riseN
  rw [h, Bool.true_and]
  cases l with
  | nil => simp at hn; subst hn; rfl
  | cons a r => simp at hn; rw [decide_eq_true (by omega)]; rfl
theorem riseN_no {l : List Int} (h : riseB 0 l = false) : riseN l = false := by unfold riseN; rw [h]; rfl
set_option maxHeartbeats 2000000 in
theorem riseI_any (v : Value) (l : List Int) (w : World) (h : Ints w v l) :
    Calls Tryz.prog 99 #[v, fnV 100 #[]] w fun e w' => e = .returned (.bool (riseN l)) ∧ w' = w := by
  obtain ⟨ao, cap, rfl, hbig, hc⟩ := h.cells
  have HC := Lib.hid hc
  obtain ⟨n, hn⟩ : ∃ n, l.length = n := ⟨_, rfl⟩
  have HN := Lib.hid hn
  rw [hn] at HC hbig ⊢
  have HI := Lib.hid itself_any
  have HQ := Lib.hid isNum_any
  have hbi : (n : Int) ≤ 140737488355328 := by omega
  clear h hc hn hbig
  go_enter Tryz.func99, Tryz.ntmps99
  go_wp2_with fail
  go_loopw [5, 11] (fun va vi wr => ∃ (k : Nat) (a : Int) (X : World), X = wr ∧ k ≤ n ∧ vi = .int .i64 k ∧ va = .int .i64 a ∧ riseB 0 l = riseB a (l.drop k) ∧ X = w) (fun _ i _ => n - (intOf i).toNat)
  case atStart => exact ⟨0, 0, _, rfl, Nat.zero_le _, rfl, rfl, rfl, rfl⟩
  case round =>
    obtain ⟨k, a, X, hX, hkn, rfl, rfl, hr, hw⟩ := hrel
    subst hX
    subst hw
    by_cases hlt : k < n
    · obtain ⟨b, off, hao, hbl, yc⟩ := HC.out k hlt
      subst hao
      have hk1 : (k : Int) < (n : Int) := by omega
      have hk0 : (0 : Int) ≤ (k : Int) := by omega
      have hk9 : (k : Int) ≤ 140737488355328 := by omega
      rw [drop_consI l k (by rw [HN.out]; exact hlt)] at hr
      clear hbl
      generalize l.getD k 0 = x at *
      have HR : Hid (riseB 0 l = (decide (a < x) && numB x && riseB x (l.drop (k + 1)))) := Lib.hid hr
      clear hr
      by_cases hax : a < x
      · have hle : ¬ x ≤ a := by omega
        have hd1 : decide (x ≤ a) = false := decide_eq_false hle
        cases hnum : numB x with
        | true =>
          have HQx : Hid (∀ W, Calls Tryz.prog 46 #[.int .i64 x] W fun e w' => e = .returned (.bool true) ∧ w' = W) := Lib.hid (fun W => by have h := HQ.out x W; rw [hnum] at h; exact h)
          have HNx : Hid (riseB 0 l = riseB x (l.drop (k + 1))) := Lib.hid (by rw [HR.out, decide_eq_true hax, hnum]; rfl)
          clear hnum
          go_wp2_with (first | (go_at_call 100; refine (HI.out _ _).mono ?_; rintro e w3 ⟨rfl, hw3⟩; subst w3) | (go_at_call 46; refine (HQx.out _).mono ?_; rintro e w4 ⟨rfl, hw4⟩; subst w4))
          go_roundw
          case rel => exact ⟨k + 1, x, _, rfl, hlt, by go_num, rfl, HNx.out, rfl⟩
          case measure => simp [intOf]; omega
        | false =>
          have HQx : Hid (∀ W, Calls Tryz.prog 46 #[.int .i64 x] W fun e w' => e = .returned (.bool false) ∧ w' = W) := Lib.hid (fun W => by have h := HQ.out x W; rw [hnum] at h; exact h)
          have HNx : Hid (riseN l = false) := Lib.hid (riseN_no (by rw [HR.out, hnum, Bool.and_false, Bool.false_and]))
          clear hnum
          go_wp2_with (first | (go_at_call 100; refine (HI.out _ _).mono ?_; rintro e w3 ⟨rfl, hw3⟩; subst w3) | (go_at_call 46; refine (HQx.out _).mono ?_; rintro e w4 ⟨rfl, hw4⟩; subst w4))
          go_ret
          exact ⟨by rw [HNx.out]; rfl, rfl⟩
      · have hle : x ≤ a := by omega
        have hd1 : decide (x ≤ a) = true := decide_eq_true hle
        have HNx : Hid (riseN l = false) := Lib.hid (riseN_no (by rw [HR.out, decide_eq_false hax, Bool.false_and, Bool.false_and]))
        go_wp2_with (first | (go_at_call 100; refine (HI.out _ _).mono ?_; rintro e w3 ⟨rfl, hw3⟩; subst w3))
        go_ret
        exact ⟨by rw [HNx.out]; rfl, rfl⟩
    · have hk1 : ¬ (k : Int) < (n : Int) := by omega
      have HNx : Hid (riseN l = decide (0 < n)) := Lib.hid (riseN_end (by rw [hr, List.drop_of_length_le (by rw [HN.out]; omega)]; rfl) n HN.out)
      clear hr
      go_wp2_with fail
      go_ret
      exact ⟨by rw [HNx.out]; rfl, rfl⟩
end Go.Proofs.YtbncaiocmklgnaaGreatDoor

/- event: marks whose uids rise; flags in their form; names. -/
namespace Go.Proofs.YtbncaiocmklgnaaGreatDoor
open Go.RowKit Go.Lib

theorem uidOf_any (u : Int) (a : Option Addr) (l c : Nat) (w : World) : Calls Tryz.prog 126 #[.agg #[.int .i64 u, .slice a l c]] w fun e w' => e = .returned (.int .i64 u) ∧ Below w.heap.size w w' := by
  go_enter Tryz.func126, Tryz.ntmps126
  go_wp2
  go_ret
  exact ⟨rfl, (Below.refl _ _).alloc (Nat.le_refl _) _⟩
theorem drop_consU (l : List (Int × List ByteArray)) (k : Nat) (h : k < l.length) : (l.map (·.1)).drop k = (l.getD k (0, [])).1 :: (l.map (·.1)).drop (k + 1) := by
  rw [drop_consI _ k (by rw [List.length_map]; exact h)]
  congr 1
  rw [List.getD_eq_getElem?_getD, List.getD_eq_getElem?_getD, List.getElem?_map, List.getElem?_eq_getElem h]
  rfl
set_option maxHeartbeats 4000000 in
theorem riseM_any (v : Value) (l : List (Int × List ByteArray)) (w : World) (h : Mks w v l) :
    Calls Tryz.prog 125 #[v, fnV 126 #[]] w fun e w' => e = .returned (.bool (riseN (l.map (·.1)))) ∧ Below w.heap.size w w' := by
  obtain ⟨ao, cap, rfl, hbig, hc⟩ := h.cells
  have HC := Lib.hid hc
  obtain ⟨n, hn⟩ : ∃ n, l.length = n := ⟨_, rfl⟩
  have HN := Lib.hid hn
  rw [hn] at HC hbig ⊢
  obtain ⟨us, hus⟩ : ∃ us, l.map (·.1) = us := ⟨_, rfl⟩
  have HU := Lib.hid hus
  have HNu : Hid (us.length = n) := Lib.hid (by rw [← hus, List.length_map, hn])
  rw [hus]
  have HI := Lib.hid uidOf_any
  have HQ := Lib.hid isNum_any
  have hbi : (n : Int) ≤ 140737488355328 := by omega
  clear h hc hn hbig hus
  go_enter Tryz.func125, Tryz.ntmps125
  go_wp2_with fail
  go_loopw [5, 11] (fun va vi wr => ∃ (k : Nat) (a : Int) (X : World), X = wr ∧ k ≤ n ∧ vi = .int .i64 k ∧ va = .int .i64 a ∧ riseB 0 us = riseB a (us.drop k) ∧ Below w.heap.size w X) (fun _ i _ => n - (intOf i).toNat)
  case atStart => exact ⟨0, 0, _, rfl, Nat.zero_le _, rfl, rfl, rfl, Below.refl _ _⟩
  case round =>
    obtain ⟨k, a, X, hX, hkn, rfl, rfl, hr, hb⟩ := hrel
    subst hX
    have HX := Lib.hid hb
    by_cases hlt : k < n
    · obtain ⟨b, off, fv, hao, hbl, yc0, yc1, hst⟩ := HC.out k hlt
      subst hao
      obtain ⟨fa, fc, hfv⟩ := hst.shape
      generalize (l.getD k (0, [])).2.length = fl at hfv
      subst hfv
      have hk1 : (k : Int) < (n : Int) := by omega
      have hk0 : (0 : Int) ≤ (k : Int) := by omega
      have hk9 : (k : Int) ≤ 140737488355328 := by omega
      have e := drop_consU l k (by rw [HN.out]; exact hlt)
      rw [HU.out] at e
      rw [e] at hr
      have c0 : X.cell? ⟨b, off + k * 2, none⟩ = some (.int .i64 (l.getD k (0, [])).1) := by rw [hb.cell (p := ⟨b, off + k * 2, none⟩) hbl]; exact yc0
      have c1 : X.cell? ⟨b, off + k * 2 + 1, none⟩ = some (.slice fa fl fc) := by rw [hb.cell (p := ⟨b, off + k * 2 + 1, none⟩) hbl]; exact yc1
      clear hbl e yc0 yc1 hst hb
      generalize (l.getD k (0, [])).1 = x at *
      have HR : Hid (riseB 0 us = (decide (a < x) && numB x && riseB x (us.drop (k + 1)))) := Lib.hid hr
      clear hr
      by_cases hax : a < x
      · have hle : ¬ x ≤ a := by omega
        have hd1 : decide (x ≤ a) = false := decide_eq_false hle
        cases hnum : numB x with
        | true =>
          have HQx : Hid (∀ W, Calls Tryz.prog 46 #[.int .i64 x] W fun e w' => e = .returned (.bool true) ∧ w' = W) := Lib.hid (fun W => by have h := HQ.out x W; rw [hnum] at h; exact h)
          have HNx : Hid (riseB 0 us = riseB x (us.drop (k + 1))) := Lib.hid (by rw [HR.out, decide_eq_true hax, hnum]; rfl)
          clear hnum
          go_wp2_with (first | (go_at_call 126; refine (HI.out _ _ _ _ _).mono ?_; rintro e w3 ⟨rfl, hw3⟩; have H3 := Lib.hid hw3; clear hw3) | (go_at_call 46; refine (HQx.out _).mono ?_; rintro e w4 ⟨rfl, hw4⟩; subst w4))
          go_roundw
          case rel => exact ⟨k + 1, x, _, rfl, hlt, by go_num, rfl, HNx.out, (HX.out.alloc HX.out.size _).trans (H3.out.mono (HX.out.alloc HX.out.size _).size)⟩
          case measure => simp [intOf]; omega
        | false =>
          have HQx : Hid (∀ W, Calls Tryz.prog 46 #[.int .i64 x] W fun e w' => e = .returned (.bool false) ∧ w' = W) := Lib.hid (fun W => by have h := HQ.out x W; rw [hnum] at h; exact h)
          have HNx : Hid (riseN us = false) := Lib.hid (riseN_no (by rw [HR.out, hnum, Bool.and_false, Bool.false_and]))
          clear hnum
          go_wp2_with (first | (go_at_call 126; refine (HI.out _ _ _ _ _).mono ?_; rintro e w3 ⟨rfl, hw3⟩; have H3 := Lib.hid hw3; clear hw3) | (go_at_call 46; refine (HQx.out _).mono ?_; rintro e w4 ⟨rfl, hw4⟩; subst w4))
          go_ret
          exact ⟨by rw [HNx.out]; rfl, (HX.out.alloc HX.out.size _).trans (H3.out.mono (HX.out.alloc HX.out.size _).size)⟩
      · have hle : x ≤ a := by omega
        have hd1 : decide (x ≤ a) = true := decide_eq_true hle
        have HNx : Hid (riseN us = false) := Lib.hid (riseN_no (by rw [HR.out, decide_eq_false hax, Bool.false_and, Bool.false_and]))
        go_wp2_with (go_at_call 126; refine (HI.out _ _ _ _ _).mono ?_; rintro e w3 ⟨rfl, hw3⟩; have H3 := Lib.hid hw3; clear hw3)
        go_ret
        exact ⟨by rw [HNx.out]; rfl, (HX.out.alloc HX.out.size _).trans (H3.out.mono (HX.out.alloc HX.out.size _).size)⟩
    · have hk1 : ¬ (k : Int) < (n : Int) := by omega
      have HNx : Hid (riseN us = decide (0 < n)) := Lib.hid (riseN_end (by rw [hr, List.drop_of_length_le (by rw [HNu.out]; omega)]; rfl) n HNu.out)
      clear hr
      go_wp2_with fail
      go_ret
      exact ⟨by rw [HNx.out]; rfl, HX.out⟩
/-- Equal, of any two lists of texts. -/
theorem equalS_any {w : World} {v1 v2 : Value} {xs ys : List ByteArray} (h1 : Strs w v1 xs) (h2 : Strs w v2 ys) (l1 : xs.length ≤ 140737488355328) (l2 : ys.length ≤ 140737488355328) :
    Calls Tryz.prog 136 #[v1, v2] w fun e w' => e = .returned (.bool (decide (xs = ys))) ∧ Below w.heap.size w w' := by
  obtain ⟨a2, c2, e2⟩ := h2.shape
  obtain ⟨a1, c1, e1⟩ := h1.shape
  by_cases h0 : xs = []
  · subst h0
    rw [e1, e2]
    refine (Tryz.slices_Equal_string_empty a1 a2 c1 ys.length c2 w (by omega)).mono ?_
    rintro e w' ⟨rfl, rfl⟩
    refine ⟨?_, Below.refl _ _⟩
    congr 2
    cases ys with
    | nil => rfl
    | cons y r => simp
  by_cases hl : xs.length = ys.length
  · rcases h1 with ⟨e, _⟩ | ⟨b1, o1, c1', e1', _, _, hc1⟩
    · exact absurd e h0
    rcases h2 with ⟨e, _⟩ | ⟨b2, o2, c2', e2', _, _, hc2⟩
    · rw [e] at hl
      exact absurd (List.eq_nil_of_length_eq_zero hl) h0
    rw [e1', e2']
    refine (Tryz.slices_Equal_string b1 o1 xs.length c1' b2 o2 ys.length c2' xs ys w (Nat.le_refl _) (Nat.le_refl _) (by omega) (by omega) hc1 hc2).mono ?_
    rintro e w' ⟨rfl, q, rfl⟩
    rw [List.take_length, List.take_length]
    exact ⟨rfl, below_drewN (Below.refl _ _) q⟩
  · rw [e1, e2]
    refine (Tryz.slices_Equal_string_lens a1 a2 xs.length c1 ys.length c2 w hl).mono ?_
    rintro e w' ⟨rfl, rfl⟩
    refine ⟨?_, Below.refl _ _⟩
    rw [decide_eq_false (fun e => hl (by rw [e]))]
theorem partO_len (l : List ByteArray) : (partO l).length ≤ l.length := List.length_filter_le _ _
set_option maxHeartbeats 4000000 in
theorem isForm_any (v : Value) (l : List ByteArray) (w : World) (he : EnvF w) (h : Strs w v l) (hl : l.length ≤ 16) (hz : ∀ i, i < l.length → (l.getD i ByteArray.empty).size ≤ 140737488355328) :
    Calls Tryz.prog 112 #[v] w fun e w' => e = .returned (.bool (formB l)) ∧ Below w.heap.size w w' := by
  have HF := Lib.hid (Flags_any v l w he h hz)
  have HP : Hid (∀ W, Below w.heap.size w W → Calls Tryz.prog 18 #[v] W fun e w' => ∃ k a c, e = .returned (.tuple #[k, .slice a (partO l).length c]) ∧ Below W.heap.size W w') := Lib.hid (fun W hW => by
    refine (parted_any v l W (he.on hW) (h.on hW) (by omega) (fun i hi => by have := hz i hi; unfold maxLen; omega)).mono ?_
    rintro e w' ⟨vo, rfl, ho, _⟩
    obtain ⟨a, c, rfl⟩ := ho.shape
    exact ⟨_, a, c, rfl, ho.below⟩)
  have HS := Lib.hid h
  obtain ⟨ao, cap, rfl⟩ := h.shape
  obtain ⟨m, hm⟩ : ∃ m, (partO l).length = m := ⟨_, rfl⟩
  have hfl : (flagsL l).length ≤ 1000 := by
    unfold flagsL
    split
    · unfold formT keysT
      rw [List.length_append, List.length_map]
      have h1 := sysTo_len (partS l) 5
      have h2 := compactT_length (sortT ((partO l).map toTx))
      rw [sortT_length, List.length_map] at h2
      have h3 := partO_len l
      omega
    · simp
  have HL := Lib.hid hfl
  have HLl := Lib.hid hl
  rw [hm] at HP
  have HB : Hid (formB l = (decide (flagsE l = 0) && decide (flagsL l = l) && decide (m ≤ 8))) := Lib.hid (by unfold formB; rw [hm])
  obtain ⟨n, hn⟩ : ∃ n, l.length = n := ⟨_, rfl⟩
  have hmn : (m : Int) ≤ 16 := by have := partO_len l; omega
  rw [hn] at HP HF HS ⊢
  clear hm he h hz hl hfl hn
  by_cases hE : flagsE l = 0
  · rw [hE] at HF
    have HE0 := Lib.hid hE
    clear hE
    obtain ⟨fs, hfs⟩ : ∃ fs, flagsL l = fs := ⟨_, rfl⟩
    rw [hfs] at HF HB HL
    clear hfs
    obtain ⟨q, hq⟩ : ∃ q, decide (fs = l) = q := ⟨_, rfl⟩
    have HEq : Hid (∀ W a k c, Below w.heap.size w W → k = fs.length → Strs W (.slice a k c) fs → Calls Tryz.prog 136 #[.slice a k c, .slice ao n cap] W fun e w' => e = .returned (.bool q) ∧ Below W.heap.size W w') := Lib.hid (fun W a k c hW _ hS => by
      have h := equalS_any hS (HS.out.on hW) (by have := HL.out; omega) (by have := HLl.out; omega)
      rw [hq] at h
      exact h)
    rw [hq] at HB
    clear hq
    cases q with
    | true =>
      by_cases hm8 : m ≤ 8
      · have hmi : (m : Int) ≤ 8 := by omega
        have hmd : decide ((m : Int) ≤ 8) = true := decide_eq_true hmi
        have HR : Hid (formB l = true) := Lib.hid (by rw [HB.out, HE0.out, decide_eq_true hm8]; rfl)
        go_enter Tryz.func112, Tryz.ntmps112
        go_wp2_with (first | (go_at_call 7; refine HF.out.mono ?_; rintro e w1 ⟨vo, rfl, ho⟩; obtain ⟨a1, c1, hv⟩ := ho.shape; subst hv; have H1 := Lib.hid ho.below; have HS1 := Lib.hid (ho.strs (by have := HL.out; omega)); clear ho) | (go_at_call 18; refine (HP.out _ H1.out).mono ?_; rintro e w2 ⟨k2, a2, c2, rfl, hb2⟩; have H2 := Lib.hid (H1.out.trans (hb2.mono H1.out.size)); have HS2 := Lib.hid (HS1.out.on hb2); clear hb2) | (go_at_call 136; refine (HEq.out _ _ _ _ H2.out rfl HS2.out).mono ?_; rintro e w3 ⟨rfl, hb3⟩; have H3 := Lib.hid (H2.out.trans (hb3.mono H2.out.size)); clear hb3))
        go_ret
        exact ⟨by rw [HR.out]; rfl, H3.out⟩
      · have hmi : ¬ (m : Int) ≤ 8 := by omega
        have hmd : decide ((m : Int) ≤ 8) = false := decide_eq_false hmi
        have HR : Hid (formB l = false) := Lib.hid (by rw [HB.out, decide_eq_false hm8, Bool.and_false])
        go_enter Tryz.func112, Tryz.ntmps112
        go_wp2_with (first | (go_at_call 7; refine HF.out.mono ?_; rintro e w1 ⟨vo, rfl, ho⟩; obtain ⟨a1, c1, hv⟩ := ho.shape; subst hv; have H1 := Lib.hid ho.below; have HS1 := Lib.hid (ho.strs (by have := HL.out; omega)); clear ho) | (go_at_call 18; refine (HP.out _ H1.out).mono ?_; rintro e w2 ⟨k2, a2, c2, rfl, hb2⟩; have H2 := Lib.hid (H1.out.trans (hb2.mono H1.out.size)); have HS2 := Lib.hid (HS1.out.on hb2); clear hb2) | (go_at_call 136; refine (HEq.out _ _ _ _ H2.out rfl HS2.out).mono ?_; rintro e w3 ⟨rfl, hb3⟩; have H3 := Lib.hid (H2.out.trans (hb3.mono H2.out.size)); clear hb3))
        go_ret
        exact ⟨by rw [HR.out]; rfl, H3.out⟩
    | false =>
      have HR : Hid (formB l = false) := Lib.hid (by rw [HB.out, Bool.and_false, Bool.false_and])
      go_enter Tryz.func112, Tryz.ntmps112
      go_wp2_with (first | (go_at_call 7; refine HF.out.mono ?_; rintro e w1 ⟨vo, rfl, ho⟩; obtain ⟨a1, c1, hv⟩ := ho.shape; subst hv; have H1 := Lib.hid ho.below; have HS1 := Lib.hid (ho.strs (by have := HL.out; omega)); clear ho) | (go_at_call 18; refine (HP.out _ H1.out).mono ?_; rintro e w2 ⟨k2, a2, c2, rfl, hb2⟩; have H2 := Lib.hid (H1.out.trans (hb2.mono H1.out.size)); have HS2 := Lib.hid (HS1.out.on hb2); clear hb2) | (go_at_call 136; refine (HEq.out _ _ _ _ H2.out rfl HS2.out).mono ?_; rintro e w3 ⟨rfl, hb3⟩; have H3 := Lib.hid (H2.out.trans (hb3.mono H2.out.size)); clear hb3))
      go_ret
      exact ⟨by rw [HR.out]; rfl, H3.out⟩
  · have hne : (flagsE l == 0) = false := beq_eq_false_iff_ne.2 hE
    have HR : Hid (formB l = false) := Lib.hid (by rw [HB.out, decide_eq_false hE, Bool.false_and, Bool.false_and])
    obtain ⟨eE, heE⟩ : ∃ eE, flagsE l = eE := ⟨_, rfl⟩
    rw [heE] at HF hE hne
    clear heE
    go_enter Tryz.func112, Tryz.ntmps112
    go_wp2_with (first | (go_at_call 7; refine HF.out.mono ?_; rintro e w1 ⟨vo, rfl, ho⟩; obtain ⟨a1, c1, hv⟩ := ho.shape; subst hv; have H1 := Lib.hid ho.below; clear ho) | (go_at_call 18; refine (HP.out _ H1.out).mono ?_; rintro e w2 ⟨k2, a2, c2, rfl, hb2⟩; have H2 := Lib.hid (H1.out.trans (hb2.mono H1.out.size)); clear hb2))
    go_ret
    exact ⟨by rw [HR.out]; rfl, H2.out⟩
end Go.Proofs.YtbncaiocmklgnaaGreatDoor

/- event: names of new mailboxes; numbers that go on (c11gen.py writes the regions). -/
namespace Go.Proofs.YtbncaiocmklgnaaGreatDoor
open Go.RowKit Go.Lib

theorem isNm_any (s : ByteArray) (w : World) (he : Env w) : Calls Tryz.prog 71 #[.string s] w fun e w' => e = .returned (.bool (nmB s)) ∧ Below w.heap.size w w' := by
  by_cases hc : (wire (L s)).2 = 0
  · rw [show nmB s = true from decide_eq_true hc]
    exact evName_any s w he hc
  · have HW := Lib.hid (Wire_any s w he)
    have HR : Hid (nmB s = false) := Lib.hid (decide_eq_false hc)
    have hne : ((wire (L s)).2 == 0) = false := beq_eq_false_iff_ne.2 hc
    clear he
    generalize (wire (L s)).2 = c at *
    go_enter Tryz.func71, Tryz.ntmps71
    go_wp2_with (go_at_call 93; refine HW.out.mono ?_; rintro e w1 ⟨rfl, hb⟩; have HB := Lib.hid hb; clear hb)
    go_ret
    exact ⟨by rw [HR.out]; first | rfl | simp [hc], HB.out⟩
theorem drop_consS (l : List ByteArray) (k : Nat) (h : k < l.length) : l.drop k = l.getD k ByteArray.empty :: l.drop (k + 1) := by
  rw [List.drop_eq_getElem_cons h, List.getD_eq_getElem?_getD, List.getElem?_eq_getElem h]
  rfl
theorem take_snocS (l : List ByteArray) (k : Nat) (h : k < l.length) : l.take (k + 1) = l.take k ++ [l.getD k ByteArray.empty] := by
  rw [List.take_add_one, List.getElem?_eq_getElem h, List.getD_eq_getElem?_getD, List.getElem?_eq_getElem h]
  rfl
theorem areN_end {l : List ByteArray} (h : areB [] l = true) (n : Nat) (hn : l.length = n) : areN l = decide (0 < n) := by
  unfold areN
  rw [h, Bool.true_and]
  cases l with
  | nil => simp at hn; subst hn; rfl
  | cons a r => simp at hn; rw [decide_eq_true (by omega)]; rfl
theorem areN_no {l : List ByteArray} (h : areB [] l = false) : areN l = false := by unfold areN; rw [h]; rfl
set_option maxHeartbeats 4000000 in
theorem areNames_any (v : Value) (l : List ByteArray) (w : World) (he : Env w) (h : Strs w v l) (hcap : ∀ a n c, v = .slice a n c → n ≤ c) (hbig : l.length ≤ 140737488355328) :
    Calls Tryz.prog 106 #[v] w fun e w' => e = .returned (.bool (areN l)) ∧ Below w.heap.size w w' := by
  obtain ⟨ao, cap, rfl, hc⟩ := h.cells
  have hcap2 := hcap _ _ _ rfl
  have HC := Lib.hid hc
  obtain ⟨n, hn⟩ : ∃ n, l.length = n := ⟨_, rfl⟩
  have HN := Lib.hid hn
  rw [hn] at HC hbig hcap2 ⊢
  have HNm : Hid (∀ s W, Below w.heap.size w W → Calls Tryz.prog 71 #[.string s] W fun e w' => e = .returned (.bool (nmB s)) ∧ Below W.heap.size W w') := Lib.hid (fun s W hW => isNm_any s W (he.on hW))
  have hbi : (n : Int) ≤ 140737488355328 := by omega
  clear h hc hn hbig hcap he
  go_enter Tryz.func106, Tryz.ntmps106
  go_wp2_with fail
  go_loopw [7] (fun vi wr => ∃ (k : Nat) (X : World), X = wr ∧ k ≤ n ∧ vi = .int .i64 k ∧ areB [] l = areB (l.take k) (l.drop k) ∧ Below w.heap.size w X) (fun i _ => n - (intOf i).toNat)
  case atStart => exact ⟨0, _, rfl, Nat.zero_le _, rfl, rfl, Below.refl _ _⟩
  case round =>
    obtain ⟨k, X, hX, hkn, rfl, hr, hb⟩ := hrel
    subst hX
    have HX := Lib.hid hb
    by_cases hlt : k < n
    · obtain ⟨b, off, hao, hbl, yc⟩ := HC.out k hlt
      subst hao
      have hk1 : (k : Int) < (n : Int) := by omega
      have hk0 : (0 : Int) ≤ (k : Int) := by omega
      have hk9 : (k : Int) ≤ 140737488355328 := by omega
      have hkc : (k : Int) ≤ (cap : Int) := by omega
      rw [drop_consS l k (by rw [HN.out]; exact hlt)] at hr
      have yx : X.cell? ⟨b, off + k, none⟩ = some (.string (l.getD k ByteArray.empty)) := by rw [hb.cell (p := ⟨b, off + k, none⟩) hbl]; exact yc
      have HCt : Hid (∀ W c, Below w.heap.size w W → Calls Tryz.prog 135 #[.slice (some ⟨b, off, none⟩) k c, .string (l.getD k ByteArray.empty)] W fun e w' => e = .returned (.bool (Lib.containsS (l.take k) (l.getD k ByteArray.empty))) ∧ w' = W) := Lib.hid (fun W c hW => Tryz.slices_Contains_string b off k c l _ W (by rw [HN.out]; omega) (by omega) (fun j hj => by
        obtain ⟨b', off', e, hl', hc'⟩ := HC.out j (by rw [HN.out] at hj; exact hj)
        cases e
        rw [hW.cell (p := ⟨b, off + j, none⟩) hl']
        exact hc'))
      have HNk : Hid (∀ W, Below w.heap.size w W → Calls Tryz.prog 71 #[.string (l.getD k ByteArray.empty)] W fun e w' => e = .returned (.bool (nmB (l.getD k ByteArray.empty))) ∧ Below W.heap.size W w') := Lib.hid (fun W hW => HNm.out _ W hW)
      have HTk := Lib.hid (take_snocS l k (by rw [HN.out]; exact hlt))
      clear hbl yc hb
      generalize hxe : l.getD k ByteArray.empty = x at *
      clear hxe
      rw [areB] at hr
      have he2 : (x.toList == ByteArray.toList ⟨#[73, 78, 66, 79, 88]⟩) = (x.toList == inbxB.toList) := rfl
      have he3 : (x.toList == [73, 78, 66, 79, 88]) = (x.toList == inbxB.toList) := by
        have e : inbxB.toList = [73, 78, 66, 79, 88] := by rw [Lib.toList_data]; rfl
        rw [e]
      generalize Lib.containsS (l.take k) x = q3 at *
      generalize nmB x = q1 at *
      generalize (x.toList == inbxB.toList) = q2 at *
      have HR : Hid (areB [] l = (q1 && !q2 && !q3 && areB (l.take k ++ [x]) (l.drop (k + 1)))) := Lib.hid hr
      clear hr
      cases q1 with
      | false =>
        have HNx : Hid (areN l = false) := Lib.hid (areN_no (by rw [HR.out]; rfl))
        go_wp2_with (first | (go_at_call 71; refine (HNk.out _ HX.out).mono ?_; rintro e w3 ⟨rfl, hb3⟩; have H3 := Lib.hid (HX.out.trans (hb3.mono HX.out.size)); clear hb3))
        go_ret
        exact ⟨by rw [HNx.out]; rfl, H3.out⟩
      | true =>
        cases q2 with
        | true =>
          have HNx : Hid (areN l = false) := Lib.hid (areN_no (by rw [HR.out]; rfl))
          go_wp2_with (first | (go_at_call 71; refine (HNk.out _ HX.out).mono ?_; rintro e w3 ⟨rfl, hb3⟩; have H3 := Lib.hid (HX.out.trans (hb3.mono HX.out.size)); clear hb3))
          go_ret
          exact ⟨by rw [HNx.out]; rfl, H3.out⟩
        | false =>
          cases q3 with
          | true =>
            have HNx : Hid (areN l = false) := Lib.hid (areN_no (by rw [HR.out]; rfl))
            go_wp2_with (first | (go_at_call 71; refine (HNk.out _ HX.out).mono ?_; rintro e w3 ⟨rfl, hb3⟩; have H3 := Lib.hid (HX.out.trans (hb3.mono HX.out.size)); clear hb3) | (go_at_call 135; refine (HCt.out _ _ H3.out).mono ?_; rintro e w4 ⟨rfl, hw4⟩; subst w4))
            go_ret
            exact ⟨by rw [HNx.out]; rfl, H3.out⟩
          | false =>
            have HNx : Hid (areB [] l = areB (l.take (k + 1)) (l.drop (k + 1))) := Lib.hid (by rw [HR.out, HTk.out]; rfl)
            go_wp2_with (first | (go_at_call 71; refine (HNk.out _ HX.out).mono ?_; rintro e w3 ⟨rfl, hb3⟩; have H3 := Lib.hid (HX.out.trans (hb3.mono HX.out.size)); clear hb3) | (go_at_call 135; refine (HCt.out _ _ H3.out).mono ?_; rintro e w4 ⟨rfl, hw4⟩; subst w4))
            go_roundw
            case rel => exact ⟨k + 1, _, rfl, hlt, by go_num, HNx.out, H3.out⟩
            case measure => simp [intOf]; omega
    · have hk1 : ¬ (k : Int) < (n : Int) := by omega
      have HNx : Hid (areN l = decide (0 < n)) := Lib.hid (areN_end (by rw [hr, List.drop_of_length_le (by rw [HN.out]; omega)]; rfl) n HN.out)
      clear hr hb
      go_wp2_with fail
      go_ret
      exact ⟨by rw [HNx.out]; rfl, HX.out⟩
theorem rise_num {l : List Int} : ∀ a, riseB a l = true → ∀ x, x ∈ l → 1 ≤ x ∧ x < 4294967295 := by
  induction l with
  | nil => intro a _ x hx; cases hx
  | cons y r ih =>
    intro a h x hx
    rw [riseB, Bool.and_eq_true, Bool.and_eq_true] at h
    rcases List.mem_cons.1 hx with rfl | hx
    · have := h.1.2
      unfold numB at this
      rw [Bool.and_eq_true, decide_eq_true_iff, decide_eq_true_iff] at this
      exact this
    · exact ih y h.2 x hx
theorem getD_memI (l : List Int) (k : Nat) (h : k < l.length) : l.getD k 0 ∈ l := by
  rw [List.getD_eq_getElem?_getD, List.getElem?_eq_getElem h]
  exact List.getElem_mem h
set_option maxHeartbeats 4000000 in
theorem goOn_any (v : Value) (l : List Int) (w : World) (h : Ints w v l) :
    Calls Tryz.prog 107 #[v] w fun e w' => e = .returned (.bool (goOnB l)) ∧ Below w.heap.size w w' := by
  have HR : Hid (∀ W, Below w.heap.size w W → Calls Tryz.prog 99 #[v, fnV 100 #[]] W fun e w' => e = .returned (.bool (riseN l)) ∧ w' = W) := Lib.hid (fun W hW => riseI_any v l W (h.on hW))
  obtain ⟨ao, cap, rfl, hbig, hc⟩ := h.cells
  cases hr : riseN l with
  | false =>
    have HG : Hid (goOnB l = false) := Lib.hid (by unfold goOnB; rw [hr]; rfl)
    have HR2 : Hid (Calls Tryz.prog 99 #[.slice ao l.length cap, fnV 100 #[]] w.drew fun e w' => e = .returned (.bool false) ∧ w' = w.drew) := Lib.hid (by have h := HR.out _ (Below.refl _ _).drew; rw [hr] at h; exact h)
    clear hr hc h hbig HR
    generalize l.length = n at *
    go_enter Tryz.func107, Tryz.ntmps107
    go_upto_region 1 with fail
    --R goOnF--
    refine wp_region_N 17 (fun X => X = w.drew) (by kernel_rfl) ?_
    refine wpAnyN_take (i := 0) (oi := { dst := some 3, op := Go.Op.move (Go.Operand.tmp 0), type := 30, pos := "kinds.go:248", after := #[], guard := none }) (oL := { dst := some 20, op := Go.Op.pick (Go.Operand.tmp 5) (Go.Operand.tmp 19) (Go.Operand.const (Go.Value.bool false)), type := 4, pos := "kinds.go:248", after := #[{ on := 2, ground := Go.Ground.data }, { on := 16, ground := Go.Ground.data }], guard := none }) (v := .slice ao n cap) rfl rfl (by kernel_rfl) (by kernel_rfl) (by kernel_rfl) (by kernel_rfl) (fun _ _ _ h => h) (Or.inl ⟨by kernel_rfl, ?_⟩) rfl ?_
    · (intro X hX; subst hX <;> (go_simp; try (with_reducible rfl)))
    (try simp only [Act.put, List.setIfInBounds_toArray, List.set_cons_zero, List.set_cons_succ])
    refine wpAnyN_one (i := 1) (o := { dst := some 4, op := Go.Op.call { callee := Go.Callee.value (Go.Operand.func 99), args := #[Go.Operand.tmp 3, Go.Operand.func 100], argTypes := #[30, 115] }, type := 4, pos := "kinds.go:248", after := #[{ on := 0, ground := Go.Ground.data }], guard := none }) (by kernel_rfl) rfl (fun K hK => ?_)
    go_simp
    refine HR2.out.mono ?_
    rintro e w3 ⟨rfl, hw3⟩
    subst w3
    refine hK.out _ _ (fun _ => rfl) ?_
    clear hK K
    (try simp only [Act.put, List.setIfInBounds_toArray, List.set_cons_zero, List.set_cons_succ])
    refine wpAnyN_take (i := 2) (oi := { dst := some 5, op := Go.Op.move (Go.Operand.tmp 4), type := 4, pos := "kinds.go:248", after := #[{ on := 1, ground := Go.Ground.data }, { on := 1, ground := Go.Ground.chain }], guard := none }) (oL := { dst := some 20, op := Go.Op.pick (Go.Operand.tmp 5) (Go.Operand.tmp 19) (Go.Operand.const (Go.Value.bool false)), type := 4, pos := "kinds.go:248", after := #[{ on := 2, ground := Go.Ground.data }, { on := 16, ground := Go.Ground.data }], guard := none }) (v := .bool false) rfl rfl (by kernel_rfl) (by kernel_rfl) (by kernel_rfl) (by kernel_rfl) (fun _ _ _ h => h) (Or.inl ⟨by kernel_rfl, ?_⟩) rfl ?_
    · (intro X hX; subst hX <;> (go_simp; try (with_reducible rfl)))
    (try simp only [Act.put, List.setIfInBounds_toArray, List.set_cons_zero, List.set_cons_succ])
    refine wpAnyN_take (i := 3) (oi := { dst := some 6, op := Go.Op.move (Go.Operand.tmp 0), type := 30, pos := "kinds.go:248", after := #[{ on := 2, ground := Go.Ground.guard }], guard := some (2, true) }) (oL := { dst := some 20, op := Go.Op.pick (Go.Operand.tmp 5) (Go.Operand.tmp 19) (Go.Operand.const (Go.Value.bool false)), type := 4, pos := "kinds.go:248", after := #[{ on := 2, ground := Go.Ground.data }, { on := 16, ground := Go.Ground.data }], guard := none }) (v := undef) rfl rfl (by kernel_rfl) (by kernel_rfl) (by kernel_rfl) (by kernel_rfl) (fun _ _ _ h => h) (Or.inr ⟨by kernel_rfl, rfl⟩) rfl ?_
    (try simp only [Act.put, List.setIfInBounds_toArray, List.set_cons_zero, List.set_cons_succ])
    refine wpAnyN_take (i := 4) (oi := { dst := some 7, op := Go.Op.move (Go.Operand.tmp 0), type := 30, pos := "kinds.go:248", after := #[{ on := 2, ground := Go.Ground.guard }], guard := some (2, true) }) (oL := { dst := some 20, op := Go.Op.pick (Go.Operand.tmp 5) (Go.Operand.tmp 19) (Go.Operand.const (Go.Value.bool false)), type := 4, pos := "kinds.go:248", after := #[{ on := 2, ground := Go.Ground.data }, { on := 16, ground := Go.Ground.data }], guard := none }) (v := undef) rfl rfl (by kernel_rfl) (by kernel_rfl) (by kernel_rfl) (by kernel_rfl) (fun _ _ _ h => h) (Or.inr ⟨by kernel_rfl, rfl⟩) rfl ?_
    (try simp only [Act.put, List.setIfInBounds_toArray, List.set_cons_zero, List.set_cons_succ])
    refine wpAnyN_take (i := 5) (oi := { dst := some 8, op := Go.Op.call { callee := Go.Callee.builtin Go.Builtin.len, args := #[Go.Operand.tmp 7], argTypes := #[30] }, type := 3, pos := "kinds.go:248", after := #[{ on := 4, ground := Go.Ground.data }, { on := 2, ground := Go.Ground.guard }], guard := some (2, true) }) (oL := { dst := some 20, op := Go.Op.pick (Go.Operand.tmp 5) (Go.Operand.tmp 19) (Go.Operand.const (Go.Value.bool false)), type := 4, pos := "kinds.go:248", after := #[{ on := 2, ground := Go.Ground.data }, { on := 16, ground := Go.Ground.data }], guard := none }) (v := undef) rfl rfl (by kernel_rfl) (by kernel_rfl) (by kernel_rfl) (by kernel_rfl) (fun _ _ _ h => h) (Or.inr ⟨by kernel_rfl, rfl⟩) rfl ?_
    (try simp only [Act.put, List.setIfInBounds_toArray, List.set_cons_zero, List.set_cons_succ])
    refine wpAnyN_take (i := 6) (oi := { dst := some 9, op := Go.Op.binOp Go.BinOp.sub 3 (Go.Operand.tmp 8) (Go.Operand.const (Go.Value.int Go.IntKind.i64 1)) 3, type := 3, pos := "kinds.go:248", after := #[{ on := 5, ground := Go.Ground.data }, { on := 2, ground := Go.Ground.guard }], guard := some (2, true) }) (oL := { dst := some 20, op := Go.Op.pick (Go.Operand.tmp 5) (Go.Operand.tmp 19) (Go.Operand.const (Go.Value.bool false)), type := 4, pos := "kinds.go:248", after := #[{ on := 2, ground := Go.Ground.data }, { on := 16, ground := Go.Ground.data }], guard := none }) (v := undef) rfl rfl (by kernel_rfl) (by kernel_rfl) (by kernel_rfl) (by kernel_rfl) (fun _ _ _ h => h) (Or.inr ⟨by kernel_rfl, rfl⟩) rfl ?_
    (try simp only [Act.put, List.setIfInBounds_toArray, List.set_cons_zero, List.set_cons_succ])
    refine wpAnyN_take (i := 7) (oi := { dst := some 10, op := Go.Op.indexAddr 30 (Go.Operand.tmp 6) (Go.Operand.tmp 9), type := 0, pos := "kinds.go:248", after := #[{ on := 3, ground := Go.Ground.data }, { on := 6, ground := Go.Ground.data }, { on := 2, ground := Go.Ground.guard }], guard := some (2, true) }) (oL := { dst := some 20, op := Go.Op.pick (Go.Operand.tmp 5) (Go.Operand.tmp 19) (Go.Operand.const (Go.Value.bool false)), type := 4, pos := "kinds.go:248", after := #[{ on := 2, ground := Go.Ground.data }, { on := 16, ground := Go.Ground.data }], guard := none }) (v := undef) rfl rfl (by kernel_rfl) (by kernel_rfl) (by kernel_rfl) (by kernel_rfl) (fun _ _ _ h => h) (Or.inr ⟨by kernel_rfl, rfl⟩) rfl ?_
    (try simp only [Act.put, List.setIfInBounds_toArray, List.set_cons_zero, List.set_cons_succ])
    refine wpAnyN_take (i := 8) (oi := { dst := some 11, op := Go.Op.load 3 (Go.Operand.tmp 10), type := 3, pos := "kinds.go:248", after := #[{ on := 7, ground := Go.Ground.data }, { on := 2, ground := Go.Ground.guard }], guard := some (2, true) }) (oL := { dst := some 20, op := Go.Op.pick (Go.Operand.tmp 5) (Go.Operand.tmp 19) (Go.Operand.const (Go.Value.bool false)), type := 4, pos := "kinds.go:248", after := #[{ on := 2, ground := Go.Ground.data }, { on := 16, ground := Go.Ground.data }], guard := none }) (v := undef) rfl rfl (by kernel_rfl) (by kernel_rfl) (by kernel_rfl) (by kernel_rfl) (fun _ _ _ h => h) (Or.inr ⟨by kernel_rfl, rfl⟩) rfl ?_
    (try simp only [Act.put, List.setIfInBounds_toArray, List.set_cons_zero, List.set_cons_succ])
    refine wpAnyN_take (i := 9) (oi := { dst := some 12, op := Go.Op.move (Go.Operand.tmp 0), type := 30, pos := "kinds.go:248", after := #[{ on := 2, ground := Go.Ground.guard }], guard := some (2, true) }) (oL := { dst := some 20, op := Go.Op.pick (Go.Operand.tmp 5) (Go.Operand.tmp 19) (Go.Operand.const (Go.Value.bool false)), type := 4, pos := "kinds.go:248", after := #[{ on := 2, ground := Go.Ground.data }, { on := 16, ground := Go.Ground.data }], guard := none }) (v := undef) rfl rfl (by kernel_rfl) (by kernel_rfl) (by kernel_rfl) (by kernel_rfl) (fun _ _ _ h => h) (Or.inr ⟨by kernel_rfl, rfl⟩) rfl ?_
    (try simp only [Act.put, List.setIfInBounds_toArray, List.set_cons_zero, List.set_cons_succ])
    refine wpAnyN_take (i := 10) (oi := { dst := some 13, op := Go.Op.indexAddr 30 (Go.Operand.tmp 12) (Go.Operand.const (Go.Value.int Go.IntKind.i64 0)), type := 0, pos := "kinds.go:248", after := #[{ on := 9, ground := Go.Ground.data }, { on := 2, ground := Go.Ground.guard }], guard := some (2, true) }) (oL := { dst := some 20, op := Go.Op.pick (Go.Operand.tmp 5) (Go.Operand.tmp 19) (Go.Operand.const (Go.Value.bool false)), type := 4, pos := "kinds.go:248", after := #[{ on := 2, ground := Go.Ground.data }, { on := 16, ground := Go.Ground.data }], guard := none }) (v := undef) rfl rfl (by kernel_rfl) (by kernel_rfl) (by kernel_rfl) (by kernel_rfl) (fun _ _ _ h => h) (Or.inr ⟨by kernel_rfl, rfl⟩) rfl ?_
    (try simp only [Act.put, List.setIfInBounds_toArray, List.set_cons_zero, List.set_cons_succ])
    refine wpAnyN_take (i := 11) (oi := { dst := some 14, op := Go.Op.load 3 (Go.Operand.tmp 13), type := 3, pos := "kinds.go:248", after := #[{ on := 10, ground := Go.Ground.data }, { on := 2, ground := Go.Ground.guard }], guard := some (2, true) }) (oL := { dst := some 20, op := Go.Op.pick (Go.Operand.tmp 5) (Go.Operand.tmp 19) (Go.Operand.const (Go.Value.bool false)), type := 4, pos := "kinds.go:248", after := #[{ on := 2, ground := Go.Ground.data }, { on := 16, ground := Go.Ground.data }], guard := none }) (v := undef) rfl rfl (by kernel_rfl) (by kernel_rfl) (by kernel_rfl) (by kernel_rfl) (fun _ _ _ h => h) (Or.inr ⟨by kernel_rfl, rfl⟩) rfl ?_
    (try simp only [Act.put, List.setIfInBounds_toArray, List.set_cons_zero, List.set_cons_succ])
    refine wpAnyN_take (i := 12) (oi := { dst := some 15, op := Go.Op.binOp Go.BinOp.sub 3 (Go.Operand.tmp 11) (Go.Operand.tmp 14) 3, type := 3, pos := "kinds.go:248", after := #[{ on := 8, ground := Go.Ground.data }, { on := 11, ground := Go.Ground.data }, { on := 2, ground := Go.Ground.guard }], guard := some (2, true) }) (oL := { dst := some 20, op := Go.Op.pick (Go.Operand.tmp 5) (Go.Operand.tmp 19) (Go.Operand.const (Go.Value.bool false)), type := 4, pos := "kinds.go:248", after := #[{ on := 2, ground := Go.Ground.data }, { on := 16, ground := Go.Ground.data }], guard := none }) (v := undef) rfl rfl (by kernel_rfl) (by kernel_rfl) (by kernel_rfl) (by kernel_rfl) (fun _ _ _ h => h) (Or.inr ⟨by kernel_rfl, rfl⟩) rfl ?_
    (try simp only [Act.put, List.setIfInBounds_toArray, List.set_cons_zero, List.set_cons_succ])
    refine wpAnyN_take (i := 13) (oi := { dst := some 16, op := Go.Op.move (Go.Operand.tmp 0), type := 30, pos := "kinds.go:248", after := #[{ on := 2, ground := Go.Ground.guard }], guard := some (2, true) }) (oL := { dst := some 20, op := Go.Op.pick (Go.Operand.tmp 5) (Go.Operand.tmp 19) (Go.Operand.const (Go.Value.bool false)), type := 4, pos := "kinds.go:248", after := #[{ on := 2, ground := Go.Ground.data }, { on := 16, ground := Go.Ground.data }], guard := none }) (v := undef) rfl rfl (by kernel_rfl) (by kernel_rfl) (by kernel_rfl) (by kernel_rfl) (fun _ _ _ h => h) (Or.inr ⟨by kernel_rfl, rfl⟩) rfl ?_
    (try simp only [Act.put, List.setIfInBounds_toArray, List.set_cons_zero, List.set_cons_succ])
    refine wpAnyN_take (i := 14) (oi := { dst := some 17, op := Go.Op.call { callee := Go.Callee.builtin Go.Builtin.len, args := #[Go.Operand.tmp 16], argTypes := #[30] }, type := 3, pos := "kinds.go:248", after := #[{ on := 13, ground := Go.Ground.data }, { on := 2, ground := Go.Ground.guard }], guard := some (2, true) }) (oL := { dst := some 20, op := Go.Op.pick (Go.Operand.tmp 5) (Go.Operand.tmp 19) (Go.Operand.const (Go.Value.bool false)), type := 4, pos := "kinds.go:248", after := #[{ on := 2, ground := Go.Ground.data }, { on := 16, ground := Go.Ground.data }], guard := none }) (v := undef) rfl rfl (by kernel_rfl) (by kernel_rfl) (by kernel_rfl) (by kernel_rfl) (fun _ _ _ h => h) (Or.inr ⟨by kernel_rfl, rfl⟩) rfl ?_
    (try simp only [Act.put, List.setIfInBounds_toArray, List.set_cons_zero, List.set_cons_succ])
    refine wpAnyN_take (i := 15) (oi := { dst := some 18, op := Go.Op.binOp Go.BinOp.sub 3 (Go.Operand.tmp 17) (Go.Operand.const (Go.Value.int Go.IntKind.i64 1)) 3, type := 3, pos := "kinds.go:248", after := #[{ on := 14, ground := Go.Ground.data }, { on := 2, ground := Go.Ground.guard }], guard := some (2, true) }) (oL := { dst := some 20, op := Go.Op.pick (Go.Operand.tmp 5) (Go.Operand.tmp 19) (Go.Operand.const (Go.Value.bool false)), type := 4, pos := "kinds.go:248", after := #[{ on := 2, ground := Go.Ground.data }, { on := 16, ground := Go.Ground.data }], guard := none }) (v := undef) rfl rfl (by kernel_rfl) (by kernel_rfl) (by kernel_rfl) (by kernel_rfl) (fun _ _ _ h => h) (Or.inr ⟨by kernel_rfl, rfl⟩) rfl ?_
    (try simp only [Act.put, List.setIfInBounds_toArray, List.set_cons_zero, List.set_cons_succ])
    refine wpAnyN_take (i := 16) (oi := { dst := some 19, op := Go.Op.binOp Go.BinOp.eql 3 (Go.Operand.tmp 15) (Go.Operand.tmp 18) 3, type := 4, pos := "kinds.go:248", after := #[{ on := 12, ground := Go.Ground.data }, { on := 15, ground := Go.Ground.data }, { on := 2, ground := Go.Ground.guard }], guard := some (2, true) }) (oL := { dst := some 20, op := Go.Op.pick (Go.Operand.tmp 5) (Go.Operand.tmp 19) (Go.Operand.const (Go.Value.bool false)), type := 4, pos := "kinds.go:248", after := #[{ on := 2, ground := Go.Ground.data }, { on := 16, ground := Go.Ground.data }], guard := none }) (v := undef) rfl rfl (by kernel_rfl) (by kernel_rfl) (by kernel_rfl) (by kernel_rfl) (fun _ _ _ h => h) (Or.inr ⟨by kernel_rfl, rfl⟩) rfl ?_
    (try simp only [Act.put, List.setIfInBounds_toArray, List.set_cons_zero, List.set_cons_succ])
    refine wpAnyN_one (i := 17) (o := { dst := some 20, op := Go.Op.pick (Go.Operand.tmp 5) (Go.Operand.tmp 19) (Go.Operand.const (Go.Value.bool false)), type := 4, pos := "kinds.go:248", after := #[{ on := 2, ground := Go.Ground.data }, { on := 16, ground := Go.Ground.data }], guard := none }) (by kernel_rfl) rfl (fun K hK => ?_)
    go_simp
    refine hK.out _ _ (fun e => absurd (e.symm.trans (by kernel_rfl) : false = true) Bool.false_ne_true) ?_
    clear hK K
    (try simp only [Act.put, List.setIfInBounds_toArray, List.set_cons_zero, List.set_cons_succ])
    refine wpAnyN_of_H (S' := fun _ => True) _ _ _ _ (by kernel_rfl) ?_
    refine wpAnyH_take (i := 18) (oi := { dst := some 2, op := Go.Op.assign (Go.Operand.tmp 20), type := 4, pos := "kinds.go:248", after := #[{ on := 17, ground := Go.Ground.data }, { on := 2, ground := Go.Ground.chain }, { on := 0, ground := Go.Ground.phase }, { on := 1, ground := Go.Ground.phase }, { on := 2, ground := Go.Ground.phase }, { on := 3, ground := Go.Ground.phase }, { on := 4, ground := Go.Ground.phase }, { on := 5, ground := Go.Ground.phase }, { on := 6, ground := Go.Ground.phase }, { on := 7, ground := Go.Ground.phase }, { on := 8, ground := Go.Ground.phase }, { on := 9, ground := Go.Ground.phase }, { on := 10, ground := Go.Ground.phase }, { on := 11, ground := Go.Ground.phase }, { on := 12, ground := Go.Ground.phase }, { on := 13, ground := Go.Ground.phase }, { on := 14, ground := Go.Ground.phase }, { on := 15, ground := Go.Ground.phase }, { on := 16, ground := Go.Ground.phase }, { on := 17, ground := Go.Ground.phase }], guard := none }) (v := .bool false) rfl (by kernel_rfl) (by kernel_rfl) (by kernel_rfl) (fun _ _ _ h => h) (Or.inl ⟨by kernel_rfl, ?_⟩) trivial ?_
    · (intro X hX; go_simp; try (with_reducible rfl))
    (try simp only [Act.put, List.setIfInBounds_toArray, List.set_cons_zero, List.set_cons_succ])
    refine wpAnyH_done (by kernel_rfl) ?_ _
    --E goOnF--
    go_wp2_with fail
    go_ret
    exact ⟨by rw [HG.out]; rfl, (Below.refl _ _).drew⟩
  | true =>
    have hr2 := hr
    unfold riseN at hr2
    rw [Bool.and_eq_true] at hr2
    have hne : l ≠ [] := fun e => by rw [e] at hr2; simp at hr2
    obtain ⟨m, hm⟩ : ∃ m, l.length = m + 1 := ⟨l.length - 1, by have := List.length_pos_iff.2 hne; omega⟩
    obtain ⟨b, off, hao, _, yc0⟩ := hc 0 (by omega)
    subst hao
    obtain ⟨b', off', e, _, ycm⟩ := hc m (by omega)
    cases e
    have hb0 := rise_num 0 hr2.1 _ (getD_memI l 0 (by omega))
    have hbm := rise_num 0 hr2.1 _ (getD_memI l m (by omega))
    have HR2 : Hid (Calls Tryz.prog 99 #[.slice (some ⟨b, off, none⟩) l.length cap, fnV 100 #[]] w.drew fun e w' => e = .returned (.bool true) ∧ w' = w.drew) := Lib.hid (by have h := HR.out _ (Below.refl _ _).drew; rw [hr] at h; exact h)
    have HG : Hid (goOnB l = decide (l.getD m 0 - l.getD 0 0 = (m : Int))) := Lib.hid (by
      unfold goOnB
      rw [hr, Bool.true_and, hm, show m + 1 - 1 = m by omega]
      congr 1
      simp only [eq_iff_iff]
      omega)
    have hn1 : (l.length : Int) - 1 = (m : Int) := by omega
    have hn2 : (m : Int) < (l.length : Int) := by omega
    have hn3 : (0 : Int) < (l.length : Int) := by omega
    have hnN : m < l.length := by omega
    have hnN0 : 0 < l.length := by omega
    have hm9 : (m : Int) ≤ 140737488355328 := by omega
    clear hr hr2 hc h hbig HR hne hm
    generalize l.getD m 0 = xm at *
    generalize l.getD 0 0 = x0 at *
    generalize l.length = n at *
    have hwm : IntKind.i64.wrap (m : Int) = (m : Int) := by simp only [IntKind.wrap, IntKind.signed, IntKind.bits]; simp; omega
    obtain ⟨xd, hxd⟩ : ∃ xd, xm - x0 = xd := ⟨_, rfl⟩
    have hws : IntKind.i64.wrap (xm - x0) = xd := by rw [← hxd]; simp only [IntKind.wrap, IntKind.signed, IntKind.bits]; simp; omega
    rw [hxd] at HG
    clear hxd hb0 hbm
    obtain ⟨q, hq⟩ : ∃ q, decide (xd = (m : Int)) = q := ⟨_, rfl⟩
    have hq2 : (xd == (m : Int)) = q := by rw [← hq]; rfl
    rw [hq] at HG
    have y0 : w.drew.cell? ⟨b, off, none⟩ = some (.int .i64 x0) := yc0
    have ym : w.drew.cell? ⟨b, off + m, none⟩ = some (.int .i64 xm) := ycm
    clear yc0 ycm
    go_enter Tryz.func107, Tryz.ntmps107
    go_upto_region 1 with fail
    --R goOnT--
    refine wp_region_N 17 (fun X => X = w.drew) (by kernel_rfl) ?_
    refine wpAnyN_take (i := 0) (oi := { dst := some 3, op := Go.Op.move (Go.Operand.tmp 0), type := 30, pos := "kinds.go:248", after := #[], guard := none }) (oL := { dst := some 20, op := Go.Op.pick (Go.Operand.tmp 5) (Go.Operand.tmp 19) (Go.Operand.const (Go.Value.bool false)), type := 4, pos := "kinds.go:248", after := #[{ on := 2, ground := Go.Ground.data }, { on := 16, ground := Go.Ground.data }], guard := none }) (v := .slice (some ⟨b, off, none⟩) n cap) rfl rfl (by kernel_rfl) (by kernel_rfl) (by kernel_rfl) (by kernel_rfl) (fun _ _ _ h => h) (Or.inl ⟨by kernel_rfl, ?_⟩) rfl ?_
    · (intro X hX; subst hX <;> (go_simp; try (with_reducible rfl)))
    (try simp only [Act.put, List.setIfInBounds_toArray, List.set_cons_zero, List.set_cons_succ])
    refine wpAnyN_one (i := 1) (o := { dst := some 4, op := Go.Op.call { callee := Go.Callee.value (Go.Operand.func 99), args := #[Go.Operand.tmp 3, Go.Operand.func 100], argTypes := #[30, 115] }, type := 4, pos := "kinds.go:248", after := #[{ on := 0, ground := Go.Ground.data }], guard := none }) (by kernel_rfl) rfl (fun K hK => ?_)
    go_simp
    refine HR2.out.mono ?_
    rintro e w3 ⟨rfl, hw3⟩
    subst w3
    refine hK.out _ _ (fun _ => rfl) ?_
    clear hK K
    (try simp only [Act.put, List.setIfInBounds_toArray, List.set_cons_zero, List.set_cons_succ])
    refine wpAnyN_take (i := 2) (oi := { dst := some 5, op := Go.Op.move (Go.Operand.tmp 4), type := 4, pos := "kinds.go:248", after := #[{ on := 1, ground := Go.Ground.data }, { on := 1, ground := Go.Ground.chain }], guard := none }) (oL := { dst := some 20, op := Go.Op.pick (Go.Operand.tmp 5) (Go.Operand.tmp 19) (Go.Operand.const (Go.Value.bool false)), type := 4, pos := "kinds.go:248", after := #[{ on := 2, ground := Go.Ground.data }, { on := 16, ground := Go.Ground.data }], guard := none }) (v := .bool true) rfl rfl (by kernel_rfl) (by kernel_rfl) (by kernel_rfl) (by kernel_rfl) (fun _ _ _ h => h) (Or.inl ⟨by kernel_rfl, ?_⟩) rfl ?_
    · (intro X hX; subst hX <;> (go_simp; try (with_reducible rfl)))
    (try simp only [Act.put, List.setIfInBounds_toArray, List.set_cons_zero, List.set_cons_succ])
    refine wpAnyN_take (i := 3) (oi := { dst := some 6, op := Go.Op.move (Go.Operand.tmp 0), type := 30, pos := "kinds.go:248", after := #[{ on := 2, ground := Go.Ground.guard }], guard := some (2, true) }) (oL := { dst := some 20, op := Go.Op.pick (Go.Operand.tmp 5) (Go.Operand.tmp 19) (Go.Operand.const (Go.Value.bool false)), type := 4, pos := "kinds.go:248", after := #[{ on := 2, ground := Go.Ground.data }, { on := 16, ground := Go.Ground.data }], guard := none }) (v := .slice (some ⟨b, off, none⟩) n cap) rfl rfl (by kernel_rfl) (by kernel_rfl) (by kernel_rfl) (by kernel_rfl) (fun _ _ _ h => h) (Or.inl ⟨by kernel_rfl, ?_⟩) rfl ?_
    · (intro X hX; subst hX <;> (go_simp; try (with_reducible rfl)))
    (try simp only [Act.put, List.setIfInBounds_toArray, List.set_cons_zero, List.set_cons_succ])
    refine wpAnyN_take (i := 4) (oi := { dst := some 7, op := Go.Op.move (Go.Operand.tmp 0), type := 30, pos := "kinds.go:248", after := #[{ on := 2, ground := Go.Ground.guard }], guard := some (2, true) }) (oL := { dst := some 20, op := Go.Op.pick (Go.Operand.tmp 5) (Go.Operand.tmp 19) (Go.Operand.const (Go.Value.bool false)), type := 4, pos := "kinds.go:248", after := #[{ on := 2, ground := Go.Ground.data }, { on := 16, ground := Go.Ground.data }], guard := none }) (v := .slice (some ⟨b, off, none⟩) n cap) rfl rfl (by kernel_rfl) (by kernel_rfl) (by kernel_rfl) (by kernel_rfl) (fun _ _ _ h => h) (Or.inl ⟨by kernel_rfl, ?_⟩) rfl ?_
    · (intro X hX; subst hX <;> (go_simp; try (with_reducible rfl)))
    (try simp only [Act.put, List.setIfInBounds_toArray, List.set_cons_zero, List.set_cons_succ])
    refine wpAnyN_take (i := 5) (oi := { dst := some 8, op := Go.Op.call { callee := Go.Callee.builtin Go.Builtin.len, args := #[Go.Operand.tmp 7], argTypes := #[30] }, type := 3, pos := "kinds.go:248", after := #[{ on := 4, ground := Go.Ground.data }, { on := 2, ground := Go.Ground.guard }], guard := some (2, true) }) (oL := { dst := some 20, op := Go.Op.pick (Go.Operand.tmp 5) (Go.Operand.tmp 19) (Go.Operand.const (Go.Value.bool false)), type := 4, pos := "kinds.go:248", after := #[{ on := 2, ground := Go.Ground.data }, { on := 16, ground := Go.Ground.data }], guard := none }) (v := .int .i64 (n : Int)) rfl rfl (by kernel_rfl) (by kernel_rfl) (by kernel_rfl) (by kernel_rfl) (fun _ _ _ h => h) (Or.inl ⟨by kernel_rfl, ?_⟩) rfl ?_
    · (intro X hX; subst hX <;> (go_simp; try (with_reducible rfl)))
    (try simp only [Act.put, List.setIfInBounds_toArray, List.set_cons_zero, List.set_cons_succ])
    refine wpAnyN_take (i := 6) (oi := { dst := some 9, op := Go.Op.binOp Go.BinOp.sub 3 (Go.Operand.tmp 8) (Go.Operand.const (Go.Value.int Go.IntKind.i64 1)) 3, type := 3, pos := "kinds.go:248", after := #[{ on := 5, ground := Go.Ground.data }, { on := 2, ground := Go.Ground.guard }], guard := some (2, true) }) (oL := { dst := some 20, op := Go.Op.pick (Go.Operand.tmp 5) (Go.Operand.tmp 19) (Go.Operand.const (Go.Value.bool false)), type := 4, pos := "kinds.go:248", after := #[{ on := 2, ground := Go.Ground.data }, { on := 16, ground := Go.Ground.data }], guard := none }) (v := .int .i64 (m : Int)) rfl rfl (by kernel_rfl) (by kernel_rfl) (by kernel_rfl) (by kernel_rfl) (fun _ _ _ h => h) (Or.inl ⟨by kernel_rfl, ?_⟩) rfl ?_
    · (intro X hX; subst hX <;> (go_simp; try (with_reducible rfl)))
    (try simp only [Act.put, List.setIfInBounds_toArray, List.set_cons_zero, List.set_cons_succ])
    refine wpAnyN_take (i := 7) (oi := { dst := some 10, op := Go.Op.indexAddr 30 (Go.Operand.tmp 6) (Go.Operand.tmp 9), type := 0, pos := "kinds.go:248", after := #[{ on := 3, ground := Go.Ground.data }, { on := 6, ground := Go.Ground.data }, { on := 2, ground := Go.Ground.guard }], guard := some (2, true) }) (oL := { dst := some 20, op := Go.Op.pick (Go.Operand.tmp 5) (Go.Operand.tmp 19) (Go.Operand.const (Go.Value.bool false)), type := 4, pos := "kinds.go:248", after := #[{ on := 2, ground := Go.Ground.data }, { on := 16, ground := Go.Ground.data }], guard := none }) (v := .pointer (some ⟨b, off + m, none⟩)) rfl rfl (by kernel_rfl) (by kernel_rfl) (by kernel_rfl) (by kernel_rfl) (fun _ _ _ h => h) (Or.inl ⟨by kernel_rfl, ?_⟩) rfl ?_
    · (intro X hX; subst hX <;> (go_simp; try (with_reducible rfl)))
    (try simp only [Act.put, List.setIfInBounds_toArray, List.set_cons_zero, List.set_cons_succ])
    refine wpAnyN_take (i := 8) (oi := { dst := some 11, op := Go.Op.load 3 (Go.Operand.tmp 10), type := 3, pos := "kinds.go:248", after := #[{ on := 7, ground := Go.Ground.data }, { on := 2, ground := Go.Ground.guard }], guard := some (2, true) }) (oL := { dst := some 20, op := Go.Op.pick (Go.Operand.tmp 5) (Go.Operand.tmp 19) (Go.Operand.const (Go.Value.bool false)), type := 4, pos := "kinds.go:248", after := #[{ on := 2, ground := Go.Ground.data }, { on := 16, ground := Go.Ground.data }], guard := none }) (v := .int .i64 xm) rfl rfl (by kernel_rfl) (by kernel_rfl) (by kernel_rfl) (by kernel_rfl) (fun _ _ _ h => h) (Or.inl ⟨by kernel_rfl, ?_⟩) rfl ?_
    · (intro X hX; subst hX <;> (go_simp; try (with_reducible rfl)))
    (try simp only [Act.put, List.setIfInBounds_toArray, List.set_cons_zero, List.set_cons_succ])
    refine wpAnyN_take (i := 9) (oi := { dst := some 12, op := Go.Op.move (Go.Operand.tmp 0), type := 30, pos := "kinds.go:248", after := #[{ on := 2, ground := Go.Ground.guard }], guard := some (2, true) }) (oL := { dst := some 20, op := Go.Op.pick (Go.Operand.tmp 5) (Go.Operand.tmp 19) (Go.Operand.const (Go.Value.bool false)), type := 4, pos := "kinds.go:248", after := #[{ on := 2, ground := Go.Ground.data }, { on := 16, ground := Go.Ground.data }], guard := none }) (v := .slice (some ⟨b, off, none⟩) n cap) rfl rfl (by kernel_rfl) (by kernel_rfl) (by kernel_rfl) (by kernel_rfl) (fun _ _ _ h => h) (Or.inl ⟨by kernel_rfl, ?_⟩) rfl ?_
    · (intro X hX; subst hX <;> (go_simp; try (with_reducible rfl)))
    (try simp only [Act.put, List.setIfInBounds_toArray, List.set_cons_zero, List.set_cons_succ])
    refine wpAnyN_take (i := 10) (oi := { dst := some 13, op := Go.Op.indexAddr 30 (Go.Operand.tmp 12) (Go.Operand.const (Go.Value.int Go.IntKind.i64 0)), type := 0, pos := "kinds.go:248", after := #[{ on := 9, ground := Go.Ground.data }, { on := 2, ground := Go.Ground.guard }], guard := some (2, true) }) (oL := { dst := some 20, op := Go.Op.pick (Go.Operand.tmp 5) (Go.Operand.tmp 19) (Go.Operand.const (Go.Value.bool false)), type := 4, pos := "kinds.go:248", after := #[{ on := 2, ground := Go.Ground.data }, { on := 16, ground := Go.Ground.data }], guard := none }) (v := .pointer (some ⟨b, off, none⟩)) rfl rfl (by kernel_rfl) (by kernel_rfl) (by kernel_rfl) (by kernel_rfl) (fun _ _ _ h => h) (Or.inl ⟨by kernel_rfl, ?_⟩) rfl ?_
    · (intro X hX; subst hX <;> (go_simp; try (with_reducible rfl)))
    (try simp only [Act.put, List.setIfInBounds_toArray, List.set_cons_zero, List.set_cons_succ])
    refine wpAnyN_take (i := 11) (oi := { dst := some 14, op := Go.Op.load 3 (Go.Operand.tmp 13), type := 3, pos := "kinds.go:248", after := #[{ on := 10, ground := Go.Ground.data }, { on := 2, ground := Go.Ground.guard }], guard := some (2, true) }) (oL := { dst := some 20, op := Go.Op.pick (Go.Operand.tmp 5) (Go.Operand.tmp 19) (Go.Operand.const (Go.Value.bool false)), type := 4, pos := "kinds.go:248", after := #[{ on := 2, ground := Go.Ground.data }, { on := 16, ground := Go.Ground.data }], guard := none }) (v := .int .i64 x0) rfl rfl (by kernel_rfl) (by kernel_rfl) (by kernel_rfl) (by kernel_rfl) (fun _ _ _ h => h) (Or.inl ⟨by kernel_rfl, ?_⟩) rfl ?_
    · (intro X hX; subst hX <;> (go_simp; try (with_reducible rfl)))
    (try simp only [Act.put, List.setIfInBounds_toArray, List.set_cons_zero, List.set_cons_succ])
    refine wpAnyN_take (i := 12) (oi := { dst := some 15, op := Go.Op.binOp Go.BinOp.sub 3 (Go.Operand.tmp 11) (Go.Operand.tmp 14) 3, type := 3, pos := "kinds.go:248", after := #[{ on := 8, ground := Go.Ground.data }, { on := 11, ground := Go.Ground.data }, { on := 2, ground := Go.Ground.guard }], guard := some (2, true) }) (oL := { dst := some 20, op := Go.Op.pick (Go.Operand.tmp 5) (Go.Operand.tmp 19) (Go.Operand.const (Go.Value.bool false)), type := 4, pos := "kinds.go:248", after := #[{ on := 2, ground := Go.Ground.data }, { on := 16, ground := Go.Ground.data }], guard := none }) (v := .int .i64 xd) rfl rfl (by kernel_rfl) (by kernel_rfl) (by kernel_rfl) (by kernel_rfl) (fun _ _ _ h => h) (Or.inl ⟨by kernel_rfl, ?_⟩) rfl ?_
    · (intro X hX; subst hX <;> (go_simp; try (with_reducible rfl)))
    (try simp only [Act.put, List.setIfInBounds_toArray, List.set_cons_zero, List.set_cons_succ])
    refine wpAnyN_take (i := 13) (oi := { dst := some 16, op := Go.Op.move (Go.Operand.tmp 0), type := 30, pos := "kinds.go:248", after := #[{ on := 2, ground := Go.Ground.guard }], guard := some (2, true) }) (oL := { dst := some 20, op := Go.Op.pick (Go.Operand.tmp 5) (Go.Operand.tmp 19) (Go.Operand.const (Go.Value.bool false)), type := 4, pos := "kinds.go:248", after := #[{ on := 2, ground := Go.Ground.data }, { on := 16, ground := Go.Ground.data }], guard := none }) (v := .slice (some ⟨b, off, none⟩) n cap) rfl rfl (by kernel_rfl) (by kernel_rfl) (by kernel_rfl) (by kernel_rfl) (fun _ _ _ h => h) (Or.inl ⟨by kernel_rfl, ?_⟩) rfl ?_
    · (intro X hX; subst hX <;> (go_simp; try (with_reducible rfl)))
    (try simp only [Act.put, List.setIfInBounds_toArray, List.set_cons_zero, List.set_cons_succ])
    refine wpAnyN_take (i := 14) (oi := { dst := some 17, op := Go.Op.call { callee := Go.Callee.builtin Go.Builtin.len, args := #[Go.Operand.tmp 16], argTypes := #[30] }, type := 3, pos := "kinds.go:248", after := #[{ on := 13, ground := Go.Ground.data }, { on := 2, ground := Go.Ground.guard }], guard := some (2, true) }) (oL := { dst := some 20, op := Go.Op.pick (Go.Operand.tmp 5) (Go.Operand.tmp 19) (Go.Operand.const (Go.Value.bool false)), type := 4, pos := "kinds.go:248", after := #[{ on := 2, ground := Go.Ground.data }, { on := 16, ground := Go.Ground.data }], guard := none }) (v := .int .i64 (n : Int)) rfl rfl (by kernel_rfl) (by kernel_rfl) (by kernel_rfl) (by kernel_rfl) (fun _ _ _ h => h) (Or.inl ⟨by kernel_rfl, ?_⟩) rfl ?_
    · (intro X hX; subst hX <;> (go_simp; try (with_reducible rfl)))
    (try simp only [Act.put, List.setIfInBounds_toArray, List.set_cons_zero, List.set_cons_succ])
    refine wpAnyN_take (i := 15) (oi := { dst := some 18, op := Go.Op.binOp Go.BinOp.sub 3 (Go.Operand.tmp 17) (Go.Operand.const (Go.Value.int Go.IntKind.i64 1)) 3, type := 3, pos := "kinds.go:248", after := #[{ on := 14, ground := Go.Ground.data }, { on := 2, ground := Go.Ground.guard }], guard := some (2, true) }) (oL := { dst := some 20, op := Go.Op.pick (Go.Operand.tmp 5) (Go.Operand.tmp 19) (Go.Operand.const (Go.Value.bool false)), type := 4, pos := "kinds.go:248", after := #[{ on := 2, ground := Go.Ground.data }, { on := 16, ground := Go.Ground.data }], guard := none }) (v := .int .i64 (m : Int)) rfl rfl (by kernel_rfl) (by kernel_rfl) (by kernel_rfl) (by kernel_rfl) (fun _ _ _ h => h) (Or.inl ⟨by kernel_rfl, ?_⟩) rfl ?_
    · (intro X hX; subst hX <;> (go_simp; try (with_reducible rfl)))
    (try simp only [Act.put, List.setIfInBounds_toArray, List.set_cons_zero, List.set_cons_succ])
    refine wpAnyN_take (i := 16) (oi := { dst := some 19, op := Go.Op.binOp Go.BinOp.eql 3 (Go.Operand.tmp 15) (Go.Operand.tmp 18) 3, type := 4, pos := "kinds.go:248", after := #[{ on := 12, ground := Go.Ground.data }, { on := 15, ground := Go.Ground.data }, { on := 2, ground := Go.Ground.guard }], guard := some (2, true) }) (oL := { dst := some 20, op := Go.Op.pick (Go.Operand.tmp 5) (Go.Operand.tmp 19) (Go.Operand.const (Go.Value.bool false)), type := 4, pos := "kinds.go:248", after := #[{ on := 2, ground := Go.Ground.data }, { on := 16, ground := Go.Ground.data }], guard := none }) (v := .bool q) rfl rfl (by kernel_rfl) (by kernel_rfl) (by kernel_rfl) (by kernel_rfl) (fun _ _ _ h => h) (Or.inl ⟨by kernel_rfl, ?_⟩) rfl ?_
    · (intro X hX; subst hX <;> (go_simp; try (with_reducible rfl)))
    (try simp only [Act.put, List.setIfInBounds_toArray, List.set_cons_zero, List.set_cons_succ])
    refine wpAnyN_one (i := 17) (o := { dst := some 20, op := Go.Op.pick (Go.Operand.tmp 5) (Go.Operand.tmp 19) (Go.Operand.const (Go.Value.bool false)), type := 4, pos := "kinds.go:248", after := #[{ on := 2, ground := Go.Ground.data }, { on := 16, ground := Go.Ground.data }], guard := none }) (by kernel_rfl) rfl (fun K hK => ?_)
    go_simp
    refine hK.out _ _ (fun e => absurd (e.symm.trans (by kernel_rfl) : false = true) Bool.false_ne_true) ?_
    clear hK K
    (try simp only [Act.put, List.setIfInBounds_toArray, List.set_cons_zero, List.set_cons_succ])
    refine wpAnyN_of_H (S' := fun _ => True) _ _ _ _ (by kernel_rfl) ?_
    refine wpAnyH_take (i := 18) (oi := { dst := some 2, op := Go.Op.assign (Go.Operand.tmp 20), type := 4, pos := "kinds.go:248", after := #[{ on := 17, ground := Go.Ground.data }, { on := 2, ground := Go.Ground.chain }, { on := 0, ground := Go.Ground.phase }, { on := 1, ground := Go.Ground.phase }, { on := 2, ground := Go.Ground.phase }, { on := 3, ground := Go.Ground.phase }, { on := 4, ground := Go.Ground.phase }, { on := 5, ground := Go.Ground.phase }, { on := 6, ground := Go.Ground.phase }, { on := 7, ground := Go.Ground.phase }, { on := 8, ground := Go.Ground.phase }, { on := 9, ground := Go.Ground.phase }, { on := 10, ground := Go.Ground.phase }, { on := 11, ground := Go.Ground.phase }, { on := 12, ground := Go.Ground.phase }, { on := 13, ground := Go.Ground.phase }, { on := 14, ground := Go.Ground.phase }, { on := 15, ground := Go.Ground.phase }, { on := 16, ground := Go.Ground.phase }, { on := 17, ground := Go.Ground.phase }], guard := none }) (v := .bool q) rfl (by kernel_rfl) (by kernel_rfl) (by kernel_rfl) (fun _ _ _ h => h) (Or.inl ⟨by kernel_rfl, ?_⟩) trivial ?_
    · (intro X hX; go_simp; try (with_reducible rfl))
    (try simp only [Act.put, List.setIfInBounds_toArray, List.set_cons_zero, List.set_cons_succ])
    refine wpAnyH_done (by kernel_rfl) ?_ _
    --E goOnT--
    go_wp2_with fail
    go_ret
    exact ⟨by rw [HG.out]; rfl, (Below.refl _ _).drew⟩
end Go.Proofs.YtbncaiocmklgnaaGreatDoor
