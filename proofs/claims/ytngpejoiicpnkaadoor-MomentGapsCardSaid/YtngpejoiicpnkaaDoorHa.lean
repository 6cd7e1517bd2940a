/- Plain: what is written is read again. Nothing of the program's calls. -/
import Derived.Test.YtngpejoiicpnkaaDoorDy
namespace Go.Proofs.YtngpejoiicpnkaaDoor
open Go.RowKit

theorem bytes_all {p : UInt8 → Prop} (h : ∀ c : Fin 256, p (UInt8.ofNat c.val)) (c : UInt8) : p c := by
  have := h ⟨c.toNat, c.toNat_lt⟩
  simpa using this
theorem dg_toNat (a : Nat) (h : a < 10) : (dg a).toNat = 48 + a := by unfold dg; simp; omega
theorem dg_isDig (a : Nat) (h : a < 10) : isDig (dg a) = true := by rw [isDig_iff, dg_toNat a h]; omega
theorem num_two (x y : Nat) (hx : x < 10) (hy : y < 10) (a b : Nat) (h1 : a ≤ 2) (h2 : 2 ≤ b) : numB [dg x, dg y] a b = true ∧ numI [dg x, dg y] a b = ((10 * x + y : Nat) : Int) := by
  have hb : numB [dg x, dg y] a b = true := numB_yes _ a b h1 h2 (by simp [dg_isDig x hx, dg_isDig y hy])
  refine ⟨hb, ?_⟩
  unfold numI
  rw [hb, if_pos rfl]
  have : valD [dg x, dg y] = 10 * x + y := by
    show 10 * (10 * 0 + ((dg x).toNat - 48)) + ((dg y).toNat - 48) = _
    rw [dg_toNat x hx, dg_toNat y hy]; omega
  rw [this]
theorem num_one (x : Nat) (hx : x < 10) (a b : Nat) (h1 : a ≤ 1) (h2 : 1 ≤ b) : numB [dg x] a b = true ∧ numI [dg x] a b = (x : Int) := by
  have hb : numB [dg x] a b = true := numB_yes _ a b h1 h2 (by simp [dg_isDig x hx])
  refine ⟨hb, ?_⟩
  unfold numI
  rw [hb, if_pos rfl]
  have : valD [dg x] = x := by
    show 10 * 0 + ((dg x).toNat - 48) = _
    rw [dg_toNat x hx]; omega
  rw [this]
theorem num_four (x y z t : Nat) (hx : x < 10) (hy : y < 10) (hz : z < 10) (ht : t < 10) (a b : Nat) (h1 : a ≤ 4) (h2 : 4 ≤ b) : numB [dg x, dg y, dg z, dg t] a b = true ∧ numI [dg x, dg y, dg z, dg t] a b = ((1000 * x + 100 * y + 10 * z + t : Nat) : Int) := by
  have hb : numB [dg x, dg y, dg z, dg t] a b = true := numB_yes _ a b h1 h2 (by simp [dg_isDig x hx, dg_isDig y hy, dg_isDig z hz, dg_isDig t ht])
  refine ⟨hb, ?_⟩
  unfold numI
  rw [hb, if_pos rfl]
  have : valD [dg x, dg y, dg z, dg t] = 1000 * x + 100 * y + 10 * z + t := by
    show 10 * (10 * (10 * (10 * 0 + ((dg x).toNat - 48)) + ((dg y).toNat - 48)) + ((dg z).toNat - 48)) + ((dg t).toNat - 48) = _
    rw [dg_toNat x hx, dg_toNat y hy, dg_toNat z hz, dg_toNat t ht]; omega
  rw [this]
theorem num_pad2 (n : Nat) (h : n < 100) (a b : Nat) (h1 : a ≤ 2) (h2 : 2 ≤ b) : numB (pad2 n) a b = true ∧ numI (pad2 n) a b = (n : Int) := by
  have := num_two (n / 10) (n % 10) (by omega) (by omega) a b h1 h2
  refine ⟨this.1, ?_⟩
  show numI [dg (n / 10), dg (n % 10)] a b = _
  rw [this.2]; omega
theorem num_pad4 (n : Nat) (h : n < 10000) (a b : Nat) (h1 : a ≤ 4) (h2 : 4 ≤ b) : numB (pad4 n) a b = true ∧ numI (pad4 n) a b = (n : Int) := by
  have := num_four (n / 1000) (n / 100 % 10) (n / 10 % 10) (n % 10) (by omega) (by omega) (by omega) (by omega) a b h1 h2
  refine ⟨this.1, ?_⟩
  show numI [dg (n / 1000), dg (n / 100 % 10), dg (n / 10 % 10), dg (n % 10)] a b = _
  rw [this.2]; omega
theorem mon_three (k : Nat) (h : k < 12) : ∃ m0 m1 m2, monN k = [m0, m1, m2] := by
  have hl := monN_len k h
  match hm : monN k, hl with
  | [a, b, c], _ => exact ⟨a, b, c, rfl⟩
theorem mon_read (k : Nat) (h : k < 12) : monB (monN k) = true ∧ monI (monN k) = (k : Int) + 1 ∧ (monN k).all isLet = true := by
  have : ∀ k : Fin 12, monB (monN k.val) = true ∧ monI (monN k.val) = (k.val : Int) + 1 ∧ (monN k.val).all isLet = true := by decide +kernel
  exact this ⟨k, h⟩
/-- A day that is written is read as that. -/
theorem dayL_read (Y M D : Nat) (hY : Y < 10000) (hM1 : 1 ≤ M) (hM2 : M ≤ 12) (hD : D < 100) :
    tdB (dayL Y M D) = true ∧ tdY (dayL Y M D) = Y ∧ tdM (dayL Y M D) = M ∧ tdD (dayL Y M D) = D := by
  obtain ⟨m0, m1, m2, hm⟩ := mon_three (M - 1) (by omega)
  obtain ⟨r1, r2, _⟩ := mon_read (M - 1) (by omega)
  have n4 := num_pad4 Y hY 4 4 (Nat.le_refl _) (Nat.le_refl _)
  rw [hm] at r1 r2
  unfold dayL
  rw [hm]
  rcases Nat.lt_or_ge D 10 with h | h
  · rw [dec1 D h]
    have n1 := num_one D h 1 2 (by omega) (by omega)
    have e : [dg D] ++ [45] ++ [m0, m1, m2] ++ [45] ++ pad4 Y = dg D :: 45 :: m0 :: m1 :: m2 :: 45 :: pad4 Y := rfl
    rw [e]
    refine ⟨?_, n4.2, ?_, n1.2⟩
    · show (numB [dg D] 1 2 && monB [m0, m1, m2] && numB (pad4 Y) 4 4 && ((45 : UInt8) == 45) && ((45 : UInt8) == 45)) = true
      rw [n1.1, r1, n4.1]; rfl
    · show monI [m0, m1, m2] = M
      rw [r2]; omega
  · rw [dec2 D h hD]
    have n1 := num_two (D / 10) (D % 10) (by omega) (by omega) 1 2 (by omega) (by omega)
    have e : [dg (D / 10), dg (D % 10)] ++ [45] ++ [m0, m1, m2] ++ [45] ++ pad4 Y = dg (D / 10) :: dg (D % 10) :: 45 :: m0 :: m1 :: m2 :: 45 :: pad4 Y := rfl
    rw [e]
    refine ⟨?_, n4.2, ?_, ?_⟩
    · show (numB [dg (D / 10), dg (D % 10)] 1 2 && monB [m0, m1, m2] && numB (pad4 Y) 4 4 && ((45 : UInt8) == 45) && ((45 : UInt8) == 45)) = true
      rw [n1.1, r1, n4.1]; rfl
    · show monI [m0, m1, m2] = M
      rw [r2]; omega
    · show numI [dg (D / 10), dg (D % 10)] 1 2 = D
      rw [n1.2]; omega
theorem clock_read (h n s : Nat) (h1 : h ≤ 23) (h2 : n ≤ 59) (h3 : s ≤ 59) : tcB (clockL h n s) = true ∧ tcH (clockL h n s) = h ∧ tcN (clockL h n s) = n ∧ tcS (clockL h n s) = s := by
  have a := num_pad2 h (by omega) 2 2 (Nat.le_refl _) (Nat.le_refl _)
  have b := num_pad2 n (by omega) 2 2 (Nat.le_refl _) (Nat.le_refl _)
  have c := num_pad2 s (by omega) 2 2 (Nat.le_refl _) (Nat.le_refl _)
  have e1 : tcH (clockL h n s) = h := a.2
  have e2 : tcN (clockL h n s) = n := b.2
  have e3 : tcS (clockL h n s) = s := c.2
  refine ⟨?_, e1, e2, e3⟩
  unfold tcB
  rw [e1, e2, e3]
  show (numB (pad2 h) 2 2 && numB (pad2 n) 2 2 && numB (pad2 s) 2 2 && ((58 : UInt8) == 58) && ((58 : UInt8) == 58) && clockB h n s) = true
  rw [a.1, b.1, c.1]
  unfold clockB wi
  simp
  omega
theorem zone_read (z : Int) (h1 : -1439 ≤ z) (h2 : z ≤ 1439) : tzB (zoneL z) = true ∧ tzV (zoneL z) = z := by
  have a := num_pad2 (z.natAbs / 60) (by omega) 2 2 (Nat.le_refl _) (Nat.le_refl _)
  have b := num_pad2 (z.natAbs % 60) (by omega) 2 2 (Nat.le_refl _) (Nat.le_refl _)
  have eH : tzH (zoneL z) = ((z.natAbs / 60 : Nat) : Int) := a.2
  have eM : tzM (zoneL z) = ((z.natAbs % 60 : Nat) : Int) := b.2
  refine ⟨?_, ?_⟩
  · unfold tzB
    rw [eH, eM]
    show (true && (numB (pad2 (z.natAbs / 60)) 2 2 && numB (pad2 (z.natAbs % 60)) 2 2 && decide (((z.natAbs / 60 : Nat) : Int) ≤ 23) && decide (((z.natAbs % 60 : Nat) : Int) ≤ 59) && ((if z < 0 then 45 else 43) == (43 : UInt8) || (if z < 0 then 45 else 43) == (45 : UInt8)))) = true
    rw [a.1, b.1, decide_eq_true (by omega), decide_eq_true (by omega)]
    split <;> rfl
  · unfold tzV
    rw [eH, eM]
    show (if (if z < 0 then (45 : UInt8) else 43) == 45 then -(60 * ((z.natAbs / 60 : Nat) : Int) + ((z.natAbs % 60 : Nat) : Int)) else 60 * ((z.natAbs / 60 : Nat) : Int) + ((z.natAbs % 60 : Nat) : Int)) = z
    by_cases hz : z < 0
    · rw [if_pos hz]
      show -(60 * ((z.natAbs / 60 : Nat) : Int) + ((z.natAbs % 60 : Nat) : Int)) = z
      omega
    · rw [if_neg hz]
      show 60 * ((z.natAbs / 60 : Nat) : Int) + ((z.natAbs % 60 : Nat) : Int) = z
      omega
end Go.Proofs.YtngpejoiicpnkaaDoor
