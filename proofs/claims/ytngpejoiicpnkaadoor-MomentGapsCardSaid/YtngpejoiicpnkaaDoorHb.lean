/- Plain: INTERNALDATE and the header's date, written and read again. -/
import Derived.Test.YtngpejoiicpnkaaDoorHa
namespace Go.Proofs.YtngpejoiicpnkaaDoor
open Go.RowKit

/-- What is written of a moment is read as that. -/
theorem int_read (Y M D H N E : Nat) (z : Int) (hY : Y < 10000) (hM1 : 1 ≤ M) (hM2 : M ≤ 12) (hD : D < 100) (h1 : H ≤ 23) (h2 : N ≤ 59) (h3 : E ≤ 59) (h4 : -1439 ≤ z) (h5 : z ≤ 1439) :
    (piT Y M D H N E z).length = 26 ∧ riB (piT Y M D H N E z) = true ∧ riV (piT Y M D H N E z) = judV true Y M D H N E z ∧ riE (piT Y M D H N E z) = judE true Y M D := by
  obtain ⟨d1, d2, d3, d4⟩ := dayL_read Y M D hY hM1 hM2 hD
  obtain ⟨c1, c2, c3, c4⟩ := clock_read H N E h1 h2 h3
  obtain ⟨z1, z2⟩ := zone_read z h4 h5
  obtain ⟨m0, m1, m2, hm⟩ := mon_three (M - 1) (by omega)
  have key : (piT Y M D H N E z).length = 26 ∧ riDay (piT Y M D H N E z) = dayL Y M D ∧ ((piT Y M D H N E z).drop 12).take 8 = clockL H N E ∧ (piT Y M D H N E z).drop 21 = zoneL z ∧ bt (piT Y M D H N E z) 11 = 32 ∧ bt (piT Y M D H N E z) 20 = 32 := by
    unfold piT
    simp only [Int.toNat_natCast]
    rcases Nat.lt_or_ge D 10 with h | h
    · rw [if_pos (by omega)]
      unfold dayL
      rw [hm, dec1 D h]
      exact ⟨rfl, rfl, rfl, rfl, rfl, rfl⟩
    · rw [if_neg (by omega)]
      unfold dayL
      rw [hm, dec2 D h hD]
      refine ⟨rfl, ?_, rfl, rfl, rfl, rfl⟩
      have hne : (32 == dg (D / 10)) = false := by
        rw [beq_eq_false_iff_ne]
        intro hh
        have := congrArg UInt8.toNat hh
        rw [dg_toNat (D / 10) (by omega)] at this
        simp at this
        omega
      show Lib.trimPrefix (dg (D / 10) :: dg (D % 10) :: 45 :: m0 :: m1 :: m2 :: 45 :: pad4 Y) [32] = dg (D / 10) :: dg (D % 10) :: 45 :: m0 :: m1 :: m2 :: 45 :: pad4 Y
      have hp : Lib.hasPrefix (dg (D / 10) :: dg (D % 10) :: 45 :: m0 :: m1 :: m2 :: 45 :: pad4 Y) [32] = false := by
        simp only [Lib.hasPrefix, List.isPrefixOf, hne, Bool.false_and]
      simp [Lib.trimPrefix, hp]
  obtain ⟨k1, k2, k3, k4, k5, k6⟩ := key
  have hB : riB (piT Y M D H N E z) = true := by
    unfold riB riF
    rw [k1, k2, k3, k4, k5, k6, d1, c1, z1]; rfl
  refine ⟨k1, hB, ?_, ?_⟩
  · unfold riV; rw [hB, k2, k3, k4, d2, d3, d4, c2, c3, c4, z2]
  · unfold riE; rw [hB, k2, d2, d3, d4]
theorem let_ok (c : UInt8) (h : isLet c = true) : c ≠ 40 ∧ blankB c = false ∧ isDig c = false :=
  bytes_all (p := fun c => isLet c = true → c ≠ 40 ∧ blankB c = false ∧ isDig c = false) (by decide +kernel) c h
theorem dig_ok (c : UInt8) (h : isDig c = true) : c ≠ 40 ∧ blankB c = false ∧ isLet c = false :=
  bytes_all (p := fun c => isDig c = true → c ≠ 40 ∧ blankB c = false ∧ isLet c = false) (by decide +kernel) c h
theorem sk0 (c : UInt8) (q : List UInt8) (h : c ≠ 40) (hb : blankB c = false) : skD (c :: q) 0 false = 0 := by
  simp [skD, h, hb]
theorem stp_of (r : List UInt8) (h : skD r 0 false = 0) : stp r = ⟨cutK r, r.take (cutN r), r.drop (cutN r)⟩ := by
  unfold stp; rw [h]; rfl
theorem stp_blank (r : List UInt8) : stp (32 :: r) = stp r := by
  unfold stp
  have : skD (32 :: r) 0 false = 1 + skD r 0 false := by simp [skD, blankB]
  rw [this, Nat.add_comm]
  rfl
theorem stp_let3 (a b c x : UInt8) (q : List UInt8) (ha : isLet a = true) (hb : isLet b = true) (hc : isLet c = true) (hx : isLet x = false) : stp (a :: b :: c :: x :: q) = ⟨1, [a, b, c], x :: q⟩ := by
  obtain ⟨k1, k2, _⟩ := let_ok a ha
  rw [stp_of _ (sk0 a _ k1 k2)]
  have e1 : cutK (a :: b :: c :: x :: q) = 1 := by simp [cutK, ha]
  have e2 : cutN (a :: b :: c :: x :: q) = 3 := by simp [cutN, ha, hb, hc, hx, List.takeWhile]
  rw [e1, e2]; rfl
theorem stp_dig1 (a x : UInt8) (q : List UInt8) (ha : isDig a = true) (hx : isDig x = false) : stp (a :: x :: q) = ⟨2, [a], x :: q⟩ := by
  obtain ⟨k1, k2, k3⟩ := dig_ok a ha
  rw [stp_of _ (sk0 a _ k1 k2)]
  have e1 : cutK (a :: x :: q) = 2 := by simp [cutK, ha, k3]
  have e2 : cutN (a :: x :: q) = 1 := by simp [cutN, ha, k3, hx, List.takeWhile]
  rw [e1, e2]; rfl
theorem stp_dig2 (a b x : UInt8) (q : List UInt8) (ha : isDig a = true) (hb : isDig b = true) (hx : isDig x = false) : stp (a :: b :: x :: q) = ⟨2, [a, b], x :: q⟩ := by
  obtain ⟨k1, k2, k3⟩ := dig_ok a ha
  rw [stp_of _ (sk0 a _ k1 k2)]
  have e1 : cutK (a :: b :: x :: q) = 2 := by simp [cutK, ha, k3]
  have e2 : cutN (a :: b :: x :: q) = 2 := by simp [cutN, ha, hb, k3, hx, List.takeWhile]
  rw [e1, e2]; rfl
theorem stp_dig4 (a b c d x : UInt8) (q : List UInt8) (ha : isDig a = true) (hb : isDig b = true) (hc : isDig c = true) (hd : isDig d = true) (hx : isDig x = false) : stp (a :: b :: c :: d :: x :: q) = ⟨2, [a, b, c, d], x :: q⟩ := by
  obtain ⟨k1, k2, k3⟩ := dig_ok a ha
  rw [stp_of _ (sk0 a _ k1 k2)]
  have e1 : cutK (a :: b :: c :: d :: x :: q) = 2 := by simp [cutK, ha, k3]
  have e2 : cutN (a :: b :: c :: d :: x :: q) = 4 := by simp [cutN, ha, hb, hc, hd, k3, hx, List.takeWhile]
  rw [e1, e2]; rfl
theorem stp_comma (q : List UInt8) : stp (44 :: q) = ⟨4, [44], q⟩ := by
  rw [stp_of _ (sk0 44 _ (by decide) (by decide))]; rfl
theorem stp_colon (q : List UInt8) : stp (58 :: q) = ⟨5, [58], q⟩ := by
  rw [stp_of _ (sk0 58 _ (by decide) (by decide))]; rfl
theorem stp_sign (g a b c d : UInt8) (hg : g = 43 ∨ g = 45) (ha : isDig a = true) (hb : isDig b = true) (hc : isDig c = true) (hd : isDig d = true) : stp [g, a, b, c, d] = ⟨3, [g, a, b, c, d], []⟩ := by
  rcases hg with rfl | rfl
  · rw [stp_of _ (sk0 43 _ (by decide) (by decide))]
    have e1 : cutK [43, a, b, c, d] = 3 := by
      have : isLet 43 = false := by decide
      have h2 : isDig 43 = false := by decide
      simp [cutK, this, h2, ha, List.takeWhile]
    have e2 : cutN [43, a, b, c, d] = 5 := by
      have : isLet 43 = false := by decide
      have h2 : isDig 43 = false := by decide
      simp [cutN, this, h2, ha, hb, hc, hd, List.takeWhile]
    rw [e1, e2]; rfl
  · rw [stp_of _ (sk0 45 _ (by decide) (by decide))]
    have e1 : cutK [45, a, b, c, d] = 3 := by
      have : isLet 45 = false := by decide
      have h2 : isDig 45 = false := by decide
      simp [cutK, this, h2, ha, List.takeWhile]
    have e2 : cutN [45, a, b, c, d] = 5 := by
      have : isLet 45 = false := by decide
      have h2 : isDig 45 = false := by decide
      simp [cutN, this, h2, ha, hb, hc, hd, List.takeWhile]
    rw [e1, e2]; rfl
theorem stp_end : stp [] = ⟨0, [], []⟩ := rfl
end Go.Proofs.YtngpejoiicpnkaaDoor
