/- Plain: what is written is read again. Nothing of the program's calls. -/
import Derived.Test.YtckdmbeokajdjaaGreatDoorDy
namespace Go.Proofs.YtckdmbeokajdjaaGreatDoor
open Go.RowKit

theorem bytes_all {p : UInt8 → Prop} (h : ∀ c : Fin 256, p (UInt8.ofNat c.val)) (c : UInt8) : p c := by
  have := h ⟨c.toNat, c.toNat_lt⟩
  simpa using this
theorem dg_toNat (a : Nat) (h : a < 10) : (dg a).toNat = 48 + a := by unfold dg; simp; omega
theorem dg_isDig (a : Nat) (h : a < 10) : isDig (dg a) = true := by rw [isDig_iff, dg_toNat a h]; omega
theorem num_two (x y : Nat) (hx : x < 10) (hy : y < 10) (a b : Nat) (h1 : a ≤ 2) (h2 : 2 ≤ b) : numB [dg x, dg y] a b = true ∧ numI [dg x, dg y] a b = ((10 * x + y : Nat) : Int) := by
  have hb : numB [dg x, dg y] a b = true := numB_yes _ a b h1 h2 (by simp [dg_isDig x hx, dg_isDig y hy])
  refine ⟨hb, ?_⟩
  unfold numI
  rw [hb, if_pos rfl]
  have : valD [dg x, dg y] = 10 * x + y := by
    show 10 * (10 * 0 + ((dg x).toNat - 48)) + ((dg y).toNat - 48) = _
    rw [dg_toNat x hx, dg_toNat y hy]; omega
  rw [this]
theorem num_one (x : Nat) (hx : x < 10) (a b : Nat) (h1 : a ≤ 1) (h2 : 1 ≤ b) : numB [dg x] a b = true ∧ numI [dg x] a b = (x : Int) := by
  have hb : numB [dg x] a b = true := numB_yes _ a b h1 h2 (by simp [dg_isDig x hx])
  refine ⟨hb, ?_⟩
  unfold numI
  rw [hb, if_pos rfl]
  have : valD [dg x] = x := by
    show 10 * 0 + ((dg x).toNat - 48) = _
    rw [dg_toNat x hx]; omega
  rw [this]
theorem num_four (x y z t : Nat) (hx : x < 10) (hy : y < 10) (hz : z < 10) (ht : t < 10) (a b : Nat) (h1 : a ≤ 4) (h2 : 4 ≤ b) : numB [dg x, dg y, dg z, dg t] a b = true ∧ numI [dg x, dg y, dg z, dg t] a b = ((1000 * x + 100 * y + 10 * z + t : Nat) : Int) := by
  have hb : numB [dg x, dg y, dg z, dg t] a b = true := numB_yes _ a b h1 h2 (by simp [dg_isDig x hx, dg_isDig y hy, dg_isDig z hz, dg_isDig t ht])
  refine ⟨hb, ?_⟩
  unfold numI
  rw [hb, if_pos rfl]
  have : valD [dg x, dg y, dg z, dg t] = 1000 * x + 100 * y + 10 * z + t := by
    show 10 * (10 * (10 * (10 * 0 + ((dg x).toNat - 48)) + ((dg y).toNat - 48)) + ((dg z).toNat - 48)) + ((dg t).toNat - 48) = _
    rw [dg_toNat x hx, dg_toNat y hy, dg_toNat z hz, dg_toNat t ht]; omega
  rw [this]
theorem num_pad2 (n : Nat) (h : n < 100) (a b : Nat) (h1 : a ≤ 2) (h2 : 2 ≤ b) : numB (pad2 n) a b = true ∧ numI (pad2 n) a b = (n : Int) := by
  have := num_two (n / 10) (n % 10) (by omega) (by omega) a b h1 h2
  refine ⟨this.1, ?_⟩
  show numI [dg (n / 10), dg (n % 10)] a b = _
  rw [this.2]; omega
theorem num_pad4 (n : Nat) (h : n < 10000) (a b : Nat) (h1 : a ≤ 4) (h2 : 4 ≤ b) : numB (pad4 n) a b = true ∧ numI (pad4 n) a b = (n : Int) := by
  have := num_four (n / 1000) (n / 100 % 10) (n / 10 % 10) (n % 10) (by omega) (by omega) (by omega) (by omega) a b h1 h2
  refine ⟨this.1, ?_⟩
  show numI [dg (n / 1000), dg (n / 100 % 10), dg (n / 10 % 10), dg (n % 10)] a b = _
  rw [this.2]; omega
theorem mon_three (k : Nat) (h : k < 12) : ∃ m0 m1 m2, monN k = [m0, m1, m2] := by
  have hl := monN_len k h
  match hm : monN k, hl with
  | [a, b, c], _ => exact ⟨a, b, c, rfl⟩
theorem mon_read (k : Nat) (h : k < 12) : monB (monN k) = true ∧ monI (monN k) = (k : Int) + 1 ∧ (monN k).all isLet = true := by
  have : ∀ k : Fin 12, monB (monN k.val) = true ∧ monI (monN k.val) = (k.val : Int) + 1 ∧ (monN k.val).all isLet = true := by decide +kernel
  exact this ⟨k, h⟩
/-- A day that is written is read as that. -/
theorem dayL_read (Y M D : Nat) (hY : Y < 10000) (hM1 : 1 ≤ M) (hM2 : M ≤ 12) (hD : D < 100) :
    tdB (dayL Y M D) = true ∧ tdY (dayL Y M D) = Y ∧ tdM (dayL Y M D) = M ∧ tdD (dayL Y M D) = D := by
  obtain ⟨m0, m1, m2, hm⟩ := mon_three (M - 1) (by omega)
  obtain ⟨r1, r2, _⟩ := mon_read (M - 1) (by omega)
  have n4 := num_pad4 Y hY 4 4 (Nat.le_refl _) (Nat.le_refl _)
  rw [hm] at r1 r2
  unfold dayL
  rw [hm]
  rcases Nat.lt_or_ge D 10 with h | h
  · rw [dec1 D h]
    have n1 := num_one D h 1 2 (by omega) (by omega)
    have e : [dg D] ++ [45] ++ [m0, m1, m2] ++ [45] ++ pad4 Y = dg D :: 45 :: m0 :: m1 :: m2 :: 45 :: pad4 Y := rfl
    rw [e]
    refine ⟨?_, n4.2, ?_, n1.2⟩
    · show (numB [dg D] 1 2 && monB [m0, m1, m2] && numB (pad4 Y) 4 4 && ((45 : UInt8) == 45) && ((45 : UInt8) == 45)) = true
      rw [n1.1, r1, n4.1]; rfl
    · show monI [m0, m1, m2] = M
      rw [r2]; omega
  · rw [dec2 D h hD]
    have n1 := num_two (D / 10) (D % 10) (by omega) (by omega) 1 2 (by omega) (by omega)
    have e : [dg (D / 10), dg (D % 10)] ++ [45] ++ [m0, m1, m2] ++ [45] ++ pad4 Y = dg (D / 10) :: dg (D % 10) :: 45 :: m0 :: m1 :: m2 :: 45 :: pad4 Y := rfl
    rw [e]
    refine ⟨?_, n4.2, ?_, ?_⟩
    · show (numB [dg (D / 10), dg (D % 10)] 1 2 && monB [m0, m1, m2] && numB (pad4 Y) 4 4 && ((45 : UInt8) == 45) && ((45 : UInt8) == 45)) = true
      rw [n1.1, r1, n4.1]; rfl
    · show monI [m0, m1, m2] = M
      rw [r2]; omega
    · show numI [dg (D / 10), dg (D % 10)] 1 2 = D
      rw [n1.2]; omega
theorem clock_read (h n s : Nat) (h1 : h ≤ 23) (h2 : n ≤ 59) (h3 : s ≤ 59) : tcB (clockL h n s) = true ∧ tcH (clockL h n s) = h ∧ tcN (clockL h n s) = n ∧ tcS (clockL h n s) = s := by
  have a := num_pad2 h (by omega) 2 2 (Nat.le_refl _) (Nat.le_refl _)
  have b := num_pad2 n (by omega) 2 2 (Nat.le_refl _) (Nat.le_refl _)
  have c := num_pad2 s (by omega) 2 2 (Nat.le_refl _) (Nat.le_refl _)
  have e1 : tcH (clockL h n s) = h := a.2
  have e2 : tcN (clockL h n s) = n := b.2
  have e3 : tcS (clockL h n s) = s := c.2
  refine ⟨?_, e1, e2, e3⟩
  unfold tcB
  rw [e1, e2, e3]
  show (numB (pad2 h) 2 2 && numB (pad2 n) 2 2 && numB (pad2 s) 2 2 && ((58 : UInt8) == 58) && ((58 : UInt8) == 58) && clockB h n s) = true
  rw [a.1, b.1, c.1]
  unfold clockB wi
  simp
  omega
theorem zone_read (z : Int) (h1 : -1439 ≤ z) (h2 : z ≤ 1439) : tzB (zoneL z) = true ∧ tzV (zoneL z) = z := by
  have a := num_pad2 (z.natAbs / 60) (by omega) 2 2 (Nat.le_refl _) (Nat.le_refl _)
  have b := num_pad2 (z.natAbs % 60) (by omega) 2 2 (Nat.le_refl _) (Nat.le_refl _)
  have eH : tzH (zoneL z) = ((z.natAbs / 60 : Nat) : Int) := a.2
  have eM : tzM (zoneL z) = ((z.natAbs % 60 : Nat) : Int) := b.2
  refine ⟨?_, ?_⟩
  · unfold tzB
    rw [eH, eM]
    show (true && (numB (pad2 (z.natAbs / 60)) 2 2 && numB (pad2 (z.natAbs % 60)) 2 2 && decide (((z.natAbs / 60 : Nat) : Int) ≤ 23) && decide (((z.natAbs % 60 : Nat) : Int) ≤ 59) && ((if z < 0 then 45 else 43) == (43 : UInt8) || (if z < 0 then 45 else 43) == (45 : UInt8)))) = true
    rw [a.1, b.1, decide_eq_true (by omega), decide_eq_true (by omega)]
    split <;> rfl
  · unfold tzV
    rw [eH, eM]
    show (if (if z < 0 then (45 : UInt8) else 43) == 45 then -(60 * ((z.natAbs / 60 : Nat) : Int) + ((z.natAbs % 60 : Nat) : Int)) else 60 * ((z.natAbs / 60 : Nat) : Int) + ((z.natAbs % 60 : Nat) : Int)) = z
    by_cases hz : z < 0
    · rw [if_pos hz]
      show -(60 * ((z.natAbs / 60 : Nat) : Int) + ((z.natAbs % 60 : Nat) : Int)) = z
      omega
    · rw [if_neg hz]
      show 60 * ((z.natAbs / 60 : Nat) : Int) + ((z.natAbs % 60 : Nat) : Int) = z
      omega
end Go.Proofs.YtckdmbeokajdjaaGreatDoor

/- Plain: INTERNALDATE and the header's date, written and read again. -/
namespace Go.Proofs.YtckdmbeokajdjaaGreatDoor
open Go.RowKit

/-- What is written of a moment is read as that. -/
theorem int_read (Y M D H N E : Nat) (z : Int) (hY : Y < 10000) (hM1 : 1 ≤ M) (hM2 : M ≤ 12) (hD : D < 100) (h1 : H ≤ 23) (h2 : N ≤ 59) (h3 : E ≤ 59) (h4 : -1439 ≤ z) (h5 : z ≤ 1439) :
    (piT Y M D H N E z).length = 26 ∧ riB (piT Y M D H N E z) = true ∧ riV (piT Y M D H N E z) = judV true Y M D H N E z ∧ riE (piT Y M D H N E z) = judE true Y M D := by
  obtain ⟨d1, d2, d3, d4⟩ := dayL_read Y M D hY hM1 hM2 hD
  obtain ⟨c1, c2, c3, c4⟩ := clock_read H N E h1 h2 h3
  obtain ⟨z1, z2⟩ := zone_read z h4 h5
  obtain ⟨m0, m1, m2, hm⟩ := mon_three (M - 1) (by omega)
  have key : (piT Y M D H N E z).length = 26 ∧ riDay (piT Y M D H N E z) = dayL Y M D ∧ ((piT Y M D H N E z).drop 12).take 8 = clockL H N E ∧ (piT Y M D H N E z).drop 21 = zoneL z ∧ bt (piT Y M D H N E z) 11 = 32 ∧ bt (piT Y M D H N E z) 20 = 32 := by
    unfold piT
    simp only [Int.toNat_natCast]
    rcases Nat.lt_or_ge D 10 with h | h
    · rw [if_pos (by omega)]
      unfold dayL
      rw [hm, dec1 D h]
      exact ⟨rfl, rfl, rfl, rfl, rfl, rfl⟩
    · rw [if_neg (by omega)]
      unfold dayL
      rw [hm, dec2 D h hD]
      refine ⟨rfl, ?_, rfl, rfl, rfl, rfl⟩
      have hne : (32 == dg (D / 10)) = false := by
        rw [beq_eq_false_iff_ne]
        intro hh
        have := congrArg UInt8.toNat hh
        rw [dg_toNat (D / 10) (by omega)] at this
        simp at this
        omega
      show Lib.trimPrefix (dg (D / 10) :: dg (D % 10) :: 45 :: m0 :: m1 :: m2 :: 45 :: pad4 Y) [32] = dg (D / 10) :: dg (D % 10) :: 45 :: m0 :: m1 :: m2 :: 45 :: pad4 Y
      have hp : Lib.hasPrefix (dg (D / 10) :: dg (D % 10) :: 45 :: m0 :: m1 :: m2 :: 45 :: pad4 Y) [32] = false := by
        simp only [Lib.hasPrefix, List.isPrefixOf, hne, Bool.false_and]
      simp [Lib.trimPrefix, hp]
  obtain ⟨k1, k2, k3, k4, k5, k6⟩ := key
  have hB : riB (piT Y M D H N E z) = true := by
    unfold riB riF
    rw [k1, k2, k3, k4, k5, k6, d1, c1, z1]; rfl
  refine ⟨k1, hB, ?_, ?_⟩
  · unfold riV; rw [hB, k2, k3, k4, d2, d3, d4, c2, c3, c4, z2]
  · unfold riE; rw [hB, k2, d2, d3, d4]
theorem let_ok (c : UInt8) (h : isLet c = true) : c ≠ 40 ∧ blankB c = false ∧ isDig c = false :=
  bytes_all (p := fun c => isLet c = true → c ≠ 40 ∧ blankB c = false ∧ isDig c = false) (by decide +kernel) c h
theorem dig_ok (c : UInt8) (h : isDig c = true) : c ≠ 40 ∧ blankB c = false ∧ isLet c = false :=
  bytes_all (p := fun c => isDig c = true → c ≠ 40 ∧ blankB c = false ∧ isLet c = false) (by decide +kernel) c h
theorem sk0 (c : UInt8) (q : List UInt8) (h : c ≠ 40) (hb : blankB c = false) : skD (c :: q) 0 false = 0 := by
  simp [skD, h, hb]
theorem stp_of (r : List UInt8) (h : skD r 0 false = 0) : stp r = ⟨cutK r, r.take (cutN r), r.drop (cutN r)⟩ := by
  unfold stp; rw [h]; rfl
theorem stp_blank (r : List UInt8) : stp (32 :: r) = stp r := by
  unfold stp
  have : skD (32 :: r) 0 false = 1 + skD r 0 false := by simp [skD, blankB]
  rw [this, Nat.add_comm]
  rfl
theorem stp_let3 (a b c x : UInt8) (q : List UInt8) (ha : isLet a = true) (hb : isLet b = true) (hc : isLet c = true) (hx : isLet x = false) : stp (a :: b :: c :: x :: q) = ⟨1, [a, b, c], x :: q⟩ := by
  obtain ⟨k1, k2, _⟩ := let_ok a ha
  rw [stp_of _ (sk0 a _ k1 k2)]
  have e1 : cutK (a :: b :: c :: x :: q) = 1 := by simp [cutK, ha]
  have e2 : cutN (a :: b :: c :: x :: q) = 3 := by simp [cutN, ha, hb, hc, hx, List.takeWhile]
  rw [e1, e2]; rfl
theorem stp_dig1 (a x : UInt8) (q : List UInt8) (ha : isDig a = true) (hx : isDig x = false) : stp (a :: x :: q) = ⟨2, [a], x :: q⟩ := by
  obtain ⟨k1, k2, k3⟩ := dig_ok a ha
  rw [stp_of _ (sk0 a _ k1 k2)]
  have e1 : cutK (a :: x :: q) = 2 := by simp [cutK, ha, k3]
  have e2 : cutN (a :: x :: q) = 1 := by simp [cutN, ha, k3, hx, List.takeWhile]
  rw [e1, e2]; rfl
theorem stp_dig2 (a b x : UInt8) (q : List UInt8) (ha : isDig a = true) (hb : isDig b = true) (hx : isDig x = false) : stp (a :: b :: x :: q) = ⟨2, [a, b], x :: q⟩ := by
  obtain ⟨k1, k2, k3⟩ := dig_ok a ha
  rw [stp_of _ (sk0 a _ k1 k2)]
  have e1 : cutK (a :: b :: x :: q) = 2 := by simp [cutK, ha, k3]
  have e2 : cutN (a :: b :: x :: q) = 2 := by simp [cutN, ha, hb, k3, hx, List.takeWhile]
  rw [e1, e2]; rfl
theorem stp_dig4 (a b c d x : UInt8) (q : List UInt8) (ha : isDig a = true) (hb : isDig b = true) (hc : isDig c = true) (hd : isDig d = true) (hx : isDig x = false) : stp (a :: b :: c :: d :: x :: q) = ⟨2, [a, b, c, d], x :: q⟩ := by
  obtain ⟨k1, k2, k3⟩ := dig_ok a ha
  rw [stp_of _ (sk0 a _ k1 k2)]
  have e1 : cutK (a :: b :: c :: d :: x :: q) = 2 := by simp [cutK, ha, k3]
  have e2 : cutN (a :: b :: c :: d :: x :: q) = 4 := by simp [cutN, ha, hb, hc, hd, k3, hx, List.takeWhile]
  rw [e1, e2]; rfl
theorem stp_comma (q : List UInt8) : stp (44 :: q) = ⟨4, [44], q⟩ := by
  rw [stp_of _ (sk0 44 _ (by decide) (by decide))]; rfl
theorem stp_colon (q : List UInt8) : stp (58 :: q) = ⟨5, [58], q⟩ := by
  rw [stp_of _ (sk0 58 _ (by decide) (by decide))]; rfl
theorem stp_sign (g a b c d : UInt8) (hg : g = 43 ∨ g = 45) (ha : isDig a = true) (hb : isDig b = true) (hc : isDig c = true) (hd : isDig d = true) : stp [g, a, b, c, d] = ⟨3, [g, a, b, c, d], []⟩ := by
  rcases hg with rfl | rfl
  · rw [stp_of _ (sk0 43 _ (by decide) (by decide))]
    have e1 : cutK [43, a, b, c, d] = 3 := by
      have : isLet 43 = false := by decide
      have h2 : isDig 43 = false := by decide
      simp [cutK, this, h2, ha, List.takeWhile]
    have e2 : cutN [43, a, b, c, d] = 5 := by
      have : isLet 43 = false := by decide
      have h2 : isDig 43 = false := by decide
      simp [cutN, this, h2, ha, hb, hc, hd, List.takeWhile]
    rw [e1, e2]; rfl
  · rw [stp_of _ (sk0 45 _ (by decide) (by decide))]
    have e1 : cutK [45, a, b, c, d] = 3 := by
      have : isLet 45 = false := by decide
      have h2 : isDig 45 = false := by decide
      simp [cutK, this, h2, ha, List.takeWhile]
    have e2 : cutN [45, a, b, c, d] = 5 := by
      have : isLet 45 = false := by decide
      have h2 : isDig 45 = false := by decide
      simp [cutN, this, h2, ha, hb, hc, hd, List.takeWhile]
    rw [e1, e2]; rfl
theorem stp_end : stp [] = ⟨0, [], []⟩ := rfl
end Go.Proofs.YtckdmbeokajdjaaGreatDoor

/- Plain: the header's date, written and read again. -/
namespace Go.Proofs.YtckdmbeokajdjaaGreatDoor
open Go.RowKit

theorem head_gen {T R1 R2 R3 R4 R5 R6 R7 wd dD mon y4 hh nn ss zz : List UInt8} {Y M D H N E z : Int}
    (s1 : stp T = ⟨1, wd, 44 :: 32 :: R1⟩) (s2 : stp (44 :: 32 :: R1) = ⟨4, [44], 32 :: R1⟩) (s3 : stp (32 :: R1) = ⟨2, dD, 32 :: R2⟩) (s4 : stp (32 :: R2) = ⟨1, mon, 32 :: R3⟩) (s5 : stp (32 :: R3) = ⟨2, y4, 32 :: R4⟩)
    (s6 : stp (32 :: R4) = ⟨2, hh, 58 :: R5⟩) (s7 : stp (58 :: R5) = ⟨5, [58], R5⟩) (s8 : stp R5 = ⟨2, nn, 58 :: R6⟩) (s9 : stp (58 :: R6) = ⟨5, [58], R6⟩) (s10 : stp R6 = ⟨2, ss, 32 :: R7⟩) (s11 : stp (32 :: R7) = ⟨3, zz, []⟩)
    (f1 : wdB wd = true) (f2 : numB dD 1 2 = true) (f3 : numI dD 1 2 = D) (f4 : D ≤ 99) (f5 : monB mon = true) (f6 : monI mon = M) (f7 : numB y4 2 4 = true) (f8 : numI y4 2 4 = Y) (f9 : y4.length = 4)
    (g1 : numB hh 1 2 = true) (g2 : numI hh 1 2 = H) (g3 : H ≤ 23) (g4 : numB nn 1 2 = true) (g5 : numI nn 1 2 = N) (g6 : N ≤ 59) (g7 : numB ss 1 2 = true) (g8 : numI ss 1 2 = E) (g9 : E ≤ 59)
    (z1 : tzB zz = true) (z2 : tzV zz = z) (nz : Int) :
    rhB T = true ∧ rhV T nz = judV true Y M D H N E z ∧ rhE T = judE true Y M D ∧ (hc3 T).k ≠ 1 := by
  have a1 : hc1 T = ⟨2, dD, 32 :: R2⟩ := by
    unfold hc1 wkC; rw [s1]; simp only [Cur.take, if_true]; rw [s2]; simp only [if_true]; exact s3
  have aw : wkB (stp T) = true := by
    unfold wkB; rw [s1]; simp only [Cur.take, if_true]; rw [s2, f1]; rfl
  have sh : Cur.short ⟨2, dD, 32 :: R2⟩ 99 = ((D, true), ⟨1, mon, 32 :: R3⟩) := by
    unfold Cur.short; simp only [Cur.take, if_true]; rw [s4, f2, f3, decide_eq_true f4]; rfl
  have tm : Cur.take ⟨1, mon, 32 :: R3⟩ 1 = ((mon, true), ⟨2, y4, 32 :: R4⟩) := by
    simp only [Cur.take, if_true]; rw [s5]
  have ty : Cur.take ⟨2, y4, 32 :: R4⟩ 2 = ((y4, true), ⟨2, hh, 58 :: R5⟩) := by
    simp only [Cur.take, if_true]; rw [s6]
  have fy : fyI y4 = Y := by unfold fyI; rw [f7, if_pos rfl, if_pos f9]; exact f8
  have d1 : dyD (hc1 T) = D := by unfold dyD; rw [a1, sh]
  have d2 : dyM (hc1 T) = M := by unfold dyM; rw [a1, sh]; simp only; rw [tm]; exact f6
  have d3 : dyY (hc1 T) = Y := by unfold dyY; rw [a1, sh]; simp only; rw [tm]; simp only; rw [ty]; exact fy
  have d4 : dyB (hc1 T) = true := by unfold dyB fyB; rw [a1, sh]; simp only; rw [tm]; simp only; rw [ty, f5, f7]; rfl
  have a2 : hc2 T = ⟨2, hh, 58 :: R5⟩ := by unfold hc2 dyC; rw [a1, sh]; simp only; rw [tm]; simp only; rw [ty]
  have th : Cur.short ⟨2, hh, 58 :: R5⟩ 23 = ((H, true), ⟨5, [58], R5⟩) := by
    unfold Cur.short; simp only [Cur.take, if_true]; rw [s7, g1, g2, decide_eq_true g3]; rfl
  have t5 : Cur.take ⟨5, [58], R5⟩ 5 = (([58], true), ⟨2, nn, 58 :: R6⟩) := by
    simp only [Cur.take, if_true]; rw [s8]
  have tn : Cur.short ⟨2, nn, 58 :: R6⟩ 59 = ((N, true), ⟨5, [58], R6⟩) := by
    unfold Cur.short; simp only [Cur.take, if_true]; rw [s9, g4, g5, decide_eq_true g6]; rfl
  have t6 : Cur.take ⟨5, [58], R6⟩ 5 = (([58], true), ⟨2, ss, 32 :: R7⟩) := by
    simp only [Cur.take, if_true]; rw [s10]
  have ts : Cur.short ⟨2, ss, 32 :: R7⟩ 60 = ((E, true), ⟨3, zz, []⟩) := by
    unfold Cur.short; simp only [Cur.take, if_true]; rw [s11, g7, g8, decide_eq_true (by omega)]; rfl
  have e1 : clH (hc2 T) = H := by unfold clH; rw [a2, th]
  have e2 : clN (hc2 T) = N := by unfold clN; rw [a2, th]; simp only; rw [t5]; simp only; rw [tn]
  have e3 : clF (hc2 T) = true := by unfold clF; rw [a2, th]; simp only; rw [t5]; simp only; rw [tn]; rfl
  have e4 : clR (hc2 T) = ⟨5, [58], R6⟩ := by unfold clR; rw [a2, th]; simp only; rw [t5]; simp only; rw [tn]
  have e5 : seB (clR (hc2 T)) = true := by unfold seB; rw [e4, t6]; simp only [if_true]; rw [ts]
  have e6 : seS (clR (hc2 T)) 0 = E := by unfold seS; rw [e4, t6]; simp only [if_true]; rw [ts]; simp only; omega
  have e7 : seC (clR (hc2 T)) = ⟨3, zz, []⟩ := by unfold seC; rw [e4, t6]; simp only [if_true]; rw [ts]
  have e8 : clS (hc2 T) 0 = E := by unfold clS; rw [e3, if_pos rfl]; exact e6
  have e9 : clB (hc2 T) = true := by unfold clB; rw [e3, e5]; rfl
  have a3 : hc3 T = ⟨3, zz, []⟩ := by unfold hc3 clC; rw [e3, if_pos rfl]; exact e7
  have hB : rhB T = true := by
    unfold rhB
    rw [aw, d4, e9, a3]
    have : znB ⟨3, zz, []⟩ = true := by show (if (3 : Nat) = 1 then true else if (3 : Nat) = 3 then tzB zz else true) = true; rw [if_neg (by decide), if_pos rfl]; exact z1
    rw [this]
    rfl
  have hz : znZ (hc3 T) nz 0 = z := by rw [a3]; show (if (3 : Nat) = 1 then nz else if (3 : Nat) = 3 then tzV zz else 0) = z; rw [if_neg (by decide), if_pos rfl]; exact z2
  refine ⟨hB, ?_, ?_, ?_⟩
  · unfold rhV; rw [hB, d1, d2, d3, e1, e2, e8, hz]
  · unfold rhE; rw [hB, d1, d2, d3]
  · rw [a3]; show (3 : Nat) ≠ 1; decide
def phT (k Y M D H N E : Nat) (z : Int) : List UInt8 := wdN k ++ [44, 32] ++ (Lib.decDigits D ++ [32] ++ monN (M - 1) ++ [32] ++ pad4 Y) ++ [32] ++ clockL H N E ++ [32] ++ zoneL z
theorem wd_three (k : Nat) (h : k < 7) : ∃ a b c, wdN k = [a, b, c] ∧ isLet a = true ∧ isLet b = true ∧ isLet c = true ∧ wdB [a, b, c] = true := by
  have : ∀ k : Fin 7, (wdN k.val).length = 3 ∧ (wdN k.val).all isLet = true ∧ wdB (wdN k.val) = true := by decide +kernel
  obtain ⟨h1, h2, h3⟩ := this ⟨k, h⟩
  match hm : wdN k, h1 with
  | [a, b, c], _ =>
    change (wdN k).all isLet = true at h2
    change wdB (wdN k) = true at h3
    rw [hm] at h2 h3
    simp at h2
    exact ⟨a, b, c, rfl, h2.1, h2.2.1, h2.2.2, h3⟩
theorem head_read (k Y M D H N E : Nat) (z nz : Int) (hk : k < 7) (hY : Y < 10000) (hM1 : 1 ≤ M) (hM2 : M ≤ 12) (hD : D < 100) (h1 : H ≤ 23) (h2 : N ≤ 59) (h3 : E ≤ 59) (h4 : -1439 ≤ z) (h5 : z ≤ 1439) :
    rhB (phT k Y M D H N E z) = true ∧ rhV (phT k Y M D H N E z) nz = judV true Y M D H N E z ∧ rhE (phT k Y M D H N E z) = judE true Y M D ∧ (hc3 (phT k Y M D H N E z)).k ≠ 1 := by
  obtain ⟨a, b, c, hw, la, lb, lc, hwb⟩ := wd_three k hk
  obtain ⟨m0, m1, m2, hm⟩ := mon_three (M - 1) (by omega)
  obtain ⟨r1, r2, r3⟩ := mon_read (M - 1) (by omega)
  rw [hm] at r1 r2 r3
  simp at r3
  obtain ⟨q1, q2⟩ := zone_read z h4 h5
  have n4 := num_pad4 Y hY 2 4 (by omega) (by omega)
  have nH := num_pad2 H (by omega) 1 2 (by omega) (by omega)
  have nN := num_pad2 N (by omega) 1 2 (by omega) (by omega)
  have nE := num_pad2 E (by omega) 1 2 (by omega) (by omega)
  have L44 : isLet 44 = false := by decide
  have L32 : isLet 32 = false := by decide
  have D32 : isDig 32 = false := by decide
  have D58 : isDig 58 = false := by decide
  have dd : ∀ x, x < 10 → isDig (dg x) = true := dg_isDig
  have sg : (if z < 0 then (45 : UInt8) else 43) = 43 ∨ (if z < 0 then (45 : UInt8) else 43) = 45 := by split <;> simp
  have k11 : stp (32 :: zoneL z) = ⟨3, zoneL z, []⟩ := by
    rw [stp_blank]
    exact stp_sign _ _ _ _ _ sg (dd _ (by omega)) (dd _ (by omega)) (dd _ (by omega)) (dd _ (by omega))
  have k10 : stp (pad2 E ++ 32 :: zoneL z) = ⟨2, pad2 E, 32 :: zoneL z⟩ := stp_dig2 _ _ _ _ (dd _ (by omega)) (dd _ (by omega)) D32
  have k8 : stp (pad2 N ++ 58 :: (pad2 E ++ 32 :: zoneL z)) = ⟨2, pad2 N, 58 :: (pad2 E ++ 32 :: zoneL z)⟩ := stp_dig2 _ _ _ _ (dd _ (by omega)) (dd _ (by omega)) D58
  have k6 : stp (32 :: (pad2 H ++ 58 :: (pad2 N ++ 58 :: (pad2 E ++ 32 :: zoneL z)))) = ⟨2, pad2 H, 58 :: (pad2 N ++ 58 :: (pad2 E ++ 32 :: zoneL z))⟩ := by
    rw [stp_blank]
    exact stp_dig2 _ _ _ _ (dd _ (by omega)) (dd _ (by omega)) D58
  have k5 : stp (32 :: (pad4 Y ++ 32 :: (pad2 H ++ 58 :: (pad2 N ++ 58 :: (pad2 E ++ 32 :: zoneL z))))) = ⟨2, pad4 Y, 32 :: (pad2 H ++ 58 :: (pad2 N ++ 58 :: (pad2 E ++ 32 :: zoneL z)))⟩ := by
    rw [stp_blank]
    exact stp_dig4 _ _ _ _ _ _ (dd _ (by omega)) (dd _ (by omega)) (dd _ (by omega)) (dd _ (by omega)) D32
  have k4 : stp (32 :: ([m0, m1, m2] ++ 32 :: (pad4 Y ++ 32 :: (pad2 H ++ 58 :: (pad2 N ++ 58 :: (pad2 E ++ 32 :: zoneL z)))))) = ⟨1, [m0, m1, m2], 32 :: (pad4 Y ++ 32 :: (pad2 H ++ 58 :: (pad2 N ++ 58 :: (pad2 E ++ 32 :: zoneL z))))⟩ := by
    rw [stp_blank]
    exact stp_let3 _ _ _ _ _ r3.1 r3.2.1 r3.2.2 L32
  rcases Nat.lt_or_ge D 10 with h | h
  · have nD := num_one D h 1 2 (by omega) (by omega)
    have k3 : stp (32 :: (dg D :: 32 :: ([m0, m1, m2] ++ 32 :: (pad4 Y ++ 32 :: (pad2 H ++ 58 :: (pad2 N ++ 58 :: (pad2 E ++ 32 :: zoneL z))))))) = ⟨2, [dg D], 32 :: ([m0, m1, m2] ++ 32 :: (pad4 Y ++ 32 :: (pad2 H ++ 58 :: (pad2 N ++ 58 :: (pad2 E ++ 32 :: zoneL z)))))⟩ := by
      rw [stp_blank]
      exact stp_dig1 _ _ _ (dd _ h) D32
    have hT : phT k Y M D H N E z = a :: b :: c :: 44 :: 32 :: (dg D :: 32 :: ([m0, m1, m2] ++ 32 :: (pad4 Y ++ 32 :: (pad2 H ++ 58 :: (pad2 N ++ 58 :: (pad2 E ++ 32 :: zoneL z)))))) := by
      unfold phT clockL; rw [hw, hm, dec1 D h]; simp only [List.append_assoc, List.cons_append, List.nil_append]
    rw [hT]
    exact head_gen (stp_let3 a b c 44 _ la lb lc L44) (stp_comma _) k3 k4 k5 k6 (stp_colon _) k8 (stp_colon _) k10 k11 hwb nD.1 nD.2 (by omega) r1 (by rw [r2]; omega) n4.1 n4.2 rfl nH.1 nH.2 (by omega) nN.1 nN.2 (by omega) nE.1 nE.2 (by omega) q1 q2 nz
  · have nD := num_two (D / 10) (D % 10) (by omega) (by omega) 1 2 (by omega) (by omega)
    have k3 : stp (32 :: (dg (D / 10) :: dg (D % 10) :: 32 :: ([m0, m1, m2] ++ 32 :: (pad4 Y ++ 32 :: (pad2 H ++ 58 :: (pad2 N ++ 58 :: (pad2 E ++ 32 :: zoneL z))))))) = ⟨2, [dg (D / 10), dg (D % 10)], 32 :: ([m0, m1, m2] ++ 32 :: (pad4 Y ++ 32 :: (pad2 H ++ 58 :: (pad2 N ++ 58 :: (pad2 E ++ 32 :: zoneL z)))))⟩ := by
      rw [stp_blank]
      exact stp_dig2 _ _ _ _ (dd _ (by omega)) (dd _ (by omega)) D32
    have hT : phT k Y M D H N E z = a :: b :: c :: 44 :: 32 :: (dg (D / 10) :: dg (D % 10) :: 32 :: ([m0, m1, m2] ++ 32 :: (pad4 Y ++ 32 :: (pad2 H ++ 58 :: (pad2 N ++ 58 :: (pad2 E ++ 32 :: zoneL z)))))) := by
      unfold phT clockL; rw [hw, hm, dec2 D h hD]; simp only [List.append_assoc, List.cons_append, List.nil_append]
    rw [hT]
    exact head_gen (stp_let3 a b c 44 _ la lb lc L44) (stp_comma _) k3 k4 k5 k6 (stp_colon _) k8 (stp_colon _) k10 k11 hwb nD.1 (D := (D : Int)) (by rw [nD.2]; omega) (by omega) r1 (by rw [r2]; omega) n4.1 n4.2 rfl nH.1 nH.2 (by omega) nN.1 nN.2 (by omega) nE.1 nE.2 (by omega) q1 q2 nz
end Go.Proofs.YtckdmbeokajdjaaGreatDoor
