/- Plain: the header's date, written and read again. -/
import Derived.Test.YtngpejoiicpnkaaDoorHb
namespace Go.Proofs.YtngpejoiicpnkaaDoor
open Go.RowKit

theorem head_gen {T R1 R2 R3 R4 R5 R6 R7 wd dD mon y4 hh nn ss zz : List UInt8} {Y M D H N E z : Int}
    (s1 : stp T = ⟨1, wd, 44 :: 32 :: R1⟩) (s2 : stp (44 :: 32 :: R1) = ⟨4, [44], 32 :: R1⟩) (s3 : stp (32 :: R1) = ⟨2, dD, 32 :: R2⟩) (s4 : stp (32 :: R2) = ⟨1, mon, 32 :: R3⟩) (s5 : stp (32 :: R3) = ⟨2, y4, 32 :: R4⟩)
    (s6 : stp (32 :: R4) = ⟨2, hh, 58 :: R5⟩) (s7 : stp (58 :: R5) = ⟨5, [58], R5⟩) (s8 : stp R5 = ⟨2, nn, 58 :: R6⟩) (s9 : stp (58 :: R6) = ⟨5, [58], R6⟩) (s10 : stp R6 = ⟨2, ss, 32 :: R7⟩) (s11 : stp (32 :: R7) = ⟨3, zz, []⟩)
    (f1 : wdB wd = true) (f2 : numB dD 1 2 = true) (f3 : numI dD 1 2 = D) (f4 : D ≤ 99) (f5 : monB mon = true) (f6 : monI mon = M) (f7 : numB y4 2 4 = true) (f8 : numI y4 2 4 = Y) (f9 : y4.length = 4)
    (g1 : numB hh 1 2 = true) (g2 : numI hh 1 2 = H) (g3 : H ≤ 23) (g4 : numB nn 1 2 = true) (g5 : numI nn 1 2 = N) (g6 : N ≤ 59) (g7 : numB ss 1 2 = true) (g8 : numI ss 1 2 = E) (g9 : E ≤ 59)
    (z1 : tzB zz = true) (z2 : tzV zz = z) (nz : Int) :
    rhB T = true ∧ rhV T nz = judV true Y M D H N E z ∧ rhE T = judE true Y M D ∧ (hc3 T).k ≠ 1 := by
  have a1 : hc1 T = ⟨2, dD, 32 :: R2⟩ := by
    unfold hc1 wkC; rw [s1]; simp only [Cur.take, if_true]; rw [s2]; simp only [if_true]; exact s3
  have aw : wkB (stp T) = true := by
    unfold wkB; rw [s1]; simp only [Cur.take, if_true]; rw [s2, f1]; rfl
  have sh : Cur.short ⟨2, dD, 32 :: R2⟩ 99 = ((D, true), ⟨1, mon, 32 :: R3⟩) := by
    unfold Cur.short; simp only [Cur.take, if_true]; rw [s4, f2, f3, decide_eq_true f4]; rfl
  have tm : Cur.take ⟨1, mon, 32 :: R3⟩ 1 = ((mon, true), ⟨2, y4, 32 :: R4⟩) := by
    simp only [Cur.take, if_true]; rw [s5]
  have ty : Cur.take ⟨2, y4, 32 :: R4⟩ 2 = ((y4, true), ⟨2, hh, 58 :: R5⟩) := by
    simp only [Cur.take, if_true]; rw [s6]
  have fy : fyI y4 = Y := by unfold fyI; rw [f7, if_pos rfl, if_pos f9]; exact f8
  have d1 : dyD (hc1 T) = D := by unfold dyD; rw [a1, sh]
  have d2 : dyM (hc1 T) = M := by unfold dyM; rw [a1, sh]; simp only; rw [tm]; exact f6
  have d3 : dyY (hc1 T) = Y := by unfold dyY; rw [a1, sh]; simp only; rw [tm]; simp only; rw [ty]; exact fy
  have d4 : dyB (hc1 T) = true := by unfold dyB fyB; rw [a1, sh]; simp only; rw [tm]; simp only; rw [ty, f5, f7]; rfl
  have a2 : hc2 T = ⟨2, hh, 58 :: R5⟩ := by unfold hc2 dyC; rw [a1, sh]; simp only; rw [tm]; simp only; rw [ty]
  have th : Cur.short ⟨2, hh, 58 :: R5⟩ 23 = ((H, true), ⟨5, [58], R5⟩) := by
    unfold Cur.short; simp only [Cur.take, if_true]; rw [s7, g1, g2, decide_eq_true g3]; rfl
  have t5 : Cur.take ⟨5, [58], R5⟩ 5 = (([58], true), ⟨2, nn, 58 :: R6⟩) := by
    simp only [Cur.take, if_true]; rw [s8]
  have tn : Cur.short ⟨2, nn, 58 :: R6⟩ 59 = ((N, true), ⟨5, [58], R6⟩) := by
    unfold Cur.short; simp only [Cur.take, if_true]; rw [s9, g4, g5, decide_eq_true g6]; rfl
  have t6 : Cur.take ⟨5, [58], R6⟩ 5 = (([58], true), ⟨2, ss, 32 :: R7⟩) := by
    simp only [Cur.take, if_true]; rw [s10]
  have ts : Cur.short ⟨2, ss, 32 :: R7⟩ 60 = ((E, true), ⟨3, zz, []⟩) := by
    unfold Cur.short; simp only [Cur.take, if_true]; rw [s11, g7, g8, decide_eq_true (by omega)]; rfl
  have e1 : clH (hc2 T) = H := by unfold clH; rw [a2, th]
  have e2 : clN (hc2 T) = N := by unfold clN; rw [a2, th]; simp only; rw [t5]; simp only; rw [tn]
  have e3 : clF (hc2 T) = true := by unfold clF; rw [a2, th]; simp only; rw [t5]; simp only; rw [tn]; rfl
  have e4 : clR (hc2 T) = ⟨5, [58], R6⟩ := by unfold clR; rw [a2, th]; simp only; rw [t5]; simp only; rw [tn]
  have e5 : seB (clR (hc2 T)) = true := by unfold seB; rw [e4, t6]; simp only [if_true]; rw [ts]
  have e6 : seS (clR (hc2 T)) 0 = E := by unfold seS; rw [e4, t6]; simp only [if_true]; rw [ts]; simp only; omega
  have e7 : seC (clR (hc2 T)) = ⟨3, zz, []⟩ := by unfold seC; rw [e4, t6]; simp only [if_true]; rw [ts]
  have e8 : clS (hc2 T) 0 = E := by unfold clS; rw [e3, if_pos rfl]; exact e6
  have e9 : clB (hc2 T) = true := by unfold clB; rw [e3, e5]; rfl
  have a3 : hc3 T = ⟨3, zz, []⟩ := by unfold hc3 clC; rw [e3, if_pos rfl]; exact e7
  have hB : rhB T = true := by
    unfold rhB
    rw [aw, d4, e9, a3]
    have : znB ⟨3, zz, []⟩ = true := by show (if (3 : Nat) = 1 then true else if (3 : Nat) = 3 then tzB zz else true) = true; rw [if_neg (by decide), if_pos rfl]; exact z1
    rw [this]
    rfl
  have hz : znZ (hc3 T) nz 0 = z := by rw [a3]; show (if (3 : Nat) = 1 then nz else if (3 : Nat) = 3 then tzV zz else 0) = z; rw [if_neg (by decide), if_pos rfl]; exact z2
  refine ⟨hB, ?_, ?_, ?_⟩
  · unfold rhV; rw [hB, d1, d2, d3, e1, e2, e8, hz]
  · unfold rhE; rw [hB, d1, d2, d3]
  · rw [a3]; show (3 : Nat) ≠ 1; decide
def phT (k Y M D H N E : Nat) (z : Int) : List UInt8 := wdN k ++ [44, 32] ++ (Lib.decDigits D ++ [32] ++ monN (M - 1) ++ [32] ++ pad4 Y) ++ [32] ++ clockL H N E ++ [32] ++ zoneL z
theorem wd_three (k : Nat) (h : k < 7) : ∃ a b c, wdN k = [a, b, c] ∧ isLet a = true ∧ isLet b = true ∧ isLet c = true ∧ wdB [a, b, c] = true := by
  have : ∀ k : Fin 7, (wdN k.val).length = 3 ∧ (wdN k.val).all isLet = true ∧ wdB (wdN k.val) = true := by decide +kernel
  obtain ⟨h1, h2, h3⟩ := this ⟨k, h⟩
  match hm : wdN k, h1 with
  | [a, b, c], _ =>
    change (wdN k).all isLet = true at h2
    change wdB (wdN k) = true at h3
    rw [hm] at h2 h3
    simp at h2
    exact ⟨a, b, c, rfl, h2.1, h2.2.1, h2.2.2, h3⟩
theorem head_read (k Y M D H N E : Nat) (z nz : Int) (hk : k < 7) (hY : Y < 10000) (hM1 : 1 ≤ M) (hM2 : M ≤ 12) (hD : D < 100) (h1 : H ≤ 23) (h2 : N ≤ 59) (h3 : E ≤ 59) (h4 : -1439 ≤ z) (h5 : z ≤ 1439) :
    rhB (phT k Y M D H N E z) = true ∧ rhV (phT k Y M D H N E z) nz = judV true Y M D H N E z ∧ rhE (phT k Y M D H N E z) = judE true Y M D ∧ (hc3 (phT k Y M D H N E z)).k ≠ 1 := by
  obtain ⟨a, b, c, hw, la, lb, lc, hwb⟩ := wd_three k hk
  obtain ⟨m0, m1, m2, hm⟩ := mon_three (M - 1) (by omega)
  obtain ⟨r1, r2, r3⟩ := mon_read (M - 1) (by omega)
  rw [hm] at r1 r2 r3
  simp at r3
  obtain ⟨q1, q2⟩ := zone_read z h4 h5
  have n4 := num_pad4 Y hY 2 4 (by omega) (by omega)
  have nH := num_pad2 H (by omega) 1 2 (by omega) (by omega)
  have nN := num_pad2 N (by omega) 1 2 (by omega) (by omega)
  have nE := num_pad2 E (by omega) 1 2 (by omega) (by omega)
  have L44 : isLet 44 = false := by decide
  have L32 : isLet 32 = false := by decide
  have D32 : isDig 32 = false := by decide
  have D58 : isDig 58 = false := by decide
  have dd : ∀ x, x < 10 → isDig (dg x) = true := dg_isDig
  have sg : (if z < 0 then (45 : UInt8) else 43) = 43 ∨ (if z < 0 then (45 : UInt8) else 43) = 45 := by split <;> simp
  have k11 : stp (32 :: zoneL z) = ⟨3, zoneL z, []⟩ := by
    rw [stp_blank]
    exact stp_sign _ _ _ _ _ sg (dd _ (by omega)) (dd _ (by omega)) (dd _ (by omega)) (dd _ (by omega))
  have k10 : stp (pad2 E ++ 32 :: zoneL z) = ⟨2, pad2 E, 32 :: zoneL z⟩ := stp_dig2 _ _ _ _ (dd _ (by omega)) (dd _ (by omega)) D32
  have k8 : stp (pad2 N ++ 58 :: (pad2 E ++ 32 :: zoneL z)) = ⟨2, pad2 N, 58 :: (pad2 E ++ 32 :: zoneL z)⟩ := stp_dig2 _ _ _ _ (dd _ (by omega)) (dd _ (by omega)) D58
  have k6 : stp (32 :: (pad2 H ++ 58 :: (pad2 N ++ 58 :: (pad2 E ++ 32 :: zoneL z)))) = ⟨2, pad2 H, 58 :: (pad2 N ++ 58 :: (pad2 E ++ 32 :: zoneL z))⟩ := by
    rw [stp_blank]
    exact stp_dig2 _ _ _ _ (dd _ (by omega)) (dd _ (by omega)) D58
  have k5 : stp (32 :: (pad4 Y ++ 32 :: (pad2 H ++ 58 :: (pad2 N ++ 58 :: (pad2 E ++ 32 :: zoneL z))))) = ⟨2, pad4 Y, 32 :: (pad2 H ++ 58 :: (pad2 N ++ 58 :: (pad2 E ++ 32 :: zoneL z)))⟩ := by
    rw [stp_blank]
    exact stp_dig4 _ _ _ _ _ _ (dd _ (by omega)) (dd _ (by omega)) (dd _ (by omega)) (dd _ (by omega)) D32
  have k4 : stp (32 :: ([m0, m1, m2] ++ 32 :: (pad4 Y ++ 32 :: (pad2 H ++ 58 :: (pad2 N ++ 58 :: (pad2 E ++ 32 :: zoneL z)))))) = ⟨1, [m0, m1, m2], 32 :: (pad4 Y ++ 32 :: (pad2 H ++ 58 :: (pad2 N ++ 58 :: (pad2 E ++ 32 :: zoneL z))))⟩ := by
    rw [stp_blank]
    exact stp_let3 _ _ _ _ _ r3.1 r3.2.1 r3.2.2 L32
  rcases Nat.lt_or_ge D 10 with h | h
  · have nD := num_one D h 1 2 (by omega) (by omega)
    have k3 : stp (32 :: (dg D :: 32 :: ([m0, m1, m2] ++ 32 :: (pad4 Y ++ 32 :: (pad2 H ++ 58 :: (pad2 N ++ 58 :: (pad2 E ++ 32 :: zoneL z))))))) = ⟨2, [dg D], 32 :: ([m0, m1, m2] ++ 32 :: (pad4 Y ++ 32 :: (pad2 H ++ 58 :: (pad2 N ++ 58 :: (pad2 E ++ 32 :: zoneL z)))))⟩ := by
      rw [stp_blank]
      exact stp_dig1 _ _ _ (dd _ h) D32
    have hT : phT k Y M D H N E z = a :: b :: c :: 44 :: 32 :: (dg D :: 32 :: ([m0, m1, m2] ++ 32 :: (pad4 Y ++ 32 :: (pad2 H ++ 58 :: (pad2 N ++ 58 :: (pad2 E ++ 32 :: zoneL z)))))) := by
      unfold phT clockL; rw [hw, hm, dec1 D h]; simp only [List.append_assoc, List.cons_append, List.nil_append]
    rw [hT]
    exact head_gen (stp_let3 a b c 44 _ la lb lc L44) (stp_comma _) k3 k4 k5 k6 (stp_colon _) k8 (stp_colon _) k10 k11 hwb nD.1 nD.2 (by omega) r1 (by rw [r2]; omega) n4.1 n4.2 rfl nH.1 nH.2 (by omega) nN.1 nN.2 (by omega) nE.1 nE.2 (by omega) q1 q2 nz
  · have nD := num_two (D / 10) (D % 10) (by omega) (by omega) 1 2 (by omega) (by omega)
    have k3 : stp (32 :: (dg (D / 10) :: dg (D % 10) :: 32 :: ([m0, m1, m2] ++ 32 :: (pad4 Y ++ 32 :: (pad2 H ++ 58 :: (pad2 N ++ 58 :: (pad2 E ++ 32 :: zoneL z))))))) = ⟨2, [dg (D / 10), dg (D % 10)], 32 :: ([m0, m1, m2] ++ 32 :: (pad4 Y ++ 32 :: (pad2 H ++ 58 :: (pad2 N ++ 58 :: (pad2 E ++ 32 :: zoneL z)))))⟩ := by
      rw [stp_blank]
      exact stp_dig2 _ _ _ _ (dd _ (by omega)) (dd _ (by omega)) D32
    have hT : phT k Y M D H N E z = a :: b :: c :: 44 :: 32 :: (dg (D / 10) :: dg (D % 10) :: 32 :: ([m0, m1, m2] ++ 32 :: (pad4 Y ++ 32 :: (pad2 H ++ 58 :: (pad2 N ++ 58 :: (pad2 E ++ 32 :: zoneL z)))))) := by
      unfold phT clockL; rw [hw, hm, dec2 D h hD]; simp only [List.append_assoc, List.cons_append, List.nil_append]
    rw [hT]
    exact head_gen (stp_let3 a b c 44 _ la lb lc L44) (stp_comma _) k3 k4 k5 k6 (stp_colon _) k8 (stp_colon _) k10 k11 hwb nD.1 (D := (D : Int)) (by rw [nD.2]; omega) (by omega) r1 (by rw [r2]; omega) n4.1 n4.2 rfl nH.1 nH.2 (by omega) nN.1 nN.2 (by omega) nE.1 nE.2 (by omega) q1 q2 nz
end Go.Proofs.YtngpejoiicpnkaaDoor
