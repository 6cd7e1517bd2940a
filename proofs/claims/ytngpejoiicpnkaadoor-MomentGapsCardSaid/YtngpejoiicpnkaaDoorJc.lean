/- Plain: a header's date with gaps between its pieces, as it is read. -/
import Derived.Test.YtngpejoiicpnkaaDoorJb
import Derived.Test.YtngpejoiicpnkaaDoorHc
namespace Go.Proofs.YtngpejoiicpnkaaDoor
open Go.RowKit

theorem stp_signX (g a b c d x : UInt8) (q : List UInt8) (hg : g = 43 ∨ g = 45) (ha : isDig a = true) (hb : isDig b = true) (hc : isDig c = true) (hd : isDig d = true) (hx : isDig x = false) : stp (g :: a :: b :: c :: d :: x :: q) = ⟨3, [g, a, b, c, d], x :: q⟩ := by
  rcases hg with rfl | rfl
  · rw [stp_of _ (sk0 43 _ (by decide) (by decide))]
    have h1 : isLet 43 = false := by decide
    have h2 : isDig 43 = false := by decide
    have e1 : cutK (43 :: a :: b :: c :: d :: x :: q) = 3 := by simp [cutK, h1, h2, ha, List.takeWhile]
    have e2 : cutN (43 :: a :: b :: c :: d :: x :: q) = 5 := by simp [cutN, h1, h2, ha, hb, hc, hd, hx, List.takeWhile]
    rw [e1, e2]; rfl
  · rw [stp_of _ (sk0 45 _ (by decide) (by decide))]
    have h1 : isLet 45 = false := by decide
    have h2 : isDig 45 = false := by decide
    have e1 : cutK (45 :: a :: b :: c :: d :: x :: q) = 3 := by simp [cutK, h1, h2, ha, List.takeWhile]
    have e2 : cutN (45 :: a :: b :: c :: d :: x :: q) = 5 := by simp [cutN, h1, h2, ha, hb, hc, hd, hx, List.takeWhile]
    rw [e1, e2]; rfl
/-- What begins with no digit. -/
def NoDig (X : List UInt8) : Prop := ∃ c q, X = c :: q ∧ isDig c = false
theorem Gap.nd {g : List UInt8} (h : Gap g) (r : List UInt8) : NoDig (g ++ r) := by
  obtain ⟨c, q, rfl, h1, _⟩ := h.hd
  exact ⟨c, q ++ r, rfl, h1⟩
theorem stp_pad2 (n : Nat) (X : List UInt8) (hn : n < 100) (hX : NoDig X) : stp (pad2 n ++ X) = ⟨2, pad2 n, X⟩ := by
  obtain ⟨c, q, rfl, h⟩ := hX
  exact stp_dig2 _ _ _ _ (dg_isDig _ (by omega)) (dg_isDig _ (by omega)) h
theorem stp_pad4 (n : Nat) (X : List UInt8) (hn : n < 10000) (hX : NoDig X) : stp (pad4 n ++ X) = ⟨2, pad4 n, X⟩ := by
  obtain ⟨c, q, rfl, h⟩ := hX
  exact stp_dig4 _ _ _ _ _ _ (dg_isDig _ (by omega)) (dg_isDig _ (by omega)) (dg_isDig _ (by omega)) (dg_isDig _ (by omega)) h
theorem stp_zone (z : Int) (X : List UInt8) (h1 : -1439 ≤ z) (h2 : z ≤ 1439) (hX : NoDig X) : stp (zoneL z ++ X) = ⟨3, zoneL z, X⟩ := by
  obtain ⟨c, q, rfl, h⟩ := hX
  exact stp_signX _ _ _ _ _ _ _ (by split <;> simp) (dg_isDig _ (by omega)) (dg_isDig _ (by omega)) (dg_isDig _ (by omega)) (dg_isDig _ (by omega)) h
theorem stp_let3g (a b c : UInt8) {g : List UInt8} (r : List UInt8) (hg : Gap g) (ha : isLet a = true) (hb : isLet b = true) (hc : isLet c = true) : stp ([a, b, c] ++ (g ++ r)) = ⟨1, [a, b, c], g ++ r⟩ := by
  obtain ⟨x, q, rfl, _, h⟩ := hg.hd
  exact stp_let3 a b c x (q ++ r) ha hb hc h
theorem head_gen2 {T R2 R3 R4 R5 R6 R7 X dD mon y4 hh nn zz : List UInt8} {Y M D H N E z : Int}
    (a1 : hc1 T = ⟨2, dD, R2⟩) (aw : wkB (stp T) = true) (s4 : stp R2 = ⟨1, mon, R3⟩) (s5 : stp R3 = ⟨2, y4, R4⟩) (s6 : stp R4 = ⟨2, hh, R5⟩) (s7 : stp R5 = ⟨5, [58], R6⟩) (s8 : stp R6 = ⟨2, nn, R7⟩)
    (q1 : seB (stp R7) = true) (q2 : seS (stp R7) 0 = E) (q3 : seC (stp R7) = ⟨3, zz, X⟩)
    (f2 : numB dD 1 2 = true) (f3 : numI dD 1 2 = D) (f4 : D ≤ 99) (f5 : monB mon = true) (f6 : monI mon = M) (f7 : numB y4 2 4 = true) (f8 : numI y4 2 4 = Y) (f9 : y4.length = 4)
    (g1 : numB hh 1 2 = true) (g2 : numI hh 1 2 = H) (g3 : H ≤ 23) (g4 : numB nn 1 2 = true) (g5 : numI nn 1 2 = N) (g6 : N ≤ 59)
    (z1 : tzB zz = true) (z2 : tzV zz = z) (nz : Int) :
    rhV T nz = judV (decide ((stp X).k = 0)) Y M D H N E z ∧ rhE T = judE (decide ((stp X).k = 0)) Y M D ∧ (hc3 T).k ≠ 1 := by
  have sh : Cur.short ⟨2, dD, R2⟩ 99 = ((D, true), ⟨1, mon, R3⟩) := by
    unfold Cur.short; simp only [Cur.take, if_true]; rw [s4, f2, f3, decide_eq_true f4]; rfl
  have tm : Cur.take ⟨1, mon, R3⟩ 1 = ((mon, true), ⟨2, y4, R4⟩) := by
    simp only [Cur.take, if_true]; rw [s5]
  have ty : Cur.take ⟨2, y4, R4⟩ 2 = ((y4, true), ⟨2, hh, R5⟩) := by
    simp only [Cur.take, if_true]; rw [s6]
  have fy : fyI y4 = Y := by unfold fyI; rw [f7, if_pos rfl, if_pos f9]; exact f8
  have d1 : dyD (hc1 T) = D := by unfold dyD; rw [a1, sh]
  have d2 : dyM (hc1 T) = M := by unfold dyM; rw [a1, sh]; simp only; rw [tm]; exact f6
  have d3 : dyY (hc1 T) = Y := by unfold dyY; rw [a1, sh]; simp only; rw [tm]; simp only; rw [ty]; exact fy
  have d4 : dyB (hc1 T) = true := by unfold dyB fyB; rw [a1, sh]; simp only; rw [tm]; simp only; rw [ty, f5, f7]; rfl
  have a2 : hc2 T = ⟨2, hh, R5⟩ := by unfold hc2 dyC; rw [a1, sh]; simp only; rw [tm]; simp only; rw [ty]
  have th : Cur.short ⟨2, hh, R5⟩ 23 = ((H, true), ⟨5, [58], R6⟩) := by
    unfold Cur.short; simp only [Cur.take, if_true]; rw [s7, g1, g2, decide_eq_true g3]; rfl
  have t5 : Cur.take ⟨5, [58], R6⟩ 5 = (([58], true), ⟨2, nn, R7⟩) := by
    simp only [Cur.take, if_true]; rw [s8]
  have tn : Cur.short ⟨2, nn, R7⟩ 59 = ((N, true), stp R7) := by
    unfold Cur.short; simp only [Cur.take, if_true]; rw [g4, g5, decide_eq_true g6]; rfl
  have e1 : clH (hc2 T) = H := by unfold clH; rw [a2, th]
  have e2 : clN (hc2 T) = N := by unfold clN; rw [a2, th]; simp only; rw [t5]; simp only; rw [tn]
  have e3 : clF (hc2 T) = true := by unfold clF; rw [a2, th]; simp only; rw [t5]; simp only; rw [tn]; rfl
  have e4 : clR (hc2 T) = stp R7 := by unfold clR; rw [a2, th]; simp only; rw [t5]; simp only; rw [tn]
  have e8 : clS (hc2 T) 0 = E := by unfold clS; rw [e3, if_pos rfl, e4]; exact q2
  have e9 : clB (hc2 T) = true := by unfold clB; rw [e3, e4, q1]; rfl
  have a3 : hc3 T = ⟨3, zz, X⟩ := by unfold hc3 clC; rw [e3, if_pos rfl, e4]; exact q3
  have hB : rhB T = decide ((stp X).k = 0) := by
    unfold rhB
    rw [aw, d4, e9, a3]
    have : znB ⟨3, zz, X⟩ = true := by show (if (3 : Nat) = 1 then true else if (3 : Nat) = 3 then tzB zz else true) = true; rw [if_neg (by decide), if_pos rfl]; exact z1
    rw [this]
    rfl
  have hz : znZ (hc3 T) nz 0 = z := by rw [a3]; show (if (3 : Nat) = 1 then nz else if (3 : Nat) = 3 then tzV zz else 0) = z; rw [if_neg (by decide), if_pos rfl]; exact z2
  refine ⟨?_, ?_, ?_⟩
  · unfold rhV; rw [hB, d1, d2, d3, e1, e2, e8, hz]
  · unfold rhE; rw [hB, d1, d2, d3]
  · rw [a3]; show (3 : Nat) ≠ 1; decide
/-- The date as the statement writes it, X behind it. -/
def gaR (sec : Bool) (g : Nat → List UInt8) (Y M D H N E : Nat) (z : Int) (X : List UInt8) : List UInt8 :=
  g 2 ++ (pad2 D ++ (g 3 ++ (monN (M - 1) ++ (g 4 ++ (pad4 Y ++ (g 5 ++ (pad2 H ++ (g 6 ++ (58 :: (g 7 ++ (pad2 N ++ ((if sec then g 8 ++ (58 :: pad2 E) else []) ++ (g 9 ++ (zoneL z ++ X))))))))))))))
def gaT (wk sec : Bool) (g : Nat → List UInt8) (Y M D H N E : Nat) (z : Int) (X : List UInt8) : List UInt8 :=
  g 0 ++ ((if wk then [119, 69, 68] ++ (g 1 ++ [44]) else []) ++ gaR sec g Y M D H N E z X)
theorem gaps_read (wk sec : Bool) (g : Nat → List UInt8) (hg : ∀ i, Gap (g i)) (Y M D H N E : Nat) (z nz : Int) (X : List UInt8) (hX : NoDig X) (hY : Y < 10000) (hM1 : 1 ≤ M) (hM2 : M ≤ 12) (hD : D < 100) (h1 : H ≤ 23) (h2 : N ≤ 59) (h3 : E ≤ 59) (h4 : -1439 ≤ z) (h5 : z ≤ 1439) :
    rhV (gaT wk sec g Y M D H N E z X) nz = judV (decide ((stp X).k = 0)) Y M D H N (if sec then E else 0 : Nat) z ∧ rhE (gaT wk sec g Y M D H N E z X) = judE (decide ((stp X).k = 0)) Y M D ∧ (hc3 (gaT wk sec g Y M D H N E z X)).k ≠ 1 := by
  obtain ⟨m0, m1, m2, hm⟩ := mon_three (M - 1) (by omega)
  obtain ⟨r1, r2, r3⟩ := mon_read (M - 1) (by omega)
  rw [hm] at r1 r2 r3
  simp at r3
  obtain ⟨q1, q2⟩ := zone_read z h4 h5
  have n4 := num_pad4 Y hY 2 4 (by omega) (by omega)
  have nD := num_pad2 D hD 1 2 (by omega) (by omega)
  have nH := num_pad2 H (by omega) 1 2 (by omega) (by omega)
  have nN := num_pad2 N (by omega) 1 2 (by omega) (by omega)
  have nE := num_pad2 E (by omega) 1 2 (by omega) (by omega)
  have k9 : stp (g 9 ++ (zoneL z ++ X)) = ⟨3, zoneL z, X⟩ := by rw [(hg 9).stp]; exact stp_zone z X h4 h5 hX
  obtain ⟨R7, hR7, hnd, s1, s2, s3⟩ : ∃ R7, (if sec then g 8 ++ (58 :: pad2 E) else []) ++ (g 9 ++ (zoneL z ++ X)) = R7 ∧ NoDig R7 ∧ seB (stp R7) = true ∧ seS (stp R7) 0 = ((if sec then E else 0 : Nat) : Int) ∧ seC (stp R7) = ⟨3, zoneL z, X⟩ := by
    refine ⟨_, rfl, ?_⟩
    cases sec with
    | false =>
      simp only [Bool.false_eq_true, if_false, List.nil_append]
      refine ⟨(hg 9).nd _, ?_, ?_, ?_⟩
      · rw [k9]; rfl
      · rw [k9]; rfl
      · rw [k9]; rfl
    | true =>
      simp only [if_true]
      rw [List.append_assoc]
      have k8 : stp (g 8 ++ ((58 :: pad2 E) ++ (g 9 ++ (zoneL z ++ X)))) = ⟨5, [58], pad2 E ++ (g 9 ++ (zoneL z ++ X))⟩ := by rw [(hg 8).stp]; exact stp_colon _
      have kE := stp_pad2 E (g 9 ++ (zoneL z ++ X)) (by omega) ((hg 9).nd _)
      have t6 : Cur.take ⟨5, [58], pad2 E ++ (g 9 ++ (zoneL z ++ X))⟩ 5 = (([58], true), ⟨2, pad2 E, g 9 ++ (zoneL z ++ X)⟩) := by
        simp only [Cur.take, if_true]; rw [kE]
      have ts : Cur.short ⟨2, pad2 E, g 9 ++ (zoneL z ++ X)⟩ 60 = (((E : Int), true), ⟨3, zoneL z, X⟩) := by
        unfold Cur.short; simp only [Cur.take, if_true]; rw [k9, nE.1, nE.2, decide_eq_true (by omega)]; rfl
      refine ⟨(hg 8).nd _, ?_, ?_, ?_⟩
      · unfold seB; rw [k8, t6]; simp only [if_true]; rw [ts]
      · unfold seS; rw [k8, t6]; simp only [if_true]; rw [ts]; simp only; omega
      · unfold seC; rw [k8, t6]; simp only [if_true]; rw [ts]
  have k7 : stp (g 7 ++ (pad2 N ++ R7)) = ⟨2, pad2 N, R7⟩ := by rw [(hg 7).stp]; exact stp_pad2 N R7 (by omega) hnd
  have k6 : stp (g 6 ++ (58 :: (g 7 ++ (pad2 N ++ R7)))) = ⟨5, [58], g 7 ++ (pad2 N ++ R7)⟩ := by rw [(hg 6).stp]; exact stp_colon _
  have k5 : stp (g 5 ++ (pad2 H ++ (g 6 ++ (58 :: (g 7 ++ (pad2 N ++ R7)))))) = ⟨2, pad2 H, g 6 ++ (58 :: (g 7 ++ (pad2 N ++ R7)))⟩ := by rw [(hg 5).stp]; exact stp_pad2 H _ (by omega) ((hg 6).nd _)
  have k4 : stp (g 4 ++ (pad4 Y ++ (g 5 ++ (pad2 H ++ (g 6 ++ (58 :: (g 7 ++ (pad2 N ++ R7)))))))) = ⟨2, pad4 Y, g 5 ++ (pad2 H ++ (g 6 ++ (58 :: (g 7 ++ (pad2 N ++ R7)))))⟩ := by rw [(hg 4).stp]; exact stp_pad4 Y _ hY ((hg 5).nd _)
  have k3 : stp (g 3 ++ ([m0, m1, m2] ++ (g 4 ++ (pad4 Y ++ (g 5 ++ (pad2 H ++ (g 6 ++ (58 :: (g 7 ++ (pad2 N ++ R7)))))))))) = ⟨1, [m0, m1, m2], g 4 ++ (pad4 Y ++ (g 5 ++ (pad2 H ++ (g 6 ++ (58 :: (g 7 ++ (pad2 N ++ R7)))))))⟩ := by rw [(hg 3).stp]; exact stp_let3g m0 m1 m2 _ (hg 4) r3.1 r3.2.1 r3.2.2
  have k2 : stp (gaR sec g Y M D H N E z X) = ⟨2, pad2 D, g 3 ++ ([m0, m1, m2] ++ (g 4 ++ (pad4 Y ++ (g 5 ++ (pad2 H ++ (g 6 ++ (58 :: (g 7 ++ (pad2 N ++ R7)))))))))⟩ := by
    unfold gaR; rw [(hg 2).stp, hR7, hm]; exact stp_pad2 D _ hD ((hg 3).nd _)
  have hw : hc1 (gaT wk sec g Y M D H N E z X) = ⟨2, pad2 D, g 3 ++ ([m0, m1, m2] ++ (g 4 ++ (pad4 Y ++ (g 5 ++ (pad2 H ++ (g 6 ++ (58 :: (g 7 ++ (pad2 N ++ R7)))))))))⟩ ∧ wkB (stp (gaT wk sec g Y M D H N E z X)) = true := by
    unfold hc1 gaT
    rw [(hg 0).stp]
    cases wk with
    | false =>
      simp only [Bool.false_eq_true, if_false, List.nil_append]
      rw [k2]
      exact ⟨rfl, rfl⟩
    | true =>
      simp only [if_true]
      have e : ([119, 69, 68] ++ (g 1 ++ [44])) ++ gaR sec g Y M D H N E z X = [119, 69, 68] ++ (g 1 ++ (44 :: gaR sec g Y M D H N E z X)) := by simp
      rw [e, stp_let3g 119 69 68 _ (hg 1) (by decide) (by decide) (by decide)]
      have kc : stp (g 1 ++ (44 :: gaR sec g Y M D H N E z X)) = ⟨4, [44], gaR sec g Y M D H N E z X⟩ := by rw [(hg 1).stp]; exact stp_comma _
      have kw : wdB [119, 69, 68] = true := by decide +kernel
      refine ⟨?_, ?_⟩
      · unfold wkC; simp only [Cur.take, if_true]; rw [kc]; simp only [if_true]; exact k2
      · unfold wkB; simp only [Cur.take, if_true]; rw [kc, kw]; rfl
  exact head_gen2 hw.1 hw.2 k3 k4 k5 k6 k7 s1 s2 s3 nD.1 nD.2 (by omega) r1 (by rw [r2]; omega) n4.1 n4.2 rfl nH.1 nH.2 (by omega) nN.1 nN.2 (by omega) q1 q2 nz
end Go.Proofs.YtngpejoiicpnkaaDoor
