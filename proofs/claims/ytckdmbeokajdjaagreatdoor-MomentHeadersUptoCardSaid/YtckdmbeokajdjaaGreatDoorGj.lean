/- The reference of chapter 2: zoned, zone, may, clock. -/
import Derived.Test.YtckdmbeokajdjaaGreatDoorGg
import Derived.Test.YtckdmbeokajdjaaGreatDoorCb
import Derived.Deep.RegionHeld3
namespace Go.Proofs.YtckdmbeokajdjaaGreatDoor
open Go.RowKit

set_option maxHeartbeats 4000000 in
theorem zoned_any (s : ByteArray) (w : World) (hs : s.size = 5) :
    Calls Tryz.prog 82 #[.string s] w fun e w' => ∃ v, e = .returned (.tuple #[.int .i64 v, .bool (tzB (L s))]) ∧ w' = w ∧ (-100000 ≤ v ∧ v ≤ 100000) ∧ (tzB (L s) = true → v = tzV (L s)) := by
  have x1 : L (s.extract 1 3) = ((L s).drop 1).take 2 := by rw [extract_S, L_S]
  have x2 : L (s.extract 3 5) = (L s).drop 3 := by
    rw [extract_S, L_S, List.take_of_length_le (by rw [List.length_drop, L_length]; omega)]
  have z1 : (s.extract 1 3).size = 2 := by rw [ByteArray.size_extract]; omega
  have z2 : (s.extract 3 5).size = 2 := by rw [ByteArray.size_extract]; omega
  have hC1 := Lib.hid (fun W => count_any (s.extract 1 3) W (by omega) (by omega))
  have hC2 := Lib.hid (fun W => count_any (s.extract 3 5) W (by omega) (by omega))
  have n1 := num_count (L (s.extract 1 3)) 2 2 (by rw [L_length]; omega) (by rw [L_length]; omega) (by rw [L_length]; omega) (by rw [L_length]; omega)
  have n2 := num_count (L (s.extract 3 5)) 2 2 (by rw [L_length]; omega) (by rw [L_length]; omega) (by rw [L_length]; omega) (by rw [L_length]; omega)
  rw [n1.1, n1.2, x1] at hC1
  rw [n2.1, n2.2, x2] at hC2
  have hb1 := numI_bounds (((L s).drop 1).take 2) 2 2
  have hb2 := numI_bounds ((L s).drop 3) 2 2
  have e0 := get_bt s 0 (by omega)
  have t43 := neq_test (bt (L s) 0) 43 43 rfl
  have t45 := neq_test (bt (L s) 0) 45 45 rfl
  have q45 := byte_test (bt (L s) 0) 45 45 rfl
  have HB : Hid (tzB (L s) = (numB (((L s).drop 1).take 2) 2 2 && numB ((L s).drop 3) 2 2 && decide (numI (((L s).drop 1).take 2) 2 2 ≤ 23) && decide (numI ((L s).drop 3) 2 2 ≤ 59) && (bt (L s) 0 == 43 || bt (L s) 0 == 45))) := Lib.hid (by
    unfold tzB tzH tzM; rw [L_length, decide_eq_true hs, Bool.true_and])
  have HV : Hid (tzV (L s) = if bt (L s) 0 == 45 then -(60 * numI (((L s).drop 1).take 2) 2 2 + numI ((L s).drop 3) 2 2) else 60 * numI (((L s).drop 1).take 2) 2 2 + numI ((L s).drop 3) 2 2) := Lib.hid rfl
  have h34 : (bt (L s) 0 == 43) = true → (bt (L s) 0 == 45) = false := by
    intro h; rw [beq_iff_eq] at h; rw [h]; rfl
  generalize tzB (L s) = ok at *
  generalize tzV (L s) = V at *
  generalize (bt (L s) 0 == 43) = p at *
  generalize (bt (L s) 0 == 45) = q at *
  generalize numI (((L s).drop 1).take 2) 2 2 = h at *
  generalize numI ((L s).drop 3) 2 2 = m at *
  generalize numB (((L s).drop 1).take 2) 2 2 = hb at *
  generalize numB ((L s).drop 3) 2 2 = mb at *
  generalize bt (L s) 0 = B at *
  have hb1' : 0 ≤ h ∧ h < 100 := hb1
  have hb2' : 0 ≤ m ∧ m < 100 := hb2
  clear x1 x2 z1 z2 n1 n2 hb1 hb2
  obtain ⟨h0, h1⟩ := hb1'
  obtain ⟨m0, m1⟩ := hb2'
  cases p
  · cases q
    · clear h34
      simp only [Bool.not_false] at t43 t45
      go_enter Tryz.func82, Tryz.ntmps82
      go_wp2
      go_ret2
      exact ⟨0, by rw [HB.out]; simp, rfl, by omega, fun hh => by rw [HB.out] at hh; simp at hh⟩
    · clear h34
      simp only [Bool.not_false, Bool.not_true] at t43 t45
      simp only [if_true] at HV
      cases hb
      all_goals cases mb
      all_goals rcases (by omega : h ≤ 23 ∨ 23 < h) with g1 | g1
      all_goals rcases (by omega : m ≤ 59 ∨ 59 < m) with g2 | g2
      all_goals (
        go_enter Tryz.func82, Tryz.ntmps82
        go_wp2_with fail
        refine (hC1.out _).mono ?_
        rintro e w1 ⟨rfl, rfl⟩
        go_wp2_with fail
        refine (hC2.out _).mono ?_
        rintro e w1 ⟨rfl, rfl⟩
        go_wp2
        go_ret2
        first
          | (have hok : ok = false := (by rw [HB.out]; first | rfl | (rw [decide_eq_false (show ¬ h ≤ 23 by omega)]; rfl) | (rw [decide_eq_true g1, decide_eq_false (show ¬ m ≤ 59 by omega)]; rfl)); exact ⟨0, by rw [hok]; rfl, rfl, by omega, fun hh => by rw [hok] at hh; cases hh⟩)
          | exact ⟨-60 * h - m, by rw [HB.out, decide_eq_true g1, decide_eq_true g2]; rfl, rfl, by omega, fun _ => by rw [HV.out]; omega⟩)
  · have hq := h34 rfl
    subst hq
    clear h34
    simp only [Bool.not_false, Bool.not_true] at t43 t45
    simp only [Bool.false_eq_true, if_false] at HV
    cases hb
    all_goals cases mb
    all_goals rcases (by omega : h ≤ 23 ∨ 23 < h) with g1 | g1
    all_goals rcases (by omega : m ≤ 59 ∨ 59 < m) with g2 | g2
    all_goals (
      go_enter Tryz.func82, Tryz.ntmps82
      go_wp2_with fail
      refine (hC1.out _).mono ?_
      rintro e w1 ⟨rfl, rfl⟩
      go_wp2_with fail
      refine (hC2.out _).mono ?_
      rintro e w1 ⟨rfl, rfl⟩
      go_wp2
      go_ret2
      first
        | (have hok : ok = false := (by rw [HB.out]; first | rfl | (rw [decide_eq_false (show ¬ h ≤ 23 by omega)]; rfl) | (rw [decide_eq_true g1, decide_eq_false (show ¬ m ≤ 59 by omega)]; rfl)); exact ⟨0, by rw [hok]; rfl, rfl, by omega, fun hh => by rw [hok] at hh; cases hh⟩)
        | exact ⟨60 * h + m, by rw [HB.out, decide_eq_true g1, decide_eq_true g2]; rfl, rfl, by omega, fun _ => HV.out.symm⟩)
end Go.Proofs.YtckdmbeokajdjaaGreatDoor

/- The reference of chapter 2: zone, clock, may, PrintInternal. -/
namespace Go.Proofs.YtckdmbeokajdjaaGreatDoor
open Go.RowKit

set_option maxHeartbeats 2000000 in
theorem rzone_any (z : Int) (w : World) (h1 : -1439 ≤ z) (h2 : z ≤ 1439) :
    Calls Tryz.prog 70 #[.int .i64 z] w fun e w' => e = .returned (.string (S (zoneL z))) ∧ Below w.heap.size w w' := by
  have hA := Lib.hid (fun W => text_2 (z.natAbs / 60) W (by omega))
  have hB := Lib.hid (fun W => text_2 (z.natAbs % 60) W (by omega))
  have z1 : (S (pad2 (z.natAbs / 60))).size = 2 := rfl
  have z2 : (S (pad2 (z.natAbs % 60))).size = 2 := rfl
  by_cases hz : z < 0
  · have HR : Hid ((⟨#[45]⟩ : ByteArray) ++ S (pad2 (z.natAbs / 60)) ++ S (pad2 (z.natAbs % 60)) = S (zoneL z)) := Lib.hid (by
      rw [show (⟨#[45]⟩ : ByteArray) = S [45] from rfl, S_app, S_app]; unfold zoneL; rw [if_pos hz]; rfl)
    have q1 : Int.tdiv (-z) 60 = ((z.natAbs / 60 : Nat) : Int) := by rw [Int.tdiv_eq_ediv_of_nonneg (by omega)]; omega
    have q2 : Int.tmod (-z) 60 = ((z.natAbs % 60 : Nat) : Int) := by rw [Int.tmod_eq_emod_of_nonneg (by omega)]; omega
    have b1 : z.natAbs / 60 ≤ 100 := by omega
    have b2 : z.natAbs % 60 ≤ 100 := by omega
    generalize S (pad2 (z.natAbs / 60)) = a at *
    generalize S (pad2 (z.natAbs % 60)) = b at *
    generalize z.natAbs / 60 = x at *
    generalize z.natAbs % 60 = y at *
    go_enter Tryz.func70, Tryz.ntmps70
    go_wp2_with fail
    refine (hA.out _).mono ?_
    rintro e w1 ⟨rfl, hb1⟩
    go_wp2_with fail
    refine (hB.out _).mono ?_
    rintro e w2 ⟨rfl, hb2⟩
    go_wp2
    go_ret
    exact ⟨ret_str HR.out, hb1.trans (hb2.mono hb1.size)⟩
  · have HR : Hid ((⟨#[43]⟩ : ByteArray) ++ S (pad2 (z.natAbs / 60)) ++ S (pad2 (z.natAbs % 60)) = S (zoneL z)) := Lib.hid (by
      rw [show (⟨#[43]⟩ : ByteArray) = S [43] from rfl, S_app, S_app]; unfold zoneL; rw [if_neg hz]; rfl)
    have q1 : Int.tdiv z 60 = ((z.natAbs / 60 : Nat) : Int) := by rw [Int.tdiv_eq_ediv_of_nonneg (by omega)]; omega
    have q2 : Int.tmod z 60 = ((z.natAbs % 60 : Nat) : Int) := by rw [Int.tmod_eq_emod_of_nonneg (by omega)]; omega
    have b1 : z.natAbs / 60 ≤ 100 := by omega
    have b2 : z.natAbs % 60 ≤ 100 := by omega
    generalize S (pad2 (z.natAbs / 60)) = a at *
    generalize S (pad2 (z.natAbs % 60)) = b at *
    generalize z.natAbs / 60 = x at *
    generalize z.natAbs % 60 = y at *
    go_enter Tryz.func70, Tryz.ntmps70
    go_wp2_with fail
    refine (hA.out _).mono ?_
    rintro e w1 ⟨rfl, hb1⟩
    go_wp2_with fail
    refine (hB.out _).mono ?_
    rintro e w2 ⟨rfl, hb2⟩
    go_wp2
    go_ret
    exact ⟨ret_str HR.out, hb1.trans (hb2.mono hb1.size)⟩
structure RClock (w : World) (y m d z : Int) (H N E : Nat) (a1 a2 a3 a4 : ByteArray) : Prop where
  p1 : ∀ X, S7 w y m d H N E z X → Calls Tryz.prog 42 #[.int .i64 H, .int .i64 2] X fun e w' => e = .returned (.string a1) ∧ S7 w y m d H N E z w'
  p2 : ∀ X, S7 w y m d H N E z X → Calls Tryz.prog 42 #[.int .i64 N, .int .i64 2] X fun e w' => e = .returned (.string a2) ∧ S7 w y m d H N E z w'
  p3 : ∀ X, S7 w y m d H N E z X → Calls Tryz.prog 42 #[.int .i64 E, .int .i64 2] X fun e w' => e = .returned (.string a3) ∧ S7 w y m d H N E z w'
  p4 : ∀ X, S7 w y m d H N E z X → Calls Tryz.prog 70 #[.int .i64 z] X fun e w' => e = .returned (.string a4) ∧ S7 w y m d H N E z w'
set_option maxRecDepth 100000 in
set_option maxHeartbeats 4000000 in
theorem rclock_any (y m d z : Int) (H N E : Nat) (w : World) (hH : H < 100) (hN : N < 100) (hE : E < 100) (h1 : -1439 ≤ z) (h2 : z ≤ 1439) :
    Calls Tryz.prog 43 #[mom y m d H N E z] w fun e w' => e = .returned (.string (S (clockL H N E ++ [32] ++ zoneL z))) ∧ Below w.heap.size w w' := by
  have hF : RClock w y m d z H N E (S (pad2 H)) (S (pad2 N)) (S (pad2 E)) (S (zoneL z)) :=
    ⟨fun X hX => (text_2 H X hH).mono fun e w' ⟨k1, k2⟩ => ⟨k1, S7.on hX k2⟩,
     fun X hX => (text_2 N X hN).mono fun e w' ⟨k1, k2⟩ => ⟨k1, S7.on hX k2⟩,
     fun X hX => (text_2 E X hE).mono fun e w' ⟨k1, k2⟩ => ⟨k1, S7.on hX k2⟩,
     fun X hX => (rzone_any z X h1 h2).mono fun e w' ⟨k1, k2⟩ => ⟨k1, S7.on hX k2⟩⟩
  have HA : Hid (S (pad2 H) ++ (⟨#[58]⟩ : ByteArray) ++ S (pad2 N) ++ (⟨#[58]⟩ : ByteArray) ++ S (pad2 E) ++ (⟨#[32]⟩ : ByteArray) ++ S (zoneL z) = S (clockL H N E ++ [32] ++ zoneL z)) := Lib.hid (by
    rw [show (⟨#[58]⟩ : ByteArray) = S [58] from rfl, show (⟨#[32]⟩ : ByteArray) = S [32] from rfl, S_app, S_app, S_app, S_app, S_app, S_app]; rfl)
  have z1 : (S (pad2 H)).size = 2 := rfl
  have z2 : (S (pad2 N)).size = 2 := rfl
  have z3 : (S (pad2 E)).size = 2 := rfl
  have z4 : (S (zoneL z)).size = 5 := rfl
  have st : Hid (S7 w y m d H N E z (w.alloc (.cells #[.int .i64 y, .int .i64 m, .int .i64 d, .int .i64 H, .int .i64 N, .int .i64 E, .int .i64 z] 23)).drew) := Lib.hid (S7.on (S7.new w y m d H N E z) (Below.refl _ _).drew)
  generalize S (pad2 H) = a1 at *
  generalize S (pad2 N) = a2 at *
  generalize S (pad2 E) = a3 at *
  generalize S (zoneL z) = a4 at *
  generalize S (clockL H N E ++ [32] ++ zoneL z) = res at *
  clear hH hN hE h1 h2
  unfold mom
  go_enter Tryz.func43, Tryz.ntmps43
  go_wp2
  first | (go_region_held3 (fun X => X.cell? ⟨w.heap.size, 0, none⟩ = some (.int .i64 y) ∧ X.cell? ⟨w.heap.size, 1, none⟩ = some (.int .i64 m) ∧ X.cell? ⟨w.heap.size, 2, none⟩ = some (.int .i64 d) ∧ X.cell? ⟨w.heap.size, 3, none⟩ = some (.int .i64 (H : Int)) ∧ X.cell? ⟨w.heap.size, 4, none⟩ = some (.int .i64 (N : Int)) ∧ X.cell? ⟨w.heap.size, 5, none⟩ = some (.int .i64 (E : Int)) ∧ X.cell? ⟨w.heap.size, 6, none⟩ = some (.int .i64 z) ∧ Below w.heap.size w X) (first | with_reducible exact st.out | with_reducible assumption) (first | (go_at_call 70; with_reducible refine (hF.p4 _ ?_).mono ?_; with_reducible assumption; rintro e w5 ⟨rfl, hs5⟩) | (go_at_call 42; with_reducible refine (hF.p1 _ ?_).mono ?_; with_reducible assumption; rintro e w2 ⟨rfl, hs2⟩) | (go_at_call 42; with_reducible refine (hF.p2 _ ?_).mono ?_; with_reducible assumption; rintro e w3 ⟨rfl, hs3⟩) | (go_at_call 42; with_reducible refine (hF.p3 _ ?_).mono ?_; with_reducible assumption; rintro e w4 ⟨rfl, hs4⟩))) | fail
  go_wp2
  go_ret
  exact ⟨ret_str HA.out, hs5.2.2.2.2.2.2.2⟩
set_option maxRecDepth 100000 in
set_option maxHeartbeats 2000000 in
theorem may_any (y m d h n s z : Int) (w : World) :
    Calls Tryz.prog 40 #[mom y m d h n s z] w fun e w' => e = .returned (.int .i64 (prE y m d h n s z)) ∧ Below w.heap.size w w' := by
  have hD := Lib.hid (fun W => IsDay_any y m d h n s z W)
  have hV := Lib.hid (fun W => Valid_any y m d h n s z W)
  have q0 : Below w.heap.size w (w.alloc (.cells #[.int .i64 y, .int .i64 m, .int .i64 d, .int .i64 h, .int .i64 n, .int .i64 s, .int .i64 z] 23)) := (Below.refl _ _).alloc (Nat.le_refl _) _
  have k0 : Cells7 w.heap.size y m d h n s z (w.alloc (.cells #[.int .i64 y, .int .i64 m, .int .i64 d, .int .i64 h, .int .i64 n, .int .i64 s, .int .i64 z] 23)) := cells7_new w y m d h n s z _
  cases hf : isDayB y m d with
  | false =>
    have H2 : Hid (prE y m d h n s z = 21) := Lib.hid (by unfold prE; rw [hf]; rfl)
    rw [hf] at hD
    unfold mom at hD ⊢
    go_enter Tryz.func40, Tryz.ntmps40
    go_wp2_with (go_at_call 65; refine (hD.out _).mono ?_; rintro e w1 ⟨rfl, hb1⟩)
    go_ret
    exact ⟨ret_int H2.out.symm, q0.trans (hb1.mono q0.size)⟩
  | true =>
    rw [hf] at hD
    have H2 : Hid (prE y m d h n s z = if validB y m d h n s z then 0 else 20) := Lib.hid (by unfold prE; rw [hf]; rfl)
    generalize validB y m d h n s z = vb at *
    unfold mom at hD hV ⊢
    cases vb
    all_goals (
      go_enter Tryz.func40, Tryz.ntmps40
      go_wp2_with fail
      refine (hD.out _).mono ?_
      rintro e w1 ⟨rfl, hb1⟩
      obtain ⟨c0, c1, c2, c3, c4, c5, c6⟩ := k0.on hb1
      have q1 := Lib.hid (q0.trans (hb1.mono q0.size))
      clear hb1
      go_wp2_with fail
      refine (hV.out _).mono ?_
      rintro e w2 ⟨rfl, hb2⟩
      have q2 := q1.out.trans (hb2.mono q1.out.size)
      clear hb2
      go_wp2
      go_ret
      exact ⟨ret_int (by rw [H2.out]; rfl), q2⟩)
end Go.Proofs.YtckdmbeokajdjaaGreatDoor
