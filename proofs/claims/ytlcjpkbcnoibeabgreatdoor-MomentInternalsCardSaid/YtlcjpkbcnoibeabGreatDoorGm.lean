/- The reference of chapter 2: zone, clock, may, PrintInternal. -/
import Derived.Test.YtlcjpkbcnoibeabGreatDoorGj
namespace Go.Proofs.YtlcjpkbcnoibeabGreatDoor
open Go.RowKit

set_option maxHeartbeats 2000000 in
theorem rzone_any (z : Int) (w : World) (h1 : -1439 ≤ z) (h2 : z ≤ 1439) :
    Calls Tryz.prog 85 #[.int .i64 z] w fun e w' => e = .returned (.string (S (zoneL z))) ∧ Below w.heap.size w w' := by
  have hA := Lib.hid (fun W => text_2 (z.natAbs / 60) W (by omega))
  have hB := Lib.hid (fun W => text_2 (z.natAbs % 60) W (by omega))
  have z1 : (S (pad2 (z.natAbs / 60))).size = 2 := rfl
  have z2 : (S (pad2 (z.natAbs % 60))).size = 2 := rfl
  by_cases hz : z < 0
  · have HR : Hid ((⟨#[45]⟩ : ByteArray) ++ S (pad2 (z.natAbs / 60)) ++ S (pad2 (z.natAbs % 60)) = S (zoneL z)) := Lib.hid (by
      rw [show (⟨#[45]⟩ : ByteArray) = S [45] from rfl, S_app, S_app]; unfold zoneL; rw [if_pos hz]; rfl)
    have q1 : Int.tdiv (-z) 60 = ((z.natAbs / 60 : Nat) : Int) := by rw [Int.tdiv_eq_ediv_of_nonneg (by omega)]; omega
    have q2 : Int.tmod (-z) 60 = ((z.natAbs % 60 : Nat) : Int) := by rw [Int.tmod_eq_emod_of_nonneg (by omega)]; omega
    have b1 : z.natAbs / 60 ≤ 100 := by omega
    have b2 : z.natAbs % 60 ≤ 100 := by omega
    generalize S (pad2 (z.natAbs / 60)) = a at *
    generalize S (pad2 (z.natAbs % 60)) = b at *
    generalize z.natAbs / 60 = x at *
    generalize z.natAbs % 60 = y at *
    go_enter Tryz.func85, Tryz.ntmps85
    go_wp2_with fail
    refine (hA.out _).mono ?_
    rintro e w1 ⟨rfl, hb1⟩
    go_wp2_with fail
    refine (hB.out _).mono ?_
    rintro e w2 ⟨rfl, hb2⟩
    go_wp2
    go_ret
    exact ⟨ret_str HR.out, hb1.trans (hb2.mono hb1.size)⟩
  · have HR : Hid ((⟨#[43]⟩ : ByteArray) ++ S (pad2 (z.natAbs / 60)) ++ S (pad2 (z.natAbs % 60)) = S (zoneL z)) := Lib.hid (by
      rw [show (⟨#[43]⟩ : ByteArray) = S [43] from rfl, S_app, S_app]; unfold zoneL; rw [if_neg hz]; rfl)
    have q1 : Int.tdiv z 60 = ((z.natAbs / 60 : Nat) : Int) := by rw [Int.tdiv_eq_ediv_of_nonneg (by omega)]; omega
    have q2 : Int.tmod z 60 = ((z.natAbs % 60 : Nat) : Int) := by rw [Int.tmod_eq_emod_of_nonneg (by omega)]; omega
    have b1 : z.natAbs / 60 ≤ 100 := by omega
    have b2 : z.natAbs % 60 ≤ 100 := by omega
    generalize S (pad2 (z.natAbs / 60)) = a at *
    generalize S (pad2 (z.natAbs % 60)) = b at *
    generalize z.natAbs / 60 = x at *
    generalize z.natAbs % 60 = y at *
    go_enter Tryz.func85, Tryz.ntmps85
    go_wp2_with fail
    refine (hA.out _).mono ?_
    rintro e w1 ⟨rfl, hb1⟩
    go_wp2_with fail
    refine (hB.out _).mono ?_
    rintro e w2 ⟨rfl, hb2⟩
    go_wp2
    go_ret
    exact ⟨ret_str HR.out, hb1.trans (hb2.mono hb1.size)⟩
structure RClock (w : World) (y m d z : Int) (H N E : Nat) (a1 a2 a3 a4 : ByteArray) : Prop where
  p1 : ∀ X, S7 w y m d H N E z X → Calls Tryz.prog 62 #[.int .i64 H, .int .i64 2] X fun e w' => e = .returned (.string a1) ∧ S7 w y m d H N E z w'
  p2 : ∀ X, S7 w y m d H N E z X → Calls Tryz.prog 62 #[.int .i64 N, .int .i64 2] X fun e w' => e = .returned (.string a2) ∧ S7 w y m d H N E z w'
  p3 : ∀ X, S7 w y m d H N E z X → Calls Tryz.prog 62 #[.int .i64 E, .int .i64 2] X fun e w' => e = .returned (.string a3) ∧ S7 w y m d H N E z w'
  p4 : ∀ X, S7 w y m d H N E z X → Calls Tryz.prog 85 #[.int .i64 z] X fun e w' => e = .returned (.string a4) ∧ S7 w y m d H N E z w'
set_option maxRecDepth 100000 in
set_option maxHeartbeats 4000000 in
theorem rclock_any (y m d z : Int) (H N E : Nat) (w : World) (hH : H < 100) (hN : N < 100) (hE : E < 100) (h1 : -1439 ≤ z) (h2 : z ≤ 1439) :
    Calls Tryz.prog 66 #[mom y m d H N E z] w fun e w' => e = .returned (.string (S (clockL H N E ++ [32] ++ zoneL z))) ∧ Below w.heap.size w w' := by
  have hF : RClock w y m d z H N E (S (pad2 H)) (S (pad2 N)) (S (pad2 E)) (S (zoneL z)) :=
    ⟨fun X hX => (text_2 H X hH).mono fun e w' ⟨k1, k2⟩ => ⟨k1, S7.on hX k2⟩,
     fun X hX => (text_2 N X hN).mono fun e w' ⟨k1, k2⟩ => ⟨k1, S7.on hX k2⟩,
     fun X hX => (text_2 E X hE).mono fun e w' ⟨k1, k2⟩ => ⟨k1, S7.on hX k2⟩,
     fun X hX => (rzone_any z X h1 h2).mono fun e w' ⟨k1, k2⟩ => ⟨k1, S7.on hX k2⟩⟩
  have HA : Hid (S (pad2 H) ++ (⟨#[58]⟩ : ByteArray) ++ S (pad2 N) ++ (⟨#[58]⟩ : ByteArray) ++ S (pad2 E) ++ (⟨#[32]⟩ : ByteArray) ++ S (zoneL z) = S (clockL H N E ++ [32] ++ zoneL z)) := Lib.hid (by
    rw [show (⟨#[58]⟩ : ByteArray) = S [58] from rfl, show (⟨#[32]⟩ : ByteArray) = S [32] from rfl, S_app, S_app, S_app, S_app, S_app, S_app]; rfl)
  have z1 : (S (pad2 H)).size = 2 := rfl
  have z2 : (S (pad2 N)).size = 2 := rfl
  have z3 : (S (pad2 E)).size = 2 := rfl
  have z4 : (S (zoneL z)).size = 5 := rfl
  have st : Hid (S7 w y m d H N E z (w.alloc (.cells #[.int .i64 y, .int .i64 m, .int .i64 d, .int .i64 H, .int .i64 N, .int .i64 E, .int .i64 z] 23)).drew) := Lib.hid (S7.on (S7.new w y m d H N E z) (Below.refl _ _).drew)
  generalize S (pad2 H) = a1 at *
  generalize S (pad2 N) = a2 at *
  generalize S (pad2 E) = a3 at *
  generalize S (zoneL z) = a4 at *
  generalize S (clockL H N E ++ [32] ++ zoneL z) = res at *
  clear hH hN hE h1 h2
  unfold mom
  go_enter Tryz.func66, Tryz.ntmps66
  go_wp2
  first | (go_region_held3 (fun X => X.cell? ⟨w.heap.size, 0, none⟩ = some (.int .i64 y) ∧ X.cell? ⟨w.heap.size, 1, none⟩ = some (.int .i64 m) ∧ X.cell? ⟨w.heap.size, 2, none⟩ = some (.int .i64 d) ∧ X.cell? ⟨w.heap.size, 3, none⟩ = some (.int .i64 (H : Int)) ∧ X.cell? ⟨w.heap.size, 4, none⟩ = some (.int .i64 (N : Int)) ∧ X.cell? ⟨w.heap.size, 5, none⟩ = some (.int .i64 (E : Int)) ∧ X.cell? ⟨w.heap.size, 6, none⟩ = some (.int .i64 z) ∧ Below w.heap.size w X) (first | with_reducible exact st.out | with_reducible assumption) (first | (go_at_call 85; with_reducible refine (hF.p4 _ ?_).mono ?_; with_reducible assumption; rintro e w5 ⟨rfl, hs5⟩) | (go_at_call 62; with_reducible refine (hF.p1 _ ?_).mono ?_; with_reducible assumption; rintro e w2 ⟨rfl, hs2⟩) | (go_at_call 62; with_reducible refine (hF.p2 _ ?_).mono ?_; with_reducible assumption; rintro e w3 ⟨rfl, hs3⟩) | (go_at_call 62; with_reducible refine (hF.p3 _ ?_).mono ?_; with_reducible assumption; rintro e w4 ⟨rfl, hs4⟩))) | fail
  go_wp2
  go_ret
  exact ⟨ret_str HA.out, hs5.2.2.2.2.2.2.2⟩
set_option maxRecDepth 100000 in
set_option maxHeartbeats 2000000 in
theorem may_any (y m d h n s z : Int) (w : World) :
    Calls Tryz.prog 65 #[mom y m d h n s z] w fun e w' => e = .returned (.int .i64 (prE y m d h n s z)) ∧ Below w.heap.size w w' := by
  have hD := Lib.hid (fun W => IsDay_any y m d h n s z W)
  have hV := Lib.hid (fun W => Valid_any y m d h n s z W)
  have q0 : Below w.heap.size w (w.alloc (.cells #[.int .i64 y, .int .i64 m, .int .i64 d, .int .i64 h, .int .i64 n, .int .i64 s, .int .i64 z] 23)) := (Below.refl _ _).alloc (Nat.le_refl _) _
  have k0 : Cells7 w.heap.size y m d h n s z (w.alloc (.cells #[.int .i64 y, .int .i64 m, .int .i64 d, .int .i64 h, .int .i64 n, .int .i64 s, .int .i64 z] 23)) := cells7_new w y m d h n s z _
  cases hf : isDayB y m d with
  | false =>
    have H2 : Hid (prE y m d h n s z = 21) := Lib.hid (by unfold prE; rw [hf]; rfl)
    rw [hf] at hD
    unfold mom at hD ⊢
    go_enter Tryz.func65, Tryz.ntmps65
    go_wp2_with (go_at_call 56; refine (hD.out _).mono ?_; rintro e w1 ⟨rfl, hb1⟩)
    go_ret
    exact ⟨ret_int H2.out.symm, q0.trans (hb1.mono q0.size)⟩
  | true =>
    rw [hf] at hD
    have H2 : Hid (prE y m d h n s z = if validB y m d h n s z then 0 else 20) := Lib.hid (by unfold prE; rw [hf]; rfl)
    generalize validB y m d h n s z = vb at *
    unfold mom at hD hV ⊢
    cases vb
    all_goals (
      go_enter Tryz.func65, Tryz.ntmps65
      go_wp2_with fail
      refine (hD.out _).mono ?_
      rintro e w1 ⟨rfl, hb1⟩
      obtain ⟨c0, c1, c2, c3, c4, c5, c6⟩ := k0.on hb1
      have q1 := Lib.hid (q0.trans (hb1.mono q0.size))
      clear hb1
      go_wp2_with fail
      refine (hV.out _).mono ?_
      rintro e w2 ⟨rfl, hb2⟩
      have q2 := q1.out.trans (hb2.mono q1.out.size)
      clear hb2
      go_wp2
      go_ret
      exact ⟨ret_int (by rw [H2.out]; rfl), q2⟩)
end Go.Proofs.YtlcjpkbcnoibeabGreatDoor
