/- The reference of chapter 2: zone, clock, may, PrintInternal. -/
import Derived.Test.YtibhlmbcohpmlaaGreatDoorGj
import Derived.Test.YtibhlmbcohpmlaaGreatDoorUj
import Derived.Test.YtibhlmbcohpmlaaGreatDoorGh
namespace Go.Proofs.YtibhlmbcohpmlaaGreatDoor
open Go.RowKit

set_option maxHeartbeats 2000000 in
theorem rzone_any (z : Int) (w : World) (h1 : -1439 ≤ z) (h2 : z ≤ 1439) :
    Calls Tryz.prog 85 #[.int .i64 z] w fun e w' => e = .returned (.string (S (zoneL z))) ∧ Below w.heap.size w w' := by
  have hA := Lib.hid (fun W => text_2 (z.natAbs / 60) W (by omega))
  have hB := Lib.hid (fun W => text_2 (z.natAbs % 60) W (by omega))
  have z1 : (S (pad2 (z.natAbs / 60))).size = 2 := rfl
  have z2 : (S (pad2 (z.natAbs % 60))).size = 2 := rfl
  by_cases hz : z < 0
  · have HR : Hid ((⟨#[45]⟩ : ByteArray) ++ S (pad2 (z.natAbs / 60)) ++ S (pad2 (z.natAbs % 60)) = S (zoneL z)) := Lib.hid (by
      rw [show (⟨#[45]⟩ : ByteArray) = S [45] from rfl, S_app, S_app]; unfold zoneL; rw [if_pos hz]; rfl)
    have q1 : Int.tdiv (-z) 60 = ((z.natAbs / 60 : Nat) : Int) := by rw [Int.tdiv_eq_ediv_of_nonneg (by omega)]; omega
    have q2 : Int.tmod (-z) 60 = ((z.natAbs % 60 : Nat) : Int) := by rw [Int.tmod_eq_emod_of_nonneg (by omega)]; omega
    have b1 : z.natAbs / 60 ≤ 100 := by omega
    have b2 : z.natAbs % 60 ≤ 100 := by omega
    generalize S (pad2 (z.natAbs / 60)) = a at *
    generalize S (pad2 (z.natAbs % 60)) = b at *
    generalize z.natAbs / 60 = x at *
    generalize z.natAbs % 60 = y at *
    go_enter Tryz.func85, Tryz.ntmps85
    go_wp2_with fail
    refine (hA.out _).mono ?_
    rintro e w1 ⟨rfl, hb1⟩
    go_wp2_with fail
    refine (hB.out _).mono ?_
    rintro e w2 ⟨rfl, hb2⟩
    go_wp2
    go_ret
    exact ⟨ret_str HR.out, hb1.trans (hb2.mono hb1.size)⟩
  · have HR : Hid ((⟨#[43]⟩ : ByteArray) ++ S (pad2 (z.natAbs / 60)) ++ S (pad2 (z.natAbs % 60)) = S (zoneL z)) := Lib.hid (by
      rw [show (⟨#[43]⟩ : ByteArray) = S [43] from rfl, S_app, S_app]; unfold zoneL; rw [if_neg hz]; rfl)
    have q1 : Int.tdiv z 60 = ((z.natAbs / 60 : Nat) : Int) := by rw [Int.tdiv_eq_ediv_of_nonneg (by omega)]; omega
    have q2 : Int.tmod z 60 = ((z.natAbs % 60 : Nat) : Int) := by rw [Int.tmod_eq_emod_of_nonneg (by omega)]; omega
    have b1 : z.natAbs / 60 ≤ 100 := by omega
    have b2 : z.natAbs % 60 ≤ 100 := by omega
    generalize S (pad2 (z.natAbs / 60)) = a at *
    generalize S (pad2 (z.natAbs % 60)) = b at *
    generalize z.natAbs / 60 = x at *
    generalize z.natAbs % 60 = y at *
    go_enter Tryz.func85, Tryz.ntmps85
    go_wp2_with fail
    refine (hA.out _).mono ?_
    rintro e w1 ⟨rfl, hb1⟩
    go_wp2_with fail
    refine (hB.out _).mono ?_
    rintro e w2 ⟨rfl, hb2⟩
    go_wp2
    go_ret
    exact ⟨ret_str HR.out, hb1.trans (hb2.mono hb1.size)⟩
structure RClock (w : World) (y m d z : Int) (H N E : Nat) (a1 a2 a3 a4 : ByteArray) : Prop where
  p1 : ∀ X, S7 w y m d H N E z X → Calls Tryz.prog 62 #[.int .i64 H, .int .i64 2] X fun e w' => e = .returned (.string a1) ∧ S7 w y m d H N E z w'
  p2 : ∀ X, S7 w y m d H N E z X → Calls Tryz.prog 62 #[.int .i64 N, .int .i64 2] X fun e w' => e = .returned (.string a2) ∧ S7 w y m d H N E z w'
  p3 : ∀ X, S7 w y m d H N E z X → Calls Tryz.prog 62 #[.int .i64 E, .int .i64 2] X fun e w' => e = .returned (.string a3) ∧ S7 w y m d H N E z w'
  p4 : ∀ X, S7 w y m d H N E z X → Calls Tryz.prog 85 #[.int .i64 z] X fun e w' => e = .returned (.string a4) ∧ S7 w y m d H N E z w'
set_option maxRecDepth 100000 in
set_option maxHeartbeats 4000000 in
theorem rclock_any (y m d z : Int) (H N E : Nat) (w : World) (hH : H < 100) (hN : N < 100) (hE : E < 100) (h1 : -1439 ≤ z) (h2 : z ≤ 1439) :
    Calls Tryz.prog 66 #[mom y m d H N E z] w fun e w' => e = .returned (.string (S (clockL H N E ++ [32] ++ zoneL z))) ∧ Below w.heap.size w w' := by
  have hF : RClock w y m d z H N E (S (pad2 H)) (S (pad2 N)) (S (pad2 E)) (S (zoneL z)) :=
    ⟨fun X hX => (text_2 H X hH).mono fun e w' ⟨k1, k2⟩ => ⟨k1, S7.on hX k2⟩,
     fun X hX => (text_2 N X hN).mono fun e w' ⟨k1, k2⟩ => ⟨k1, S7.on hX k2⟩,
     fun X hX => (text_2 E X hE).mono fun e w' ⟨k1, k2⟩ => ⟨k1, S7.on hX k2⟩,
     fun X hX => (rzone_any z X h1 h2).mono fun e w' ⟨k1, k2⟩ => ⟨k1, S7.on hX k2⟩⟩
  have HA : Hid (S (pad2 H) ++ (⟨#[58]⟩ : ByteArray) ++ S (pad2 N) ++ (⟨#[58]⟩ : ByteArray) ++ S (pad2 E) ++ (⟨#[32]⟩ : ByteArray) ++ S (zoneL z) = S (clockL H N E ++ [32] ++ zoneL z)) := Lib.hid (by
    rw [show (⟨#[58]⟩ : ByteArray) = S [58] from rfl, show (⟨#[32]⟩ : ByteArray) = S [32] from rfl, S_app, S_app, S_app, S_app, S_app, S_app]; rfl)
  have z1 : (S (pad2 H)).size = 2 := rfl
  have z2 : (S (pad2 N)).size = 2 := rfl
  have z3 : (S (pad2 E)).size = 2 := rfl
  have z4 : (S (zoneL z)).size = 5 := rfl
  have st : Hid (S7 w y m d H N E z (w.alloc (.cells #[.int .i64 y, .int .i64 m, .int .i64 d, .int .i64 H, .int .i64 N, .int .i64 E, .int .i64 z] 23)).drew) := Lib.hid (S7.on (S7.new w y m d H N E z) (Below.refl _ _).drew)
  generalize S (pad2 H) = a1 at *
  generalize S (pad2 N) = a2 at *
  generalize S (pad2 E) = a3 at *
  generalize S (zoneL z) = a4 at *
  generalize S (clockL H N E ++ [32] ++ zoneL z) = res at *
  clear hH hN hE h1 h2
  unfold mom
  go_enter Tryz.func66, Tryz.ntmps66
  go_wp2
  first | (go_region_held3 (fun X => X.cell? ⟨w.heap.size, 0, none⟩ = some (.int .i64 y) ∧ X.cell? ⟨w.heap.size, 1, none⟩ = some (.int .i64 m) ∧ X.cell? ⟨w.heap.size, 2, none⟩ = some (.int .i64 d) ∧ X.cell? ⟨w.heap.size, 3, none⟩ = some (.int .i64 (H : Int)) ∧ X.cell? ⟨w.heap.size, 4, none⟩ = some (.int .i64 (N : Int)) ∧ X.cell? ⟨w.heap.size, 5, none⟩ = some (.int .i64 (E : Int)) ∧ X.cell? ⟨w.heap.size, 6, none⟩ = some (.int .i64 z) ∧ Below w.heap.size w X) (first | with_reducible exact st.out | with_reducible assumption) (first | (go_at_call 85; with_reducible refine (hF.p4 _ ?_).mono ?_; with_reducible assumption; rintro e w5 ⟨rfl, hs5⟩) | (go_at_call 62; with_reducible refine (hF.p1 _ ?_).mono ?_; with_reducible assumption; rintro e w2 ⟨rfl, hs2⟩) | (go_at_call 62; with_reducible refine (hF.p2 _ ?_).mono ?_; with_reducible assumption; rintro e w3 ⟨rfl, hs3⟩) | (go_at_call 62; with_reducible refine (hF.p3 _ ?_).mono ?_; with_reducible assumption; rintro e w4 ⟨rfl, hs4⟩))) | fail
  go_wp2
  go_ret
  exact ⟨ret_str HA.out, hs5.2.2.2.2.2.2.2⟩
set_option maxRecDepth 100000 in
set_option maxHeartbeats 2000000 in
theorem may_any (y m d h n s z : Int) (w : World) :
    Calls Tryz.prog 65 #[mom y m d h n s z] w fun e w' => e = .returned (.int .i64 (prE y m d h n s z)) ∧ Below w.heap.size w w' := by
  have hD := Lib.hid (fun W => IsDay_any y m d h n s z W)
  have hV := Lib.hid (fun W => Valid_any y m d h n s z W)
  have q0 : Below w.heap.size w (w.alloc (.cells #[.int .i64 y, .int .i64 m, .int .i64 d, .int .i64 h, .int .i64 n, .int .i64 s, .int .i64 z] 23)) := (Below.refl _ _).alloc (Nat.le_refl _) _
  have k0 : Cells7 w.heap.size y m d h n s z (w.alloc (.cells #[.int .i64 y, .int .i64 m, .int .i64 d, .int .i64 h, .int .i64 n, .int .i64 s, .int .i64 z] 23)) := cells7_new w y m d h n s z _
  cases hf : isDayB y m d with
  | false =>
    have H2 : Hid (prE y m d h n s z = 21) := Lib.hid (by unfold prE; rw [hf]; rfl)
    rw [hf] at hD
    unfold mom at hD ⊢
    go_enter Tryz.func65, Tryz.ntmps65
    go_wp2_with (go_at_call 56; refine (hD.out _).mono ?_; rintro e w1 ⟨rfl, hb1⟩)
    go_ret
    exact ⟨ret_int H2.out.symm, q0.trans (hb1.mono q0.size)⟩
  | true =>
    rw [hf] at hD
    have H2 : Hid (prE y m d h n s z = if validB y m d h n s z then 0 else 20) := Lib.hid (by unfold prE; rw [hf]; rfl)
    generalize validB y m d h n s z = vb at *
    unfold mom at hD hV ⊢
    cases vb
    all_goals (
      go_enter Tryz.func65, Tryz.ntmps65
      go_wp2_with fail
      refine (hD.out _).mono ?_
      rintro e w1 ⟨rfl, hb1⟩
      obtain ⟨c0, c1, c2, c3, c4, c5, c6⟩ := k0.on hb1
      have q1 := Lib.hid (q0.trans (hb1.mono q0.size))
      clear hb1
      go_wp2_with fail
      refine (hV.out _).mono ?_
      rintro e w2 ⟨rfl, hb2⟩
      have q2 := q1.out.trans (hb2.mono q1.out.size)
      clear hb2
      go_wp2
      go_ret
      exact ⟨ret_int (by rw [H2.out]; rfl), q2⟩)
end Go.Proofs.YtibhlmbcohpmlaaGreatDoor

/- The reference of chapter 2: PrintInternal. -/
namespace Go.Proofs.YtibhlmbcohpmlaaGreatDoor
open Go.RowKit

structure RInt (w : World) (Y M D H N E : Nat) (z : Int) (a3 a4 : ByteArray) : Prop where
  p3 : ∀ X, S7 w Y M D H N E z X → Calls Tryz.prog 62 #[.int .i64 Y, .int .i64 4] X fun e w' => e = .returned (.string a3) ∧ S7 w Y M D H N E z w'
  p4 : ∀ X, S7 w Y M D H N E z X → Calls Tryz.prog 66 #[.agg #[.int .i64 Y, .int .i64 M, .int .i64 D, .int .i64 H, .int .i64 N, .int .i64 E, .int .i64 z]] X fun e w' => e = .returned (.string a4) ∧ S7 w Y M D H N E z w'
set_option maxRecDepth 100000 in
set_option maxHeartbeats 4000000 in
theorem refPrintInternal_any (y m d h n s z : Int) (w : World) :
    Calls Tryz.prog 33 #[mom y m d h n s z] w fun e w' => e = .returned (.tuple #[.string (S (piL y m d h n s z)), .int .i64 (prE y m d h n s z)]) ∧ Below w.heap.size w w' := by
  have hP := Lib.hid (fun W => may_any y m d h n s z W)
  have q0 : Below w.heap.size w (w.alloc (.cells #[.int .i64 y, .int .i64 m, .int .i64 d, .int .i64 h, .int .i64 n, .int .i64 s, .int .i64 z] 23)) := (Below.refl _ _).alloc (Nat.le_refl _) _
  cases hv : validB y m d h n s z with
  | false =>
    have H1 : Hid (S (piL y m d h n s z) = ⟨#[]⟩) := Lib.hid (by unfold piL; rw [hv]; rfl)
    have hne : (prE y m d h n s z != 0) = true := by rw [bne_iff_ne]; exact prE_no hv
    unfold mom at hP ⊢
    generalize prE y m d h n s z = er at *
    clear hv
    go_enter Tryz.func33, Tryz.ntmps33
    go_wp2_with (go_at_call 65; refine (hP.out _).mono ?_; rintro e w1 ⟨rfl, hb1⟩)
    go_ret2
    exact ⟨ret_si H1.out.symm rfl, q0.trans (hb1.mono q0.size)⟩
  | true =>
    rw [prE_ok hv] at hP ⊢
    have hf := valid_day hv
    have hpl : piL y m d h n s z = piT y m d h n s z := by unfold piL; rw [hv]; rfl
    obtain ⟨t1, t2, t3, t4, t5, t6, t7, t8⟩ := valid_time y m d h n s z hv
    rw [hpl]
    obtain ⟨Y, M, D, rfl, rfl, rfl, hd⟩ := isDay_parts hf
    obtain ⟨H, rfl⟩ := Int.eq_ofNat_of_zero_le t1
    obtain ⟨N, rfl⟩ := Int.eq_ofNat_of_zero_le t3
    obtain ⟨E, rfl⟩ := Int.eq_ofNat_of_zero_le t5
    have hml := mlen_bounds Y M
    have hY : Y < 10000 := by have := hd.y2; omega
    have hM1 := hd.m1
    have hM2 := hd.m2
    have hDd : D < 100 := by have := hd.d2; omega
    obtain ⟨k, hk⟩ : ∃ k, M = k + 1 := ⟨M - 1, by omega⟩
    have hF : RInt w Y M D H N E z (S (pad4 Y)) (S (clockL H N E ++ [32] ++ zoneL z)) :=
      ⟨fun X hX => (text_4 Y X hY).mono fun e w' ⟨k1, k2⟩ => ⟨k1, S7.on hX k2⟩,
       fun X hX => (rclock_any Y M D z H N E X (by omega) (by omega) (by omega) t7 t8).mono fun e w' ⟨k1, k2⟩ => ⟨k1, S7.on hX k2⟩⟩
    have hT := Lib.hid (fun W => text_1 D W hDd)
    have HA : Hid (S (if (D : Int) < 10 then [32] else []) ++ S (Lib.decDigits D) ++ (⟨#[45]⟩ : ByteArray) ++ S (monN k) ++ (⟨#[45]⟩ : ByteArray) ++ S (pad4 Y) ++ (⟨#[32]⟩ : ByteArray) ++ S (clockL H N E ++ [32] ++ zoneL z) = S (piT Y M D H N E z)) := Lib.hid (by
      rw [show (⟨#[45]⟩ : ByteArray) = S [45] from rfl, show (⟨#[32]⟩ : ByteArray) = S [32] from rfl, S_app, S_app, S_app, S_app, S_app, S_app, S_app]
      unfold piT dayL
      simp only [Int.toNat_natCast, hk, Nat.add_sub_cancel, List.append_assoc])
    have hLa := large_at k (by omega)
    have z2 : (S (monN k)).size = 3 := monN_len k (by omega)
    have z3 : (S (pad4 Y)).size = 4 := rfl
    have z4 : (S (clockL H N E ++ [32] ++ zoneL z)).size = 14 := rfl
    have w1 : IntKind.i64.wrap (3 * (M : Int)) = ((3 * k + 3 : Nat) : Int) := by simp [IntKind.wrap, IntKind.bits, IntKind.signed]; omega
    have w2 : IntKind.i64.wrap (((3 * k + 3 : Nat) : Int) - 3) = ((3 * k : Nat) : Int) := by simp [IntKind.wrap, IntKind.bits, IntKind.signed]; omega
    have b1 : 3 * k + 3 ≤ 36 := by omega
    have b2 : 3 * k ≤ 3 * k + 3 := by omega
    have b3 : (0 : Int) ≤ ((3 * k : Nat) : Int) := by omega
    have b4 : ((3 * k : Nat) : Int) ≤ ((3 * k + 3 : Nat) : Int) := by omega
    have b5 : ((3 * k + 3 : Nat) : Int) ≤ 36 := by omega
    have b6 : (0 : Int) ≤ ((3 * k + 3 : Nat) : Int) := by omega
    have hsz : largeB.size = 36 := rfl
    have hLB : (⟨#[74, 97, 110, 70, 101, 98, 77, 97, 114, 65, 112, 114, 77, 97, 121, 74, 117, 110, 74, 117, 108, 65, 117, 103, 83, 101, 112, 79, 99, 116, 78, 111, 118, 68, 101, 99]⟩ : ByteArray) = largeB := rfl
    have st0 := Lib.hid (S7.new w Y M D H N E z)
    have hj : (D < 10 ∧ (S (Lib.decDigits D)).size = 1) ∨ (10 ≤ D ∧ (S (Lib.decDigits D)).size = 2) := by
      rcases Nat.lt_or_ge D 10 with g | g
      · exact .inl ⟨g, by rw [dec1 D g]; rfl⟩
      · exact .inr ⟨g, by rw [dec2 D g (by omega)]; rfl⟩
    generalize 3 * k + 3 = bb at *
    generalize 3 * k = aa at *
    generalize S (Lib.decDigits D) = a1 at *
    generalize S (monN k) = nm at *
    generalize S (pad4 Y) = a3 at *
    generalize S (clockL H N E ++ [32] ++ zoneL z) = a4 at *
    generalize S (piT Y M D H N E z) = res at *
    generalize largeB = LB at *
    clear hd hml hY hM1 hM2 hk q0 hf hv hpl t1 t2 t3 t4 t5 t6 t7 t8
    unfold mom at hP ⊢
    rcases hj with ⟨hj1, z1⟩ | ⟨hj1, z1⟩
    · rw [if_pos (by omega)] at HA
      have z5 : ((⟨#[32]⟩ : ByteArray) ++ a1).size = 2 := by rw [ByteArray.size_append, z1]; rfl
      change Hid ((⟨#[32]⟩ : ByteArray) ++ a1 ++ (⟨#[45]⟩ : ByteArray) ++ nm ++ (⟨#[45]⟩ : ByteArray) ++ a3 ++ (⟨#[32]⟩ : ByteArray) ++ a4 = res) at HA
      go_enter Tryz.func33, Tryz.ntmps33
      go_wp2_with fail
      refine (hP.out _).mono ?_
      rintro e w1' ⟨rfl, hb1⟩
      have st1 := S7.on st0.out hb1
      clear hb1 hP st0
      obtain ⟨c0, c1, c2, c3, c4, c5, c6, cq⟩ := st1
      go_wp2_with fail
      refine (hT.out _).mono ?_
      rintro e w2' ⟨rfl, hb2⟩
      have st2 := S7.on (X := w1') ⟨c0, c1, c2, c3, c4, c5, c6, cq⟩ hb2
      have st3 : Hid (S7 w Y M D H N E z w2'.drew) := Lib.hid (S7.on st2 (Below.refl _ _).drew)
      clear hb2 hT c0 c1 c2 c3 c4 c5 c6 cq
      obtain ⟨c0, c1, c2, c3, c4, c5, c6, cq⟩ := st2
      go_wp2
      generalize (⟨#[32]⟩ : ByteArray) ++ a1 = a2 at *
      first | (go_region_held3 (fun X => X.cell? ⟨w.heap.size, 0, none⟩ = some (.int .i64 (Y : Int)) ∧ X.cell? ⟨w.heap.size, 1, none⟩ = some (.int .i64 (M : Int)) ∧ X.cell? ⟨w.heap.size, 2, none⟩ = some (.int .i64 (D : Int)) ∧ X.cell? ⟨w.heap.size, 3, none⟩ = some (.int .i64 (H : Int)) ∧ X.cell? ⟨w.heap.size, 4, none⟩ = some (.int .i64 (N : Int)) ∧ X.cell? ⟨w.heap.size, 5, none⟩ = some (.int .i64 (E : Int)) ∧ X.cell? ⟨w.heap.size, 6, none⟩ = some (.int .i64 z) ∧ Below w.heap.size w X) (first | with_reducible exact st3.out | with_reducible assumption) (first | (go_at_call 62; with_reducible refine (hF.p3 _ ?_).mono ?_; with_reducible assumption; rintro e w3 ⟨rfl, hs3⟩) | (go_at_call 66; with_reducible refine (hF.p4 _ ?_).mono ?_; with_reducible assumption; rintro e w4 ⟨rfl, hs4⟩))) | fail
      go_wp2
      go_ret2
      exact ⟨ret_si HA.out rfl, hs4.2.2.2.2.2.2.2⟩
    · rw [if_neg (by omega)] at HA
      change Hid (S [] ++ a1 ++ (⟨#[45]⟩ : ByteArray) ++ nm ++ (⟨#[45]⟩ : ByteArray) ++ a3 ++ (⟨#[32]⟩ : ByteArray) ++ a4 = res) at HA
      rw [show S [] ++ a1 = a1 by rw [← S_L a1, S_app]; rfl] at HA
      go_enter Tryz.func33, Tryz.ntmps33
      go_wp2_with fail
      refine (hP.out _).mono ?_
      rintro e w1' ⟨rfl, hb1⟩
      have st1 := S7.on st0.out hb1
      clear hb1 hP st0
      obtain ⟨c0, c1, c2, c3, c4, c5, c6, cq⟩ := st1
      go_wp2_with fail
      refine (hT.out _).mono ?_
      rintro e w2' ⟨rfl, hb2⟩
      have st2 := S7.on (X := w1') ⟨c0, c1, c2, c3, c4, c5, c6, cq⟩ hb2
      have st3 : Hid (S7 w Y M D H N E z w2'.drew) := Lib.hid (S7.on st2 (Below.refl _ _).drew)
      clear hb2 hT c0 c1 c2 c3 c4 c5 c6 cq
      obtain ⟨c0, c1, c2, c3, c4, c5, c6, cq⟩ := st2
      go_wp2
      first | (go_region_held3 (fun X => X.cell? ⟨w.heap.size, 0, none⟩ = some (.int .i64 (Y : Int)) ∧ X.cell? ⟨w.heap.size, 1, none⟩ = some (.int .i64 (M : Int)) ∧ X.cell? ⟨w.heap.size, 2, none⟩ = some (.int .i64 (D : Int)) ∧ X.cell? ⟨w.heap.size, 3, none⟩ = some (.int .i64 (H : Int)) ∧ X.cell? ⟨w.heap.size, 4, none⟩ = some (.int .i64 (N : Int)) ∧ X.cell? ⟨w.heap.size, 5, none⟩ = some (.int .i64 (E : Int)) ∧ X.cell? ⟨w.heap.size, 6, none⟩ = some (.int .i64 z) ∧ Below w.heap.size w X) (first | with_reducible exact st3.out | with_reducible assumption) (first | (go_at_call 62; with_reducible refine (hF.p3 _ ?_).mono ?_; with_reducible assumption; rintro e w3 ⟨rfl, hs3⟩) | (go_at_call 66; with_reducible refine (hF.p4 _ ?_).mono ?_; with_reducible assumption; rintro e w4 ⟨rfl, hs4⟩))) | fail
      go_wp2
      go_ret2
      exact ⟨ret_si HA.out rfl, hs4.2.2.2.2.2.2.2⟩
end Go.Proofs.YtibhlmbcohpmlaaGreatDoor

/- The statement MomentInternals: the walk. -/
namespace Go.Proofs.YtibhlmbcohpmlaaGreatDoor
open Go.RowKit

theorem refReadInternal_any (s : ByteArray) (w : World) :
    Calls Tryz.prog 32 #[.string s] w fun e w' => e = .returned (.tuple #[riV (L s), .int .i64 (riE (L s))]) ∧ Below w.heap.size w w' := by
  by_cases h : (L s).length = 26 ∧ (bt (L s) 11 == 32) = true ∧ (bt (L s) 14 == 58) = true ∧ (bt (L s) 17 == 58) = true ∧ (bt (L s) 20 == 32) = true
  · exact refReadInternal_yes s w h.1 h.2.1 h.2.2.1 h.2.2.2.1 h.2.2.2.2
  · have hb := ri_no (L s) h
    have h1 : riV (L s) = mom 0 0 0 0 0 0 0 := by unfold riV; rw [hb]; rfl
    have h2 : riE (L s) = 20 := by unfold riE; rw [hb]; rfl
    rw [h1, h2]
    exact refReadInternal_no s w h
theorem momReadInternal_any (s : ByteArray) (w : World) (he : Env w) :
    Calls Tryz.prog 16 #[.string s] w fun e w' => e = .returned (.tuple #[riV (L s), .int .i64 (riE (L s))]) ∧ Below w.heap.size w w' := by
  by_cases h : s.size = 26 ∧ (bt (L s) 11 == 32) = true ∧ (bt (L s) 20 == 32) = true
  · exact momReadInternal_yes s w he h.1 h.2.1 h.2.2
  · have hb := ri_no (L s) (fun k => h ⟨k.1, k.2.1, k.2.2.2.2⟩)
    have h1 : riV (L s) = mom 0 0 0 0 0 0 0 := by unfold riV; rw [hb]; rfl
    have h2 : riE (L s) = 20 := by unfold riE; rw [hb]; rfl
    rw [h1, h2]
    refine momReadInternal_no s w ?_
    by_cases h26 : s.size = 26
    · right
      refine ⟨h26, ?_⟩
      cases p1 : (bt (L s) 11 == 32) with
      | false => exact .inl rfl
      | true =>
        right
        refine ⟨rfl, ?_⟩
        cases p2 : (bt (L s) 20 == 32) with
        | false => rfl
        | true => exact absurd ⟨h26, p1, p2⟩ h
    · exact .inl h26
set_option maxRecDepth 100000 in
set_option maxHeartbeats 4000000 in
theorem lawInternal_any (x : ByteArray) (y m d h n s z : Int) (w : World) (he : Env w) :
    Calls Tryz.prog 13 #[.string x, mom y m d h n s z] w fun e w' => e = .returned (.bool true) ∧ Below w.heap.size w w' := by
  have H1 := Lib.hid (fun W hW => momReadInternal_any x W hW)
  have H2 := Lib.hid (fun W => refReadInternal_any x W)
  have H3 := Lib.hid (fun W hW => momPrintInternal_any y m d h n s z W hW)
  have H4 := Lib.hid (fun W => refPrintInternal_any y m d h n s z W)
  obtain ⟨r0, r1, r2, r3, r4, r5, r6, hr0⟩ := judV_shape (riB (L x)) (tdY (riDay (L x))) (tdM (riDay (L x))) (tdD (riDay (L x))) (tcH (((L x).drop 12).take 8)) (tcN (((L x).drop 12).take 8)) (tcS (((L x).drop 12).take 8)) (tzV ((L x).drop 21))
  have hr : riV (L x) = mom r0 r1 r2 r3 r4 r5 r6 := hr0
  rw [hr] at H1 H2
  clear hr hr0
  generalize riE (L x) = er at *
  generalize S (piL y m d h n s z) = t at *
  generalize prE y m d h n s z = eg at *
  have q0 : Below w.heap.size w (w.alloc (.cells #[.int .i64 y, .int .i64 m, .int .i64 d, .int .i64 h, .int .i64 n, .int .i64 s, .int .i64 z] 23)) := (Below.refl _ _).alloc (Nat.le_refl _) _
  have k0 : Cells7 w.heap.size y m d h n s z (w.alloc (.cells #[.int .i64 y, .int .i64 m, .int .i64 d, .int .i64 h, .int .i64 n, .int .i64 s, .int .i64 z] 23)) := cells7_new w y m d h n s z _
  have e0 := he.on q0
  clear he
  unfold mom at H1 H2 H3 H4 ⊢
  go_enter Tryz.func13, Tryz.ntmps13
  go_wp2_with fail
  refine (H1.out _ e0).mono ?_
  rintro e w1 ⟨rfl, hb1⟩
  have q1 := q0.trans (hb1.mono q0.size)
  have q1a := q1.alloc q1.size (.cells #[.int .i64 r0, .int .i64 r1, .int .i64 r2, .int .i64 r3, .int .i64 r4, .int .i64 r5, .int .i64 r6] 23)
  have k1 := (k0.on hb1).on ((Below.refl _ _).alloc (Nat.le_refl _) (.cells #[.int .i64 r0, .int .i64 r1, .int .i64 r2, .int .i64 r3, .int .i64 r4, .int .i64 r5, .int .i64 r6] 23))
  have a1 : Cells7 w1.heap.size r0 r1 r2 r3 r4 r5 r6 (w1.alloc (.cells #[.int .i64 r0, .int .i64 r1, .int .i64 r2, .int .i64 r3, .int .i64 r4, .int .i64 r5, .int .i64 r6] 23)) := cells7_new w1 r0 r1 r2 r3 r4 r5 r6 _
  have e1 := (e0.on hb1).on ((Below.refl _ _).alloc (Nat.le_refl _) (.cells #[.int .i64 r0, .int .i64 r1, .int .i64 r2, .int .i64 r3, .int .i64 r4, .int .i64 r5, .int .i64 r6] 23))
  clear hb1 q0 q1 k0 e0
  go_wp2_with fail
  refine (H2.out _).mono ?_
  rintro e w2 ⟨rfl, hb2⟩
  have q2 := q1a.trans (hb2.mono q1a.size)
  have q2a := q2.alloc q2.size (.cells #[.int .i64 r0, .int .i64 r1, .int .i64 r2, .int .i64 r3, .int .i64 r4, .int .i64 r5, .int .i64 r6] 23)
  have k2 := (k1.on hb2).on ((Below.refl _ _).alloc (Nat.le_refl _) (.cells #[.int .i64 r0, .int .i64 r1, .int .i64 r2, .int .i64 r3, .int .i64 r4, .int .i64 r5, .int .i64 r6] 23))
  have a2 := (a1.on hb2).on ((Below.refl _ _).alloc (Nat.le_refl _) (.cells #[.int .i64 r0, .int .i64 r1, .int .i64 r2, .int .i64 r3, .int .i64 r4, .int .i64 r5, .int .i64 r6] 23))
  have b2 : Cells7 w2.heap.size r0 r1 r2 r3 r4 r5 r6 (w2.alloc (.cells #[.int .i64 r0, .int .i64 r1, .int .i64 r2, .int .i64 r3, .int .i64 r4, .int .i64 r5, .int .i64 r6] 23)) := cells7_new w2 r0 r1 r2 r3 r4 r5 r6 _
  have e2 := (e1.on hb2).on ((Below.refl _ _).alloc (Nat.le_refl _) (.cells #[.int .i64 r0, .int .i64 r1, .int .i64 r2, .int .i64 r3, .int .i64 r4, .int .i64 r5, .int .i64 r6] 23))
  clear hb2 q1a q2 k1 a1 e1
  obtain ⟨c0, c1, c2, c3, c4, c5, c6⟩ := k2
  go_wp2_with fail
  refine (H3.out _ e2).mono ?_
  rintro e w3 ⟨rfl, hb3⟩
  have q3 := q2a.trans (hb3.mono q2a.size)
  have k3 := (Cells7.mk c0 c1 c2 c3 c4 c5 c6).on hb3
  have a3 := a2.on hb3
  have b3 := b2.on hb3
  clear hb3 q2a a2 b2 e2 c0 c1 c2 c3 c4 c5 c6
  obtain ⟨c0, c1, c2, c3, c4, c5, c6⟩ := k3
  go_wp2_with fail
  refine (H4.out _).mono ?_
  rintro e w4 ⟨rfl, hb4⟩
  have q4 := q3.trans (hb4.mono q3.size)
  have a4 := a3.on hb4
  have b4 := b3.on hb4
  clear hb4 q3 a3 b3 c0 c1 c2 c3 c4 c5 c6 H1 H2 H3 H4
  obtain ⟨c0, c1, c2, c3, c4, c5, c6⟩ := a4
  obtain ⟨d0, d1, d2, d3, d4, d5, d6⟩ := b4
  go_wp2_with (go_at_call 31; refine (mnum_any _ _).mono ?_; rintro e w5 ⟨rfl, rfl⟩)
  go_ret
  exact ⟨rfl, q4⟩
structure IntsF (w : World) (y m d h n s z : Int) (x o : ByteArray) : Prop where
  k : ∀ X, SQ w y m d h n s z X → Calls Tryz.prog 8 #[] X fun e w' => e = .returned (.bool true) ∧ SQ w y m d h n s z w'
  p : ∀ X, SQ w y m d h n s z X → Calls Tryz.prog 13 #[.string x, .agg #[.int .i64 y, .int .i64 m, .int .i64 d, .int .i64 h, .int .i64 n, .int .i64 s, .int .i64 z]] X fun e w' => e = .returned (.bool true) ∧ SQ w y m d h n s z w'
  q : ∀ X, SQ w y m d h n s z X → Calls Tryz.prog 13 #[.string o, .agg #[.int .i64 y, .int .i64 m, .int .i64 d, .int .i64 h, .int .i64 n, .int .i64 s, .int .i64 z]] X fun e w' => e = .returned (.bool true) ∧ SQ w y m d h n s z w'
set_option maxRecDepth 100000 in
set_option maxHeartbeats 4000000 in
theorem MomentInternals_walk (x : ByteArray) (y m d h n s z : Int) (o : ByteArray) (w : World) (he : Env w) (_ : x.size ≤ 140737488355328) (_ : o.size ≤ 140737488355328) :
    Calls Tryz.prog 6 #[.string x, mom y m d h n s z, .string o] w fun e w' => e = .returned (.bool true) ∧ Below w.heap.size w w' := by
  have hF : IntsF w y m d h n s z x o :=
    ⟨fun X hX => (known_any X hX.2.2.2.2.2.2.2.1).mono fun e w' ⟨k1, k2⟩ => ⟨k1, SQ.on hX k2⟩,
     fun X hX => (lawInternal_any x y m d h n s z X hX.2.2.2.2.2.2.2.1).mono fun e w' ⟨k1, k2⟩ => ⟨k1, SQ.on hX k2⟩,
     fun X hX => (lawInternal_any o y m d h n s z X hX.2.2.2.2.2.2.2.1).mono fun e w' ⟨k1, k2⟩ => ⟨k1, SQ.on hX k2⟩⟩
  have q0 : Below w.heap.size w (w.alloc (.cells #[.int .i64 y, .int .i64 m, .int .i64 d, .int .i64 h, .int .i64 n, .int .i64 s, .int .i64 z] 23)) := (Below.refl _ _).alloc (Nat.le_refl _) _
  have st : Hid (SQ w y m d h n s z (w.alloc (.cells #[.int .i64 y, .int .i64 m, .int .i64 d, .int .i64 h, .int .i64 n, .int .i64 s, .int .i64 z] 23))) := Lib.hid (SQ.on (X := w.alloc (.cells #[.int .i64 y, .int .i64 m, .int .i64 d, .int .i64 h, .int .i64 n, .int .i64 s, .int .i64 z] 23)) (by
    obtain ⟨c0, c1, c2, c3, c4, c5, c6⟩ := cells7_new w y m d h n s z 23
    exact ⟨c0, c1, c2, c3, c4, c5, c6, he.on q0, q0⟩) (Below.refl _ _))
  clear he q0
  unfold mom
  go_enter Tryz.func6, Tryz.ntmps6
  go_wp2_with fail
  refine (hF.k _ st.out).mono ?_
  rintro e w1 ⟨rfl, hs1⟩
  have cc2 := hs1
  obtain ⟨x0, x1, x2, x3, x4, x5, x6, _, _⟩ := cc2
  go_wp2_with fail
  refine (hF.p _ hs1).mono ?_
  rintro e w2 ⟨rfl, hs2⟩
  clear x0 x1 x2 x3 x4 x5 x6
  have cc3 := hs2
  obtain ⟨x0, x1, x2, x3, x4, x5, x6, _, _⟩ := cc3
  go_wp2_with fail
  refine (hF.q _ hs2).mono ?_
  rintro e w3 ⟨rfl, hs3⟩
  clear x0 x1 x2 x3 x4 x5 x6
  have cc4 := hs3
  obtain ⟨x0, x1, x2, x3, x4, x5, x6, _, _⟩ := cc4
  go_wp2_with fail
  refine (hF.p _ hs3).mono ?_
  rintro e w4 ⟨rfl, hs4⟩
  clear x0 x1 x2 x3 x4 x5 x6
  go_wp2
  go_ret
  exact ⟨rfl, hs4.2.2.2.2.2.2.2.2⟩
end Go.Proofs.YtibhlmbcohpmlaaGreatDoor
