/- The reference of chapter 2: PrintInternal. -/
import Derived.Test.YtlcjpkbcnoibeabGreatDoorGm
namespace Go.Proofs.YtlcjpkbcnoibeabGreatDoor
open Go.RowKit

structure RInt (w : World) (Y M D H N E : Nat) (z : Int) (a3 a4 : ByteArray) : Prop where
  p3 : ∀ X, S7 w Y M D H N E z X → Calls Tryz.prog 62 #[.int .i64 Y, .int .i64 4] X fun e w' => e = .returned (.string a3) ∧ S7 w Y M D H N E z w'
  p4 : ∀ X, S7 w Y M D H N E z X → Calls Tryz.prog 66 #[.agg #[.int .i64 Y, .int .i64 M, .int .i64 D, .int .i64 H, .int .i64 N, .int .i64 E, .int .i64 z]] X fun e w' => e = .returned (.string a4) ∧ S7 w Y M D H N E z w'
set_option maxRecDepth 100000 in
set_option maxHeartbeats 4000000 in
theorem refPrintInternal_any (y m d h n s z : Int) (w : World) :
    Calls Tryz.prog 33 #[mom y m d h n s z] w fun e w' => e = .returned (.tuple #[.string (S (piL y m d h n s z)), .int .i64 (prE y m d h n s z)]) ∧ Below w.heap.size w w' := by
  have hP := Lib.hid (fun W => may_any y m d h n s z W)
  have q0 : Below w.heap.size w (w.alloc (.cells #[.int .i64 y, .int .i64 m, .int .i64 d, .int .i64 h, .int .i64 n, .int .i64 s, .int .i64 z] 23)) := (Below.refl _ _).alloc (Nat.le_refl _) _
  cases hv : validB y m d h n s z with
  | false =>
    have H1 : Hid (S (piL y m d h n s z) = ⟨#[]⟩) := Lib.hid (by unfold piL; rw [hv]; rfl)
    have hne : (prE y m d h n s z != 0) = true := by rw [bne_iff_ne]; exact prE_no hv
    unfold mom at hP ⊢
    generalize prE y m d h n s z = er at *
    clear hv
    go_enter Tryz.func33, Tryz.ntmps33
    go_wp2_with (go_at_call 65; refine (hP.out _).mono ?_; rintro e w1 ⟨rfl, hb1⟩)
    go_ret2
    exact ⟨ret_si H1.out.symm rfl, q0.trans (hb1.mono q0.size)⟩
  | true =>
    rw [prE_ok hv] at hP ⊢
    have hf := valid_day hv
    have hpl : piL y m d h n s z = piT y m d h n s z := by unfold piL; rw [hv]; rfl
    obtain ⟨t1, t2, t3, t4, t5, t6, t7, t8⟩ := valid_time y m d h n s z hv
    rw [hpl]
    obtain ⟨Y, M, D, rfl, rfl, rfl, hd⟩ := isDay_parts hf
    obtain ⟨H, rfl⟩ := Int.eq_ofNat_of_zero_le t1
    obtain ⟨N, rfl⟩ := Int.eq_ofNat_of_zero_le t3
    obtain ⟨E, rfl⟩ := Int.eq_ofNat_of_zero_le t5
    have hml := mlen_bounds Y M
    have hY : Y < 10000 := by have := hd.y2; omega
    have hM1 := hd.m1
    have hM2 := hd.m2
    have hDd : D < 100 := by have := hd.d2; omega
    obtain ⟨k, hk⟩ : ∃ k, M = k + 1 := ⟨M - 1, by omega⟩
    have hF : RInt w Y M D H N E z (S (pad4 Y)) (S (clockL H N E ++ [32] ++ zoneL z)) :=
      ⟨fun X hX => (text_4 Y X hY).mono fun e w' ⟨k1, k2⟩ => ⟨k1, S7.on hX k2⟩,
       fun X hX => (rclock_any Y M D z H N E X (by omega) (by omega) (by omega) t7 t8).mono fun e w' ⟨k1, k2⟩ => ⟨k1, S7.on hX k2⟩⟩
    have hT := Lib.hid (fun W => text_1 D W hDd)
    have HA : Hid (S (if (D : Int) < 10 then [32] else []) ++ S (Lib.decDigits D) ++ (⟨#[45]⟩ : ByteArray) ++ S (monN k) ++ (⟨#[45]⟩ : ByteArray) ++ S (pad4 Y) ++ (⟨#[32]⟩ : ByteArray) ++ S (clockL H N E ++ [32] ++ zoneL z) = S (piT Y M D H N E z)) := Lib.hid (by
      rw [show (⟨#[45]⟩ : ByteArray) = S [45] from rfl, show (⟨#[32]⟩ : ByteArray) = S [32] from rfl, S_app, S_app, S_app, S_app, S_app, S_app, S_app]
      unfold piT dayL
      simp only [Int.toNat_natCast, hk, Nat.add_sub_cancel, List.append_assoc])
    have hLa := large_at k (by omega)
    have z2 : (S (monN k)).size = 3 := monN_len k (by omega)
    have z3 : (S (pad4 Y)).size = 4 := rfl
    have z4 : (S (clockL H N E ++ [32] ++ zoneL z)).size = 14 := rfl
    have w1 : IntKind.i64.wrap (3 * (M : Int)) = ((3 * k + 3 : Nat) : Int) := by simp [IntKind.wrap, IntKind.bits, IntKind.signed]; omega
    have w2 : IntKind.i64.wrap (((3 * k + 3 : Nat) : Int) - 3) = ((3 * k : Nat) : Int) := by simp [IntKind.wrap, IntKind.bits, IntKind.signed]; omega
    have b1 : 3 * k + 3 ≤ 36 := by omega
    have b2 : 3 * k ≤ 3 * k + 3 := by omega
    have b3 : (0 : Int) ≤ ((3 * k : Nat) : Int) := by omega
    have b4 : ((3 * k : Nat) : Int) ≤ ((3 * k + 3 : Nat) : Int) := by omega
    have b5 : ((3 * k + 3 : Nat) : Int) ≤ 36 := by omega
    have b6 : (0 : Int) ≤ ((3 * k + 3 : Nat) : Int) := by omega
    have hsz : largeB.size = 36 := rfl
    have hLB : (⟨#[74, 97, 110, 70, 101, 98, 77, 97, 114, 65, 112, 114, 77, 97, 121, 74, 117, 110, 74, 117, 108, 65, 117, 103, 83, 101, 112, 79, 99, 116, 78, 111, 118, 68, 101, 99]⟩ : ByteArray) = largeB := rfl
    have st0 := Lib.hid (S7.new w Y M D H N E z)
    have hj : (D < 10 ∧ (S (Lib.decDigits D)).size = 1) ∨ (10 ≤ D ∧ (S (Lib.decDigits D)).size = 2) := by
      rcases Nat.lt_or_ge D 10 with g | g
      · exact .inl ⟨g, by rw [dec1 D g]; rfl⟩
      · exact .inr ⟨g, by rw [dec2 D g (by omega)]; rfl⟩
    generalize 3 * k + 3 = bb at *
    generalize 3 * k = aa at *
    generalize S (Lib.decDigits D) = a1 at *
    generalize S (monN k) = nm at *
    generalize S (pad4 Y) = a3 at *
    generalize S (clockL H N E ++ [32] ++ zoneL z) = a4 at *
    generalize S (piT Y M D H N E z) = res at *
    generalize largeB = LB at *
    clear hd hml hY hM1 hM2 hk q0 hf hv hpl t1 t2 t3 t4 t5 t6 t7 t8
    unfold mom at hP ⊢
    rcases hj with ⟨hj1, z1⟩ | ⟨hj1, z1⟩
    · rw [if_pos (by omega)] at HA
      have z5 : ((⟨#[32]⟩ : ByteArray) ++ a1).size = 2 := by rw [ByteArray.size_append, z1]; rfl
      change Hid ((⟨#[32]⟩ : ByteArray) ++ a1 ++ (⟨#[45]⟩ : ByteArray) ++ nm ++ (⟨#[45]⟩ : ByteArray) ++ a3 ++ (⟨#[32]⟩ : ByteArray) ++ a4 = res) at HA
      go_enter Tryz.func33, Tryz.ntmps33
      go_wp2_with fail
      refine (hP.out _).mono ?_
      rintro e w1' ⟨rfl, hb1⟩
      have st1 := S7.on st0.out hb1
      clear hb1 hP st0
      obtain ⟨c0, c1, c2, c3, c4, c5, c6, cq⟩ := st1
      go_wp2_with fail
      refine (hT.out _).mono ?_
      rintro e w2' ⟨rfl, hb2⟩
      have st2 := S7.on (X := w1') ⟨c0, c1, c2, c3, c4, c5, c6, cq⟩ hb2
      have st3 : Hid (S7 w Y M D H N E z w2'.drew) := Lib.hid (S7.on st2 (Below.refl _ _).drew)
      clear hb2 hT c0 c1 c2 c3 c4 c5 c6 cq
      obtain ⟨c0, c1, c2, c3, c4, c5, c6, cq⟩ := st2
      go_wp2
      generalize (⟨#[32]⟩ : ByteArray) ++ a1 = a2 at *
      first | (go_region_held3 (fun X => X.cell? ⟨w.heap.size, 0, none⟩ = some (.int .i64 (Y : Int)) ∧ X.cell? ⟨w.heap.size, 1, none⟩ = some (.int .i64 (M : Int)) ∧ X.cell? ⟨w.heap.size, 2, none⟩ = some (.int .i64 (D : Int)) ∧ X.cell? ⟨w.heap.size, 3, none⟩ = some (.int .i64 (H : Int)) ∧ X.cell? ⟨w.heap.size, 4, none⟩ = some (.int .i64 (N : Int)) ∧ X.cell? ⟨w.heap.size, 5, none⟩ = some (.int .i64 (E : Int)) ∧ X.cell? ⟨w.heap.size, 6, none⟩ = some (.int .i64 z) ∧ Below w.heap.size w X) (first | with_reducible exact st3.out | with_reducible assumption) (first | (go_at_call 62; with_reducible refine (hF.p3 _ ?_).mono ?_; with_reducible assumption; rintro e w3 ⟨rfl, hs3⟩) | (go_at_call 66; with_reducible refine (hF.p4 _ ?_).mono ?_; with_reducible assumption; rintro e w4 ⟨rfl, hs4⟩))) | fail
      go_wp2
      go_ret2
      exact ⟨ret_si HA.out rfl, hs4.2.2.2.2.2.2.2⟩
    · rw [if_neg (by omega)] at HA
      change Hid (S [] ++ a1 ++ (⟨#[45]⟩ : ByteArray) ++ nm ++ (⟨#[45]⟩ : ByteArray) ++ a3 ++ (⟨#[32]⟩ : ByteArray) ++ a4 = res) at HA
      rw [show S [] ++ a1 = a1 by rw [← S_L a1, S_app]; rfl] at HA
      go_enter Tryz.func33, Tryz.ntmps33
      go_wp2_with fail
      refine (hP.out _).mono ?_
      rintro e w1' ⟨rfl, hb1⟩
      have st1 := S7.on st0.out hb1
      clear hb1 hP st0
      obtain ⟨c0, c1, c2, c3, c4, c5, c6, cq⟩ := st1
      go_wp2_with fail
      refine (hT.out _).mono ?_
      rintro e w2' ⟨rfl, hb2⟩
      have st2 := S7.on (X := w1') ⟨c0, c1, c2, c3, c4, c5, c6, cq⟩ hb2
      have st3 : Hid (S7 w Y M D H N E z w2'.drew) := Lib.hid (S7.on st2 (Below.refl _ _).drew)
      clear hb2 hT c0 c1 c2 c3 c4 c5 c6 cq
      obtain ⟨c0, c1, c2, c3, c4, c5, c6, cq⟩ := st2
      go_wp2
      first | (go_region_held3 (fun X => X.cell? ⟨w.heap.size, 0, none⟩ = some (.int .i64 (Y : Int)) ∧ X.cell? ⟨w.heap.size, 1, none⟩ = some (.int .i64 (M : Int)) ∧ X.cell? ⟨w.heap.size, 2, none⟩ = some (.int .i64 (D : Int)) ∧ X.cell? ⟨w.heap.size, 3, none⟩ = some (.int .i64 (H : Int)) ∧ X.cell? ⟨w.heap.size, 4, none⟩ = some (.int .i64 (N : Int)) ∧ X.cell? ⟨w.heap.size, 5, none⟩ = some (.int .i64 (E : Int)) ∧ X.cell? ⟨w.heap.size, 6, none⟩ = some (.int .i64 z) ∧ Below w.heap.size w X) (first | with_reducible exact st3.out | with_reducible assumption) (first | (go_at_call 62; with_reducible refine (hF.p3 _ ?_).mono ?_; with_reducible assumption; rintro e w3 ⟨rfl, hs3⟩) | (go_at_call 66; with_reducible refine (hF.p4 _ ?_).mono ?_; with_reducible assumption; rintro e w4 ⟨rfl, hs4⟩))) | fail
      go_wp2
      go_ret2
      exact ⟨ret_si HA.out rfl, hs4.2.2.2.2.2.2.2⟩
end Go.Proofs.YtlcjpkbcnoibeabGreatDoor
