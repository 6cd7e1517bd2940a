/- The reference of chapter 2: PrintHeader. -/
import Derived.Test.YtckdmbeokajdjaaGreatDoorGj
import Derived.Test.YtckdmbeokajdjaaGreatDoorHd
import Derived.Test.YtckdmbeokajdjaaGreatDoorCb
namespace Go.Proofs.YtckdmbeokajdjaaGreatDoor
open Go.RowKit

def ldayB : ByteArray := ⟨#[83, 117, 110, 77, 111, 110, 84, 117, 101, 87, 101, 100, 84, 104, 117, 70, 114, 105, 83, 97, 116]⟩
theorem lday_at (k : Nat) (h : k < 7) : ldayB.extract (3 * k) (3 * k + 3) = S (wdN k) := by
  have : ∀ k : Fin 7, L (ldayB.extract (3 * k.val) (3 * k.val + 3)) = wdN k.val := by decide +kernel
  have h2 := this ⟨k, h⟩
  rw [← S_L (ldayB.extract (3 * k) (3 * k + 3))]
  exact congrArg S h2
theorem wdN_len (k : Nat) (h : k < 7) : (S (wdN k)).size = 3 := by
  have : ∀ k : Fin 7, (S (wdN k.val)).size = 3 := by decide +kernel
  exact this ⟨k, h⟩
structure RHd (w : World) (Y M D H N E : Nat) (z : Int) (a1 a3 a4 : ByteArray) : Prop where
  p1 : ∀ X, S7 w Y M D H N E z X → Calls Tryz.prog 42 #[.int .i64 D, .int .i64 1] X fun e w' => e = .returned (.string a1) ∧ S7 w Y M D H N E z w'
  p3 : ∀ X, S7 w Y M D H N E z X → Calls Tryz.prog 42 #[.int .i64 Y, .int .i64 4] X fun e w' => e = .returned (.string a3) ∧ S7 w Y M D H N E z w'
  p4 : ∀ X, S7 w Y M D H N E z X → Calls Tryz.prog 43 #[.agg #[.int .i64 Y, .int .i64 M, .int .i64 D, .int .i64 H, .int .i64 N, .int .i64 E, .int .i64 z]] X fun e w' => e = .returned (.string a4) ∧ S7 w Y M D H N E z w'
set_option maxRecDepth 100000 in
set_option maxHeartbeats 4000000 in
theorem refPrintHeader_any (y m d h n s z : Int) (w : World) :
    Calls Tryz.prog 14 #[mom y m d h n s z] w fun e w' => e = .returned (.tuple #[.string (S (phL y m d h n s z)), .int .i64 (prE y m d h n s z)]) ∧ Below w.heap.size w w' := by
  have hP := Lib.hid (fun W => may_any y m d h n s z W)
  have q0 : Below w.heap.size w (w.alloc (.cells #[.int .i64 y, .int .i64 m, .int .i64 d, .int .i64 h, .int .i64 n, .int .i64 s, .int .i64 z] 23)) := (Below.refl _ _).alloc (Nat.le_refl _) _
  cases hv : validB y m d h n s z with
  | false =>
    have H1 : Hid (S (phL y m d h n s z) = ⟨#[]⟩) := Lib.hid (by unfold phL; rw [hv]; rfl)
    have hne : (prE y m d h n s z != 0) = true := by rw [bne_iff_ne]; exact prE_no hv
    unfold mom at hP ⊢
    generalize prE y m d h n s z = er at *
    clear hv
    go_enter Tryz.func14, Tryz.ntmps14
    go_wp2_with (go_at_call 40; refine (hP.out _).mono ?_; rintro e w1 ⟨rfl, hb1⟩)
    go_ret2
    exact ⟨ret_si H1.out.symm rfl, q0.trans (hb1.mono q0.size)⟩
  | true =>
    rw [prE_ok hv] at hP ⊢
    have hf := valid_day hv
    have hpl : phL y m d h n s z = phT (wkN y m d h n s z) y.toNat m.toNat d.toNat h.toNat n.toNat s.toNat z := by unfold phL; rw [hv]; rfl
    obtain ⟨t1, t2, t3, t4, t5, t6, t7, t8⟩ := valid_time y m d h n s z hv
    rw [hpl]
    obtain ⟨wk1, wk2⟩ := wkN_ok y m d h n s z
    have hW := Lib.hid (fun W => refWeekday_any y m d h n s z W)
    rw [← wk2] at hW
    generalize wkN y m d h n s z = kw at *
    obtain ⟨Y, M, D, rfl, rfl, rfl, hd⟩ := isDay_parts hf
    obtain ⟨H, rfl⟩ := Int.eq_ofNat_of_zero_le t1
    obtain ⟨N, rfl⟩ := Int.eq_ofNat_of_zero_le t3
    obtain ⟨E, rfl⟩ := Int.eq_ofNat_of_zero_le t5
    have hml := mlen_bounds Y M
    have hY : Y < 10000 := by have := hd.y2; omega
    have hM1 := hd.m1
    have hM2 := hd.m2
    have hDd : D < 100 := by have := hd.d2; omega
    obtain ⟨k, hk⟩ : ∃ k, M = k + 1 := ⟨M - 1, by omega⟩
    have hF : RHd w Y M D H N E z (S (Lib.decDigits D)) (S (pad4 Y)) (S (clockL H N E ++ [32] ++ zoneL z)) :=
      ⟨fun X hX => (text_1 D X hDd).mono fun e w' ⟨k1, k2⟩ => ⟨k1, S7.on hX k2⟩,
       fun X hX => (text_4 Y X hY).mono fun e w' ⟨k1, k2⟩ => ⟨k1, S7.on hX k2⟩,
       fun X hX => (rclock_any Y M D z H N E X (by omega) (by omega) (by omega) t7 t8).mono fun e w' ⟨k1, k2⟩ => ⟨k1, S7.on hX k2⟩⟩
    have HA : Hid (S (wdN kw) ++ (⟨#[44, 32]⟩ : ByteArray) ++ S (Lib.decDigits D) ++ (⟨#[32]⟩ : ByteArray) ++ S (monN k) ++ (⟨#[32]⟩ : ByteArray) ++ S (pad4 Y) ++ (⟨#[32]⟩ : ByteArray) ++ S (clockL H N E ++ [32] ++ zoneL z) = S (phT kw ((Y : Int)).toNat ((M : Int)).toNat ((D : Int)).toNat ((H : Int)).toNat ((N : Int)).toNat ((E : Int)).toNat z)) := Lib.hid (by
      rw [show (⟨#[44, 32]⟩ : ByteArray) = S [44, 32] from rfl, show (⟨#[32]⟩ : ByteArray) = S [32] from rfl, S_app, S_app, S_app, S_app, S_app, S_app, S_app, S_app]
      unfold phT
      simp only [Int.toNat_natCast, hk, Nat.add_sub_cancel, List.append_assoc])
    have hLa := large_at k (by omega)
    have hLd := lday_at kw wk1
    have z2 : (S (monN k)).size = 3 := monN_len k (by omega)
    have z6 : (S (wdN kw)).size = 3 := wdN_len kw wk1
    have z3 : (S (pad4 Y)).size = 4 := rfl
    have z4 : (S (clockL H N E ++ [32] ++ zoneL z)).size = 14 := rfl
    have w1 : IntKind.i64.wrap (3 * (M : Int)) = ((3 * k + 3 : Nat) : Int) := by simp [IntKind.wrap, IntKind.bits, IntKind.signed]; omega
    have w2 : IntKind.i64.wrap (((3 * k + 3 : Nat) : Int) - 3) = ((3 * k : Nat) : Int) := by simp [IntKind.wrap, IntKind.bits, IntKind.signed]; omega
    have w3 : IntKind.i64.wrap (3 * (kw : Int)) = ((3 * kw : Nat) : Int) := by simp [IntKind.wrap, IntKind.bits, IntKind.signed]; omega
    have w4 : IntKind.i64.wrap (((3 * kw : Nat) : Int) + 3) = ((3 * kw + 3 : Nat) : Int) := by simp [IntKind.wrap, IntKind.bits, IntKind.signed]; omega
    have b1 : 3 * k + 3 ≤ 36 := by omega
    have b2 : 3 * k ≤ 3 * k + 3 := by omega
    have b3 : (0 : Int) ≤ ((3 * k : Nat) : Int) := by omega
    have b4 : ((3 * k : Nat) : Int) ≤ ((3 * k + 3 : Nat) : Int) := by omega
    have b5 : ((3 * k + 3 : Nat) : Int) ≤ 36 := by omega
    have b6 : (0 : Int) ≤ ((3 * k + 3 : Nat) : Int) := by omega
    have d1 : 3 * kw + 3 ≤ 21 := by omega
    have d2 : 3 * kw ≤ 3 * kw + 3 := by omega
    have d3 : (0 : Int) ≤ ((3 * kw : Nat) : Int) := by omega
    have d4 : ((3 * kw : Nat) : Int) ≤ ((3 * kw + 3 : Nat) : Int) := by omega
    have d5 : ((3 * kw + 3 : Nat) : Int) ≤ 21 := by omega
    have d6 : (0 : Int) ≤ ((3 * kw + 3 : Nat) : Int) := by omega
    have hsz : largeB.size = 36 := rfl
    have hszd : ldayB.size = 21 := rfl
    have hLB : (⟨#[74, 97, 110, 70, 101, 98, 77, 97, 114, 65, 112, 114, 77, 97, 121, 74, 117, 110, 74, 117, 108, 65, 117, 103, 83, 101, 112, 79, 99, 116, 78, 111, 118, 68, 101, 99]⟩ : ByteArray) = largeB := rfl
    have hDB : (⟨#[83, 117, 110, 77, 111, 110, 84, 117, 101, 87, 101, 100, 84, 104, 117, 70, 114, 105, 83, 97, 116]⟩ : ByteArray) = ldayB := rfl
    have st0 := Lib.hid (S7.new w Y M D H N E z)
    obtain ⟨j, z1, hj⟩ : ∃ j, (S (Lib.decDigits D)).size = j ∧ (j = 1 ∨ j = 2) := ⟨_, rfl, dec_len D hDd⟩
    generalize 3 * k + 3 = bb at *
    generalize 3 * k = aa at *
    generalize 3 * kw + 3 = bd at *
    generalize 3 * kw = ad at *
    generalize S (Lib.decDigits D) = a1 at *
    generalize S (monN k) = nm at *
    generalize S (pad4 Y) = a3 at *
    generalize S (clockL H N E ++ [32] ++ zoneL z) = a4 at *
    generalize S (phT kw ((Y : Int)).toNat ((M : Int)).toNat ((D : Int)).toNat ((H : Int)).toNat ((N : Int)).toNat ((E : Int)).toNat z) = res at *
    generalize S (wdN kw) = dn at *
    generalize largeB = LB at *
    generalize ldayB = DB at *
    clear hd hml hY hM1 hM2 hDd hk q0 hf hv hpl t1 t2 t3 t4 t5 t6 t7 t8 wk2 wk1
    unfold mom at hP hW ⊢
    rcases hj with rfl | rfl
    all_goals (
      go_enter Tryz.func14, Tryz.ntmps14
      go_wp2_with fail
      refine (hP.out _).mono ?_
      rintro e w1' ⟨rfl, hb1⟩
      have st1 := S7.on st0.out hb1
      clear hb1 hP st0
      obtain ⟨c0, c1, c2, c3, c4, c5, c6, cq⟩ := st1
      go_wp2_with fail
      refine (hW.out _).mono ?_
      rintro e w2' ⟨rfl, hb2⟩
      have st2 := S7.on (X := w1') ⟨c0, c1, c2, c3, c4, c5, c6, cq⟩ hb2
      have st3 : Hid (S7 w Y M D H N E z w2'.drew) := Lib.hid (S7.on st2 (Below.refl _ _).drew)
      clear hb2 hW c0 c1 c2 c3 c4 c5 c6 cq st2
      go_wp2
      first | (go_region_held3 (fun X => X.cell? ⟨w.heap.size, 0, none⟩ = some (.int .i64 (Y : Int)) ∧ X.cell? ⟨w.heap.size, 1, none⟩ = some (.int .i64 (M : Int)) ∧ X.cell? ⟨w.heap.size, 2, none⟩ = some (.int .i64 (D : Int)) ∧ X.cell? ⟨w.heap.size, 3, none⟩ = some (.int .i64 (H : Int)) ∧ X.cell? ⟨w.heap.size, 4, none⟩ = some (.int .i64 (N : Int)) ∧ X.cell? ⟨w.heap.size, 5, none⟩ = some (.int .i64 (E : Int)) ∧ X.cell? ⟨w.heap.size, 6, none⟩ = some (.int .i64 z) ∧ Below w.heap.size w X) (first | with_reducible exact st3.out | with_reducible assumption) (first | (go_at_call 42; with_reducible refine (hF.p1 _ ?_).mono ?_; with_reducible assumption; rintro e w2' ⟨rfl, hs2⟩) | (go_at_call 42; with_reducible refine (hF.p3 _ ?_).mono ?_; with_reducible assumption; rintro e w3 ⟨rfl, hs3⟩) | (go_at_call 43; with_reducible refine (hF.p4 _ ?_).mono ?_; with_reducible assumption; rintro e w4 ⟨rfl, hs4⟩))) | fail
      go_wp2
      go_ret2
      exact ⟨ret_si HA.out rfl, hs4.2.2.2.2.2.2.2⟩)
end Go.Proofs.YtckdmbeokajdjaaGreatDoor
