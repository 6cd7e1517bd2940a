/- The reference of chapter 2: text at its three widths, PrintDay. -/
import Derived.Test.YtibhlmbcohpmlaaGreatDoorGe
import Derived.Test.YtibhlmbcohpmlaaGreatDoorDo
namespace Go.Proofs.YtibhlmbcohpmlaaGreatDoor
open Go.RowKit

theorem digs_1 (n : Nat) (h : n < 10) : digs 1 n = Lib.decDigits n := by
  rw [dec1 n h]; show [dg (n / 10 ^ 0 % 10)] = _
  rw [Nat.pow_zero, Nat.div_one, Nat.mod_eq_of_lt h]
theorem digs_2 (n : Nat) (h : n < 100) : digs 2 n = pad2 n := by
  show [dg (n / 10 ^ 1 % 10), dg (n / 10 ^ 0 % 10)] = [dg (n / 10), dg (n % 10)]
  rw [Nat.pow_zero, Nat.div_one, Nat.pow_one, Nat.mod_eq_of_lt (show n / 10 < 10 by omega)]
theorem digs_4 (n : Nat) (h : n < 10000) : digs 4 n = pad4 n := by
  show [dg (n / 10 ^ 3 % 10), dg (n / 10 ^ 2 % 10), dg (n / 10 ^ 1 % 10), dg (n / 10 ^ 0 % 10)] = [dg (n / 1000), dg (n / 100 % 10), dg (n / 10 % 10), dg (n % 10)]
  rw [Nat.pow_zero, Nat.div_one, Nat.pow_one, show (10 : Nat) ^ 3 = 1000 from rfl, show (10 : Nat) ^ 2 = 100 from rfl, Nat.mod_eq_of_lt (show n / 1000 < 10 by omega)]
theorem text_2 (n : Nat) (w : World) (h : n < 100) :
    Calls Tryz.prog 62 #[.int .i64 n, .int .i64 2] w fun e w' => e = .returned (.string (S (pad2 n))) ∧ Below w.heap.size w w' := by
  have := text_any n 2 2 w (by omega) (by omega) (by show n / 100 = 0; omega) (Nat.le_refl _) (fun j hj => .inr hj)
  rw [digs_2 n h] at this
  exact this
theorem text_4 (n : Nat) (w : World) (h : n < 10000) :
    Calls Tryz.prog 62 #[.int .i64 n, .int .i64 4] w fun e w' => e = .returned (.string (S (pad4 n))) ∧ Below w.heap.size w w' := by
  have := text_any n 4 4 w (by omega) (by omega) (by show n / 10000 = 0; omega) (Nat.le_refl _) (fun j hj => .inr hj)
  rw [digs_4 n h] at this
  exact this
theorem text_1 (n : Nat) (w : World) (h : n < 100) :
    Calls Tryz.prog 62 #[.int .i64 n, .int .i64 1] w fun e w' => e = .returned (.string (S (Lib.decDigits n))) ∧ Below w.heap.size w w' := by
  rcases Nat.lt_or_ge n 10 with h1 | h1
  · have := text_any n 1 1 w (by omega) (by omega) (by show n / 10 = 0; omega) (Nat.le_refl _) (fun j hj => .inr hj)
    rw [digs_1 n h1] at this
    exact this
  · have := text_any n 1 2 w (by omega) (by omega) (by show n / 100 = 0; omega) (by omega) (fun j hj => by
      rcases (by omega : j = 0 ∨ j = 1) with rfl | rfl
      · exact .inr (by omega)
      · left; show 0 < n / 10; omega)
    rw [digs_2 n h, show pad2 n = Lib.decDigits n from (dec2 n h1 h).symm] at this
    exact this
def largeB : ByteArray := ⟨#[74, 97, 110, 70, 101, 98, 77, 97, 114, 65, 112, 114, 77, 97, 121, 74, 117, 110, 74, 117, 108, 65, 117, 103, 83, 101, 112, 79, 99, 116, 78, 111, 118, 68, 101, 99]⟩
theorem large_at (k : Nat) (h : k < 12) : largeB.extract (3 * k) (3 * k + 3) = S (monN k) := by
  have : ∀ k : Fin 12, L (largeB.extract (3 * k.val) (3 * k.val + 3)) = monN k.val := by decide +kernel
  have h2 := this ⟨k, h⟩
  rw [← S_L (largeB.extract (3 * k) (3 * k + 3))]
  exact congrArg S h2
/-- What holds while the reference writes. -/
abbrev S7 (w : World) (y m d h n s z : Int) (X : World) : Prop :=
  X.cell? ⟨w.heap.size, 0, none⟩ = some (.int .i64 y) ∧ X.cell? ⟨w.heap.size, 1, none⟩ = some (.int .i64 m) ∧ X.cell? ⟨w.heap.size, 2, none⟩ = some (.int .i64 d) ∧ X.cell? ⟨w.heap.size, 3, none⟩ = some (.int .i64 h) ∧ X.cell? ⟨w.heap.size, 4, none⟩ = some (.int .i64 n) ∧ X.cell? ⟨w.heap.size, 5, none⟩ = some (.int .i64 s) ∧ X.cell? ⟨w.heap.size, 6, none⟩ = some (.int .i64 z) ∧ Below w.heap.size w X
theorem S7.on {w : World} {y m d h n s z : Int} {X Y : World} (k : S7 w y m d h n s z X) (hb : Below X.heap.size X Y) : S7 w y m d h n s z Y := by
  obtain ⟨a0, a1, a2, a3, a4, a5, a6, hq⟩ := k
  obtain ⟨c0, c1, c2, c3, c4, c5, c6⟩ := (Cells7.mk a0 a1 a2 a3 a4 a5 a6).on hb
  exact ⟨c0, c1, c2, c3, c4, c5, c6, hq.trans (hb.mono hq.size)⟩
theorem S7.new (w : World) (y m d h n s z : Int) : S7 w y m d h n s z (w.alloc (.cells #[.int .i64 y, .int .i64 m, .int .i64 d, .int .i64 h, .int .i64 n, .int .i64 s, .int .i64 z] 23)) := by
  obtain ⟨c0, c1, c2, c3, c4, c5, c6⟩ := cells7_new w y m d h n s z 23
  exact ⟨c0, c1, c2, c3, c4, c5, c6, (Below.refl _ _).alloc (Nat.le_refl _) _⟩
structure RDay (w : World) (Y M D : Nat) (h n s z : Int) (a1 a3 : ByteArray) : Prop where
  p1 : ∀ X, S7 w Y M D h n s z X → Calls Tryz.prog 62 #[.int .i64 D, .int .i64 1] X fun e w' => e = .returned (.string a1) ∧ S7 w Y M D h n s z w'
  p3 : ∀ X, S7 w Y M D h n s z X → Calls Tryz.prog 62 #[.int .i64 Y, .int .i64 4] X fun e w' => e = .returned (.string a3) ∧ S7 w Y M D h n s z w'
set_option maxRecDepth 100000 in
set_option maxHeartbeats 4000000 in
theorem refPrintDay_any (y m d h n s z : Int) (w : World) :
    Calls Tryz.prog 30 #[mom y m d h n s z] w fun e w' => e = .returned (.tuple #[.string (S (pdL y m d)), .int .i64 (pdE y m d)]) ∧ Below w.heap.size w w' := by
  have hD := Lib.hid (fun W => IsDay_any y m d h n s z W)
  have q0 : Below w.heap.size w (w.alloc (.cells #[.int .i64 y, .int .i64 m, .int .i64 d, .int .i64 h, .int .i64 n, .int .i64 s, .int .i64 z] 23)) := (Below.refl _ _).alloc (Nat.le_refl _) _
  cases hf : isDayB y m d with
  | false =>
    have H1 : Hid (S (pdL y m d) = ⟨#[]⟩) := Lib.hid (by unfold pdL; rw [hf]; rfl)
    have H2 : Hid (pdE y m d = 21) := Lib.hid (by unfold pdE; rw [hf]; rfl)
    rw [hf] at hD
    unfold mom at hD ⊢
    go_enter Tryz.func30, Tryz.ntmps30
    go_wp2_with (go_at_call 56; refine (hD.out _).mono ?_; rintro e w1 ⟨rfl, hb1⟩)
    go_ret2
    exact ⟨ret_si H1.out.symm H2.out.symm, q0.trans (hb1.mono q0.size)⟩
  | true =>
    rw [hf] at hD
    have H1 : Hid (S (pdL y m d) = S (dayL y.toNat m.toNat d.toNat)) := Lib.hid (by unfold pdL; rw [hf]; rfl)
    have H2 : Hid (pdE y m d = 0) := Lib.hid (by unfold pdE; rw [hf]; rfl)
    rw [H1.out, H2.out]
    clear H1 H2
    obtain ⟨Y, M, D, rfl, rfl, rfl, hd⟩ := isDay_parts hf
    have hml := mlen_bounds Y M
    have hY : Y < 10000 := by have := hd.y2; omega
    have hM1 := hd.m1
    have hM2 := hd.m2
    have hDd : D < 100 := by have := hd.d2; omega
    obtain ⟨k, hk⟩ : ∃ k, M = k + 1 := ⟨M - 1, by omega⟩
    have hF : RDay w Y M D h n s z (S (Lib.decDigits D)) (S (pad4 Y)) :=
      ⟨fun X hX => (text_1 D X hDd).mono fun e w' ⟨k1, k2⟩ => ⟨k1, S7.on hX k2⟩,
       fun X hX => (text_4 Y X hY).mono fun e w' ⟨k1, k2⟩ => ⟨k1, S7.on hX k2⟩⟩
    have HA : Hid (S (Lib.decDigits D) ++ (⟨#[45]⟩ : ByteArray) ++ S (monN k) ++ (⟨#[45]⟩ : ByteArray) ++ S (pad4 Y) = S (dayL ((Y : Int)).toNat ((M : Int)).toNat ((D : Int)).toNat)) := Lib.hid (by
      rw [show (⟨#[45]⟩ : ByteArray) = S [45] from rfl, S_app, S_app, S_app, S_app, Int.toNat_natCast, Int.toNat_natCast, Int.toNat_natCast, hk]; rfl)
    have hLa := large_at k (by omega)
    have z2 : (S (monN k)).size = 3 := monN_len k (by omega)
    have z3 : (S (pad4 Y)).size = 4 := rfl
    obtain ⟨j, z1, hj⟩ : ∃ j, (S (Lib.decDigits D)).size = j ∧ (j = 1 ∨ j = 2) := ⟨_, rfl, dec_len D hDd⟩
    have w1 : IntKind.i64.wrap (3 * (M : Int)) = ((3 * k + 3 : Nat) : Int) := by simp [IntKind.wrap, IntKind.bits, IntKind.signed]; omega
    have w2 : IntKind.i64.wrap (((3 * k + 3 : Nat) : Int) - 3) = ((3 * k : Nat) : Int) := by simp [IntKind.wrap, IntKind.bits, IntKind.signed]; omega
    have b1 : 3 * k + 3 ≤ 36 := by omega
    have b2 : 3 * k ≤ 3 * k + 3 := by omega
    have b3 : (0 : Int) ≤ ((3 * k : Nat) : Int) := by omega
    have b4 : ((3 * k : Nat) : Int) ≤ ((3 * k + 3 : Nat) : Int) := by omega
    have b5 : ((3 * k + 3 : Nat) : Int) ≤ 36 := by omega
    have b6 : (0 : Int) ≤ ((3 * k + 3 : Nat) : Int) := by omega
    have hsz : largeB.size = 36 := rfl
    have hLB : (⟨#[74, 97, 110, 70, 101, 98, 77, 97, 114, 65, 112, 114, 77, 97, 121, 74, 117, 110, 74, 117, 108, 65, 117, 103, 83, 101, 112, 79, 99, 116, 78, 111, 118, 68, 101, 99]⟩ : ByteArray) = largeB := rfl
    generalize 3 * k + 3 = bb at *
    generalize 3 * k = aa at *
    generalize S (Lib.decDigits D) = a1 at *
    generalize S (monN k) = nm at *
    generalize S (pad4 Y) = a3 at *
    generalize S (dayL ((Y : Int)).toNat ((M : Int)).toNat ((D : Int)).toNat) = res at *
    generalize largeB = LB at *
    have st0 := Lib.hid (S7.new w Y M D h n s z)
    clear hd hml hY hM1 hM2 hDd hk q0 hf
    unfold mom at hD ⊢
    rcases hj with rfl | rfl
    all_goals (
      go_enter Tryz.func30, Tryz.ntmps30
      go_wp2_with fail
      refine (hD.out _).mono ?_
      rintro e w1' ⟨rfl, hb1⟩
      have st1 : Hid (S7 w Y M D h n s z w1'.drew) := Lib.hid (S7.on (S7.on st0.out hb1) (Below.refl _ _).drew)
      clear hb1 hD st0
      go_wp2
      first | (go_region_held3 (fun X => X.cell? ⟨w.heap.size, 0, none⟩ = some (.int .i64 (Y : Int)) ∧ X.cell? ⟨w.heap.size, 1, none⟩ = some (.int .i64 (M : Int)) ∧ X.cell? ⟨w.heap.size, 2, none⟩ = some (.int .i64 (D : Int)) ∧ X.cell? ⟨w.heap.size, 3, none⟩ = some (.int .i64 h) ∧ X.cell? ⟨w.heap.size, 4, none⟩ = some (.int .i64 n) ∧ X.cell? ⟨w.heap.size, 5, none⟩ = some (.int .i64 s) ∧ X.cell? ⟨w.heap.size, 6, none⟩ = some (.int .i64 z) ∧ Below w.heap.size w X) (first | with_reducible exact st1.out | with_reducible assumption) (first | (go_at_call 62; with_reducible refine (hF.p1 _ ?_).mono ?_; with_reducible assumption; rintro e w2' ⟨rfl, hs2⟩) | (go_at_call 62; with_reducible refine (hF.p3 _ ?_).mono ?_; with_reducible assumption; rintro e w4 ⟨rfl, hs4⟩))) | fail
      go_wp2
      go_ret2
      exact ⟨ret_si HA.out rfl, hs4.2.2.2.2.2.2.2⟩)
end Go.Proofs.YtibhlmbcohpmlaaGreatDoor
