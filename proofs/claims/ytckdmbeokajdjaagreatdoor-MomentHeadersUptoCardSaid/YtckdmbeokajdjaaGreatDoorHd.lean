/- moment: PrintHeader. -/
import Derived.Test.YtckdmbeokajdjaaGreatDoorHa
import Derived.Deep.RegionHeld3
namespace Go.Proofs.YtckdmbeokajdjaaGreatDoor
open Go.RowKit

abbrev SH (w : World) (k kw : Nat) (y m d h n s z : Int) (nm wn : ByteArray) (X : World) : Prop :=
  X.cell? ⟨w.heap.size, 0, none⟩ = some (.int .i64 y) ∧ X.cell? ⟨w.heap.size, 1, none⟩ = some (.int .i64 m) ∧ X.cell? ⟨w.heap.size, 2, none⟩ = some (.int .i64 d) ∧ X.cell? ⟨w.heap.size, 3, none⟩ = some (.int .i64 h) ∧ X.cell? ⟨w.heap.size, 4, none⟩ = some (.int .i64 n) ∧ X.cell? ⟨w.heap.size, 5, none⟩ = some (.int .i64 s) ∧ X.cell? ⟨w.heap.size, 6, none⟩ = some (.int .i64 z) ∧ X.cell? ⟨0, k, none⟩ = some (.string nm) ∧ X.cell? ⟨1, kw, none⟩ = some (.string wn) ∧ Env X ∧ Below w.heap.size w X
theorem SH.on {w : World} {k kw : Nat} {y m d h n s z : Int} {nm wn : ByteArray} {X Y : World} (q : SH w k kw y m d h n s z nm wn X) (hb : Below X.heap.size X Y) : SH w k kw y m d h n s z nm wn Y := by
  obtain ⟨a0, a1, a2, a3, a4, a5, a6, b0, b1, he, hq⟩ := q
  obtain ⟨c0, c1, c2, c3, c4, c5, c6⟩ := (Cells7.mk a0 a1 a2 a3 a4 a5 a6).on hb
  refine ⟨c0, c1, c2, c3, c4, c5, c6, ?_, ?_, he.on hb, hq.trans (hb.mono hq.size)⟩
  · rw [hb.cell (p := ⟨0, k, none⟩) (block_lt_of_cell b0)]; exact b0
  · rw [hb.cell (p := ⟨1, kw, none⟩) (block_lt_of_cell b1)]; exact b1
structure HeadF (w : World) (k kw Y M D H N E : Nat) (z : Int) (nm wn a1 a3 a4 a5 : ByteArray) : Prop where
  p1 : ∀ X, SH w k kw Y M D H N E z nm wn X → Calls Tryz.prog 38 #[.int .i64 D] X fun e w' => e = .returned (.string a1) ∧ SH w k kw Y M D H N E z nm wn w'
  p3 : ∀ X, SH w k kw Y M D H N E z nm wn X → Calls Tryz.prog 39 #[.int .i64 Y, .int .i64 4] X fun e w' => e = .returned (.string a3) ∧ SH w k kw Y M D H N E z nm wn w'
  p4 : ∀ X, SH w k kw Y M D H N E z nm wn X → Calls Tryz.prog 18 #[.agg #[.int .i64 Y, .int .i64 M, .int .i64 D, .int .i64 H, .int .i64 N, .int .i64 E, .int .i64 z]] X fun e w' => e = .returned (.string a4) ∧ SH w k kw Y M D H N E z nm wn w'
  p5 : ∀ X, SH w k kw Y M D H N E z nm wn X → Calls Tryz.prog 19 #[.int .i64 z] X fun e w' => e = .returned (.string a5) ∧ SH w k kw Y M D H N E z nm wn w'
  p6 : ∀ X, SH w k kw Y M D H N E z nm wn X → Calls Tryz.prog 10 #[.agg #[.int .i64 Y, .int .i64 M, .int .i64 D, .int .i64 H, .int .i64 N, .int .i64 E, .int .i64 z]] X fun e w' => e = .returned (.int .i64 kw) ∧ SH w k kw Y M D H N E z nm wn w'
/-- The weekday of a moment that may be, as a place in the table. -/
def wkN (y m d h n s z : Int) : Nat := (wdayV y m d h n s z).toNat
theorem wkN_ok (y m d h n s z : Int) : wkN y m d h n s z < 7 ∧ ((wkN y m d h n s z : Nat) : Int) = wdayV y m d h n s z := by
  have : 0 ≤ wdayV y m d h n s z ∧ wdayV y m d h n s z < 7 := by
    unfold wdayV wdayI
    split <;> omega
  unfold wkN
  omega
def phL (y m d h n s z : Int) : List UInt8 := if validB y m d h n s z then phT (wkN y m d h n s z) y.toNat m.toNat d.toNat h.toNat n.toNat s.toNat z else []
set_option maxRecDepth 100000 in
set_option maxHeartbeats 4000000 in
theorem momPrintHeader_any (y m d h n s z : Int) (w : World) (he : Env w) :
    Calls Tryz.prog 13 #[mom y m d h n s z] w fun e w' => e = .returned (.tuple #[.string (S (phL y m d h n s z)), .int .i64 (prE y m d h n s z)]) ∧ Below w.heap.size w w' := by
  have hP := Lib.hid (fun W hW => printable_any y m d h n s z W hW)
  have q0 : ∀ cs t, Below w.heap.size w (w.alloc (.cells cs t)) := fun cs t => (Below.refl _ _).alloc (Nat.le_refl _) _
  have HE := Lib.hid (fun cs t => he.on (q0 cs t))
  cases hv : validB y m d h n s z with
  | false =>
    have H1 : Hid (S (phL y m d h n s z) = ⟨#[]⟩) := Lib.hid (by unfold phL; rw [hv]; rfl)
    have hne : (prE y m d h n s z != 0) = true := by rw [bne_iff_ne]; exact prE_no hv
    unfold mom at hP ⊢
    generalize prE y m d h n s z = er at *
    clear hv he
    go_enter Tryz.func13, Tryz.ntmps13
    go_wp2_with (go_at_call 16; refine (hP.out _ (HE.out _ _)).mono ?_; rintro e w1 ⟨rfl, hb1⟩)
    go_ret2
    exact ⟨ret_si H1.out.symm rfl, (q0 _ _).trans (hb1.mono (q0 _ _).size)⟩
  | true =>
    rw [prE_ok hv] at hP ⊢
    have hf := valid_day hv
    have hpl : phL y m d h n s z = phT (wkN y m d h n s z) y.toNat m.toNat d.toNat h.toNat n.toNat s.toNat z := by unfold phL; rw [hv]; rfl
    obtain ⟨wk1, wk2⟩ := wkN_ok y m d h n s z
    obtain ⟨t1, t2, t3, t4, t5, t6, t7, t8⟩ := valid_time y m d h n s z hv
    rw [hpl]
    have hW := fun X hX => momWeekday_any y m d h n s z X hX
    rw [← wk2] at hW
    have hCl := fun X hX => clockText_val y m d h n s z X hX hv
    generalize wkN y m d h n s z = kw at *
    obtain ⟨Y, M, D, rfl, rfl, rfl, hd⟩ := isDay_parts hf
    obtain ⟨H, rfl⟩ := Int.eq_ofNat_of_zero_le t1
    obtain ⟨N, rfl⟩ := Int.eq_ofNat_of_zero_le t3
    obtain ⟨E, rfl⟩ := Int.eq_ofNat_of_zero_le t5
    simp only [Int.toNat_natCast] at hCl ⊢
    have hml := mlen_bounds Y M
    have hY : Y < 10000 := by have := hd.y2; omega
    have hM1 := hd.m1
    have hM2 := hd.m2
    have hDd : D < 100 := by have := hd.d2; omega
    obtain ⟨k, hk⟩ : ∃ k, k = M - 1 := ⟨_, rfl⟩
    have hF : HeadF w k kw Y M D H N E z (S (monN k)) (S (wdN kw)) (S (Lib.decDigits D)) (S (pad4 Y)) (S (clockL H N E)) (S (zoneL z)) :=
      ⟨fun X hX => (Itoa_any D X hX.2.2.2.2.2.2.2.2.2.1 (by omega)).mono fun e w' ⟨k1, k2⟩ => ⟨k1, SH.on hX k2⟩,
       fun X hX => (padded4 Y X hX.2.2.2.2.2.2.2.2.2.1 hY).mono fun e w' ⟨k1, k2⟩ => ⟨k1, SH.on hX k2⟩,
       fun X hX => (hCl X hX.2.2.2.2.2.2.2.2.2.1).mono fun e w' ⟨k1, k2⟩ => ⟨k1, SH.on hX k2⟩,
       fun X hX => (zoneText_any z X hX.2.2.2.2.2.2.2.2.2.1 t7 t8).mono fun e w' ⟨k1, k2⟩ => ⟨k1, SH.on hX k2⟩,
       fun X hX => (hW X hX.2.2.2.2.2.2.2.2.2.1).mono fun e w' ⟨k1, k2⟩ => ⟨k1, SH.on hX k2⟩⟩
    have HA : Hid (S (wdN kw) ++ (⟨#[44, 32]⟩ : ByteArray) ++ (S (Lib.decDigits D) ++ (⟨#[32]⟩ : ByteArray) ++ S (monN k) ++ (⟨#[32]⟩ : ByteArray) ++ S (pad4 Y)) ++ (⟨#[32]⟩ : ByteArray) ++ S (clockL H N E) ++ (⟨#[32]⟩ : ByteArray) ++ S (zoneL z) = S (phT kw Y M D H N E z)) := Lib.hid (by
      rw [show (⟨#[32]⟩ : ByteArray) = S [32] from rfl, show (⟨#[44, 32]⟩ : ByteArray) = S [44, 32] from rfl, hk]
      simp only [S_app]
      rfl)
    obtain ⟨j, z1, hj⟩ : ∃ j, (S (Lib.decDigits D)).size = j ∧ (j = 1 ∨ j = 2) := ⟨_, rfl, dec_len D hDd⟩
    have z2 : (S (monN k)).size = 3 := monN_len k (by omega)
    have z3 : (S (pad4 Y)).size = 4 := rfl
    have z4 : (S (clockL H N E)).size = 8 := rfl
    have z5 : (S (zoneL z)).size = 5 := rfl
    have z6 : (S (wdN kw)).size = 3 := by obtain ⟨a, b, c, hw, _⟩ := wd_three kw wk1; rw [hw]; rfl
    have st0 : SH w k kw Y M D H N E z (S (monN k)) (S (wdN kw)) (w.alloc (.cells #[.int .i64 Y, .int .i64 M, .int .i64 D, .int .i64 H, .int .i64 N, .int .i64 E, .int .i64 z] 23)) := by
      obtain ⟨c0, c1, c2, c3, c4, c5, c6⟩ := cells7_new w Y M D H N E z 23
      have e := he.on (q0 #[.int .i64 Y, .int .i64 M, .int .i64 D, .int .i64 H, .int .i64 N, .int .i64 E, .int .i64 z] 23)
      exact ⟨c0, c1, c2, c3, c4, c5, c6, e.monC k (by omega), e.wdC kw wk1, e, q0 _ _⟩
    have ST0 := Lib.hid st0
    have hw2 : (M : Int) - 1 = (k : Int) := by omega
    have hwk : IntKind.i64.wrap (k : Int) = (k : Int) := by simp [IntKind.wrap, IntKind.bits, IntKind.signed]; omega
    have hk0 : (0 : Int) ≤ (k : Int) := by omega
    have hk12 : (k : Int) < 12 := by omega
    have hq0 : (0 : Int) ≤ (kw : Int) := by omega
    have hq7 : (kw : Int) < 7 := by omega
    generalize S (Lib.decDigits D) = a1 at *
    generalize S (monN k) = nm at *
    generalize S (wdN kw) = wn at *
    generalize S (pad4 Y) = a3 at *
    generalize S (clockL H N E) = a4 at *
    generalize S (zoneL z) = a5 at *
    generalize S (phT kw Y M D H N E z) = res at *
    clear he hv hf hpl hd hml hY hM1 hM2 hDd hk t1 t2 t3 t4 t5 t6 t7 t8 wk1 wk2 hW hCl st0
    unfold mom at hP ⊢
    rcases hj with rfl | rfl
    all_goals (
      go_enter Tryz.func13, Tryz.ntmps13
      go_wp2_with fail
      refine (hP.out _ (HE.out _ _)).mono ?_
      rintro e w1 ⟨rfl, hb1⟩
      have st1 : Hid (SH w k kw Y M D H N E z nm wn w1.drew) := Lib.hid (SH.on (SH.on ST0.out hb1) (Below.refl _ _).drew)
      clear hb1 HE hP ST0
      go_wp2
      first | (go_region_held3 (fun X => X.cell? ⟨w.heap.size, 0, none⟩ = some (.int .i64 (Y : Int)) ∧ X.cell? ⟨w.heap.size, 1, none⟩ = some (.int .i64 (M : Int)) ∧ X.cell? ⟨w.heap.size, 2, none⟩ = some (.int .i64 (D : Int)) ∧ X.cell? ⟨w.heap.size, 3, none⟩ = some (.int .i64 (H : Int)) ∧ X.cell? ⟨w.heap.size, 4, none⟩ = some (.int .i64 (N : Int)) ∧ X.cell? ⟨w.heap.size, 5, none⟩ = some (.int .i64 (E : Int)) ∧ X.cell? ⟨w.heap.size, 6, none⟩ = some (.int .i64 z) ∧ X.cell? ⟨0, k, none⟩ = some (.string nm) ∧ X.cell? ⟨1, kw, none⟩ = some (.string wn) ∧ Env X ∧ Below w.heap.size w X) (first | with_reducible exact st1.out | with_reducible assumption) (first | (go_at_call 38; with_reducible refine (hF.p1 _ ?_).mono ?_; with_reducible assumption; rintro e w2 ⟨rfl, hs2⟩) | (go_at_call 39; with_reducible refine (hF.p3 _ ?_).mono ?_; with_reducible assumption; rintro e w3 ⟨rfl, hs3⟩))) | fail
      have st3 : Hid (SH w k kw Y M D H N E z nm wn w3.drew) := Lib.hid (SH.on hs3 (Below.refl _ _).drew)
      first | (have z7 : (a1 ++ (⟨#[32]⟩ : ByteArray) ++ nm ++ (⟨#[32]⟩ : ByteArray) ++ a3).size = 10 := (by rw [ByteArray.size_append, ByteArray.size_append, ByteArray.size_append, ByteArray.size_append, z1, z2, z3]; rfl)) | (have z7 : (a1 ++ (⟨#[32]⟩ : ByteArray) ++ nm ++ (⟨#[32]⟩ : ByteArray) ++ a3).size = 11 := (by rw [ByteArray.size_append, ByteArray.size_append, ByteArray.size_append, ByteArray.size_append, z1, z2, z3]; rfl))
      go_wp2
      generalize a1 ++ (⟨#[32]⟩ : ByteArray) ++ nm ++ (⟨#[32]⟩ : ByteArray) ++ a3 = dy at *
      first | (go_region_held3 (fun X => X.cell? ⟨w.heap.size, 0, none⟩ = some (.int .i64 (Y : Int)) ∧ X.cell? ⟨w.heap.size, 1, none⟩ = some (.int .i64 (M : Int)) ∧ X.cell? ⟨w.heap.size, 2, none⟩ = some (.int .i64 (D : Int)) ∧ X.cell? ⟨w.heap.size, 3, none⟩ = some (.int .i64 (H : Int)) ∧ X.cell? ⟨w.heap.size, 4, none⟩ = some (.int .i64 (N : Int)) ∧ X.cell? ⟨w.heap.size, 5, none⟩ = some (.int .i64 (E : Int)) ∧ X.cell? ⟨w.heap.size, 6, none⟩ = some (.int .i64 z) ∧ X.cell? ⟨0, k, none⟩ = some (.string nm) ∧ X.cell? ⟨1, kw, none⟩ = some (.string wn) ∧ Env X ∧ Below w.heap.size w X) (first | with_reducible exact st3.out | with_reducible assumption) (first | (go_at_call 10; with_reducible refine (hF.p6 _ ?_).mono ?_; with_reducible assumption; rintro e w4 ⟨rfl, hs4⟩) | (go_at_call 18; with_reducible refine (hF.p4 _ ?_).mono ?_; with_reducible assumption; rintro e w5 ⟨rfl, hs5⟩) | (go_at_call 19; with_reducible refine (hF.p5 _ ?_).mono ?_; with_reducible assumption; rintro e w6 ⟨rfl, hs6⟩))) | fail
      go_wp2
      go_ret2
      exact ⟨ret_si HA.out rfl, hs6.2.2.2.2.2.2.2.2.2.2⟩)
end Go.Proofs.YtckdmbeokajdjaaGreatDoor
