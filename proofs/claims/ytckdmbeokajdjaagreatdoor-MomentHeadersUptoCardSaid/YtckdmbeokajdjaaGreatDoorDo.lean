/- moment: printable, PrintDay, PrintInternal. -/
import Derived.Test.YtckdmbeokajdjaaGreatDoorDn
namespace Go.Proofs.YtckdmbeokajdjaaGreatDoor
open Go.RowKit

def prE (y m d h n s z : Int) : Int := if isDayB y m d then (if validB y m d h n s z then 0 else 20) else 21
set_option maxHeartbeats 1000000 in
theorem printable_any (y m d h n s z : Int) (w : World) (he : Env w) :
    Calls Tryz.prog 16 #[mom y m d h n s z] w fun e w' => e = .returned (.int .i64 (prE y m d h n s z)) ∧ Below w.heap.size w w' := by
  have hD := Lib.hid (fun W hW => isDay_any y m d h n s z W hW)
  have hV := Lib.hid (fun W hW => momValid_any y m d h n s z W hW)
  have q0 : ∀ cs t, Below w.heap.size w (w.alloc (.cells cs t)) := fun cs t => (Below.refl _ _).alloc (Nat.le_refl _) _
  have HE := Lib.hid (fun cs t => he.on (q0 cs t))
  clear he
  unfold mom at hD hV ⊢
  have HP : Hid (prE y m d h n s z = if isDayB y m d then (if validB y m d h n s z then 0 else 20) else 21) := Lib.hid rfl
  generalize isDayB y m d = f at *
  generalize validB y m d h n s z = g at *
  go_enter Tryz.func16, Tryz.ntmps16
  go_wp2_with fail
  refine (hD.out _ (HE.out _ _)).mono ?_
  rintro e w1 ⟨rfl, hb1⟩
  have he1 := Lib.hid ((HE.out _ _).on hb1)
  obtain ⟨x0, x1, x2, x3, x4, x5, x6⟩ := boxed7 hb1
  have HB := Lib.hid ((q0 _ _).trans (hb1.mono (q0 _ _).size))
  clear hb1 HE
  cases f
  · go_wp2
    go_ret
    exact ⟨ret_int HP.out.symm, HB.out⟩
  · cases g
    all_goals (
      go_wp2_with (go_at_call 9; refine (hV.out _ he1.out).mono ?_; rintro e w2 ⟨rfl, hb2⟩)
      go_ret
      exact ⟨ret_int HP.out.symm, HB.out.trans (hb2.mono HB.out.size)⟩)

theorem ret_si {a b : ByteArray} {c d : Int} (h1 : a = b) (h2 : c = d) : Ending.returned (.tuple #[.string a, .int .i64 c]) = .returned (.tuple #[.string b, .int .i64 d]) := by rw [h1, h2]
/-- PrintDay: the text, and why not. -/
def pdL (y m d : Int) : List UInt8 := if isDayB y m d then dayL y.toNat m.toNat d.toNat else []
def pdE (y m d : Int) : Int := if isDayB y m d then 0 else 21
theorem isDay_parts {y m d : Int} (hv : isDayB y m d = true) : ∃ Y M D : Nat, y = Y ∧ m = M ∧ d = D ∧ IsDay Y M D := by
  unfold isDayB at hv
  rw [decide_eq_true_iff] at hv
  obtain ⟨a1, a2, a3, a4, a5, a6⟩ := hv
  obtain ⟨Y, rfl⟩ := Int.eq_ofNat_of_zero_le (show 0 ≤ y by omega)
  obtain ⟨M, rfl⟩ := Int.eq_ofNat_of_zero_le (show 0 ≤ m by omega)
  obtain ⟨D, rfl⟩ := Int.eq_ofNat_of_zero_le (show 0 ≤ d by omega)
  exact ⟨Y, M, D, rfl, rfl, rfl, ⟨by omega, by omega, by omega, by omega, by omega, by simpa using a6⟩⟩
theorem dayText_val (y m d h n s z : Int) (w : World) (he : Env w) (hv : isDayB y m d = true) :
    Calls Tryz.prog 17 #[mom y m d h n s z] w fun e w' => e = .returned (.string (S (dayL y.toNat m.toNat d.toNat))) ∧ Below w.heap.size w w' := by
  obtain ⟨Y, M, D, rfl, rfl, rfl, hd⟩ := isDay_parts hv
  have := mlen_bounds Y M
  exact dayText_any h n s z Y M D w he (by have := hd.y2; omega) hd.m1 hd.m2 (by have := hd.d2; omega)
/-- PrintInternal. -/
def piT (y m d h n s z : Int) : List UInt8 := (if d < 10 then [32] else []) ++ dayL y.toNat m.toNat d.toNat ++ [32] ++ clockL h.toNat n.toNat s.toNat ++ [32] ++ zoneL z
def piL (y m d h n s z : Int) : List UInt8 := if validB y m d h n s z then piT y m d h n s z else []
theorem prE_ok {y m d h n s z : Int} (hv : validB y m d h n s z = true) : prE y m d h n s z = 0 := by
  unfold prE; rw [valid_day hv, hv]; rfl
theorem prE_no {y m d h n s z : Int} (hv : validB y m d h n s z = false) : prE y m d h n s z ≠ 0 := by
  unfold prE; rw [hv]; split <;> decide
theorem clockText_val (y m d h n s z : Int) (w : World) (he : Env w) (hv : validB y m d h n s z = true) :
    Calls Tryz.prog 18 #[mom y m d h n s z] w fun e w' => e = .returned (.string (S (clockL h.toNat n.toNat s.toNat))) ∧ Below w.heap.size w w' := by
  obtain ⟨t1, t2, t3, t4, t5, t6, _, _⟩ := valid_time y m d h n s z hv
  obtain ⟨H, rfl⟩ := Int.eq_ofNat_of_zero_le t1
  obtain ⟨N, rfl⟩ := Int.eq_ofNat_of_zero_le t3
  obtain ⟨E, rfl⟩ := Int.eq_ofNat_of_zero_le t5
  exact clockText_any y m d z H N E w he (by omega) (by omega) (by omega)
theorem dayL_len (y m d : Int) (hv : isDayB y m d = true) : (dayL y.toNat m.toNat d.toNat).length = if d < 10 then 10 else 11 := by
  obtain ⟨Y, M, D, rfl, rfl, rfl, hd⟩ := isDay_parts hv
  have h1 := mlen_bounds Y M
  have h2 := hd.d2
  have h3 := monN_len (M - 1) (by have := hd.m2; have := hd.m1; omega)
  unfold dayL
  simp only [Int.toNat_natCast, List.length_append, h3]
  rcases Nat.lt_or_ge D 10 with k | k
  · rw [dec1 D k, if_pos (by omega)]; rfl
  · rw [dec2 D k (by omega), if_neg (by omega)]; rfl
structure PrintF (w : World) (b : Nat) (y m d h n s z : Int) (a1 a2 : ByteArray) : Prop where
  p1 : ∀ X, S1 w b y m d h n s z X → Calls Tryz.prog 18 #[mom y m d h n s z] X fun e w' => e = .returned (.string a1) ∧ S1 w b y m d h n s z w'
  p2 : ∀ X, S1 w b y m d h n s z X → Calls Tryz.prog 19 #[.int .i64 z] X fun e w' => e = .returned (.string a2) ∧ S1 w b y m d h n s z w'
set_option maxRecDepth 100000 in
set_option maxHeartbeats 4000000 in
theorem momPrintInternal_any (y m d h n s z : Int) (w : World) (he : Env w) :
    Calls Tryz.prog 6 #[mom y m d h n s z] w fun e w' => e = .returned (.tuple #[.string (S (piL y m d h n s z)), .int .i64 (prE y m d h n s z)]) ∧ Below w.heap.size w w' := by
  have hP := Lib.hid (fun W hW => printable_any y m d h n s z W hW)
  have q0 : ∀ cs t, Below w.heap.size w (w.alloc (.cells cs t)) := fun cs t => (Below.refl _ _).alloc (Nat.le_refl _) _
  have HE := Lib.hid (fun cs t => he.on (q0 cs t))
  clear he
  cases hv : validB y m d h n s z with
  | false =>
    have H1 : Hid (S (piL y m d h n s z) = ⟨#[]⟩) := Lib.hid (by unfold piL; rw [hv]; rfl)
    have hne : (prE y m d h n s z != 0) = true := by rw [bne_iff_ne]; exact prE_no hv
    unfold mom at hP ⊢
    generalize prE y m d h n s z = er at *
    clear hv
    go_enter Tryz.func6, Tryz.ntmps6
    go_wp2_with (go_at_call 16; refine (hP.out _ (HE.out _ _)).mono ?_; rintro e w1 ⟨rfl, hb1⟩)
    go_ret2
    exact ⟨ret_si H1.out.symm rfl, (q0 _ _).trans (hb1.mono (q0 _ _).size)⟩
  | true =>
    have hT := Lib.hid (fun W hW => dayText_val y m d h n s z W hW (valid_day hv))
    obtain ⟨_, _, _, _, _, _, t7, t8⟩ := valid_time y m d h n s z hv
    have hF : PrintF w w.heap.size y m d h n s z (S (clockL h.toNat n.toNat s.toNat)) (S (zoneL z)) :=
      ⟨fun X hX => (clockText_val y m d h n s z X hX.env.1 hv).mono fun e w' ⟨k1, k2⟩ => ⟨k1, hX.on k2⟩,
       fun X hX => (zoneText_any z X hX.env.1 t7 t8).mono fun e w' ⟨k1, k2⟩ => ⟨k1, hX.on k2⟩⟩
    have hl := dayL_len y m d (valid_day hv)
    rw [prE_ok hv] at hP ⊢
    have H1 : Hid (S (piL y m d h n s z) = S (if d < 10 then [32] else []) ++ S (dayL y.toNat m.toNat d.toNat) ++ (⟨#[32]⟩ : ByteArray) ++ S (clockL h.toNat n.toNat s.toNat) ++ (⟨#[32]⟩ : ByteArray) ++ S (zoneL z)) := Lib.hid (by
      unfold piL; rw [hv, if_pos rfl, show (⟨#[32]⟩ : ByteArray) = S [32] from rfl, S_app, S_app, S_app, S_app, S_app]; rfl)
    have z1 : (S (clockL h.toNat n.toNat s.toNat)).size = 8 := rfl
    have z2 : (S (zoneL z)).size = 5 := rfl
    have z3 : (S (dayL y.toNat m.toNat d.toNat)).size = if d < 10 then 10 else 11 := hl
    generalize S (piL y m d h n s z) = res at *
    generalize S (clockL h.toNat n.toNat s.toNat) = a1 at *
    generalize S (zoneL z) = a2 at *
    generalize S (dayL y.toNat m.toNat d.toNat) = a3 at *
    clear hv hl t7 t8
    by_cases h10 : d < 10
    · rw [if_pos h10] at z3 H1
      have H2 : Hid (res = (⟨#[32]⟩ : ByteArray) ++ a3 ++ (⟨#[32]⟩ : ByteArray) ++ a1 ++ (⟨#[32]⟩ : ByteArray) ++ a2) := Lib.hid H1.out
      clear H1 h10
      unfold mom at hP hT ⊢
      go_enter Tryz.func6, Tryz.ntmps6
      go_wp2_with fail
      refine (hP.out _ (HE.out _ _)).mono ?_
      rintro e w1 ⟨rfl, hb1⟩
      have he1 := Lib.hid ((HE.out _ _).on hb1)
      obtain ⟨x0, x1, x2, x3, x4, x5, x6⟩ := boxed7 hb1
      have st1 : S1 w w.heap.size y m d h n s z w1 := S1.mk' ⟨x0, x1, x2, x3, x4, x5, x6⟩ he1.out ((q0 _ _).trans (hb1.mono (q0 _ _).size))
      clear hb1 HE
      go_wp2_with fail
      refine (hT.out _ he1.out).mono ?_
      rintro e w2 ⟨rfl, hb2⟩
      have st2 := st1.on hb2
      have st3 := st2.on (Below.refl _ _).drew
      clear st1 hb2 he1 x0 x1 x2 x3 x4 x5 x6
      go_wp2
      first | (go_region_held3 (fun X => X.cell? ⟨w.heap.size, 0, none⟩ = some (.int .i64 y) ∧ X.cell? ⟨w.heap.size, 1, none⟩ = some (.int .i64 m) ∧ X.cell? ⟨w.heap.size, 2, none⟩ = some (.int .i64 d) ∧ X.cell? ⟨w.heap.size, 3, none⟩ = some (.int .i64 h) ∧ X.cell? ⟨w.heap.size, 4, none⟩ = some (.int .i64 n) ∧ X.cell? ⟨w.heap.size, 5, none⟩ = some (.int .i64 s) ∧ X.cell? ⟨w.heap.size, 6, none⟩ = some (.int .i64 z) ∧ Env X ∧ Below w.heap.size w X) (first | exact st3 | assumption) (first | (go_at_call 18; refine (hF.p1 _ ?_).mono ?_; assumption; rintro e w5 ⟨rfl, hs5⟩) | (go_at_call 19; refine (hF.p2 _ ?_).mono ?_; assumption; rintro e w6 ⟨rfl, hs6⟩))) | fail
      go_wp2
      go_ret2
      exact ⟨ret_si H2.out.symm rfl, hs6.env.2⟩
    · rw [if_neg h10] at z3 H1
      have H2 : Hid (res = a3 ++ (⟨#[32]⟩ : ByteArray) ++ a1 ++ (⟨#[32]⟩ : ByteArray) ++ a2) := Lib.hid (by
        have := H1.out
        rwa [show S [] ++ a3 = a3 by rw [← S_L a3, S_app]; rfl] at this)
      clear H1 h10
      unfold mom at hP hT ⊢
      go_enter Tryz.func6, Tryz.ntmps6
      go_wp2_with fail
      refine (hP.out _ (HE.out _ _)).mono ?_
      rintro e w1 ⟨rfl, hb1⟩
      have he1 := Lib.hid ((HE.out _ _).on hb1)
      obtain ⟨x0, x1, x2, x3, x4, x5, x6⟩ := boxed7 hb1
      have st1 : S1 w w.heap.size y m d h n s z w1 := S1.mk' ⟨x0, x1, x2, x3, x4, x5, x6⟩ he1.out ((q0 _ _).trans (hb1.mono (q0 _ _).size))
      clear hb1 HE
      go_wp2_with fail
      refine (hT.out _ he1.out).mono ?_
      rintro e w2 ⟨rfl, hb2⟩
      have st2 := st1.on hb2
      have st3 := st2.on (Below.refl _ _).drew
      clear st1 hb2 he1 x0 x1 x2 x3 x4 x5 x6
      go_wp2
      first | (go_region_held3 (fun X => X.cell? ⟨w.heap.size, 0, none⟩ = some (.int .i64 y) ∧ X.cell? ⟨w.heap.size, 1, none⟩ = some (.int .i64 m) ∧ X.cell? ⟨w.heap.size, 2, none⟩ = some (.int .i64 d) ∧ X.cell? ⟨w.heap.size, 3, none⟩ = some (.int .i64 h) ∧ X.cell? ⟨w.heap.size, 4, none⟩ = some (.int .i64 n) ∧ X.cell? ⟨w.heap.size, 5, none⟩ = some (.int .i64 s) ∧ X.cell? ⟨w.heap.size, 6, none⟩ = some (.int .i64 z) ∧ Env X ∧ Below w.heap.size w X) (first | exact st3 | assumption) (first | (go_at_call 18; refine (hF.p1 _ ?_).mono ?_; assumption; rintro e w5 ⟨rfl, hs5⟩) | (go_at_call 19; refine (hF.p2 _ ?_).mono ?_; assumption; rintro e w6 ⟨rfl, hs6⟩))) | fail
      go_wp2
      go_ret2
      exact ⟨ret_si H2.out.symm rfl, hs6.env.2⟩
end Go.Proofs.YtckdmbeokajdjaaGreatDoor
