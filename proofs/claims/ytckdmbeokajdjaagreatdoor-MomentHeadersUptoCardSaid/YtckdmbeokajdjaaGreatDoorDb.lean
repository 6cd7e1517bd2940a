/- moment: isDay, isClock, Valid. -/
import Derived.Test.YtckdmbeokajdjaaGreatDoorDa
import Derived.Deep.RegionHeld3
import Derived.Deep.RegionWith
import Derived.BigQuiet
namespace Go.Proofs.YtckdmbeokajdjaaGreatDoor
open Go.RowKit

theorem isDayB_no {y m d : Int} (h : wi y 1 9999 = false ∨ wi m 1 12 = false) : isDayB y m d = false := by
  unfold isDayB
  rw [decide_eq_false_iff_not]
  rcases h with h | h
  · intro k; rw [wi_true k.1 k.2.1] at h; cases h
  · intro k; rw [wi_true k.2.2.1 k.2.2.2.1] at h; cases h
theorem isDayB_yes {y m d : Int} (h1 : wi y 1 9999 = true) (h2 : wi m 1 12 = true) : isDayB y m d = wi d 1 (mlen y.toNat m.toNat : Nat) := by
  rw [wi_iff] at h1 h2
  rw [Bool.eq_iff_iff, wi_iff]
  unfold isDayB
  rw [decide_eq_true_iff]
  exact ⟨fun k => k.2.2.2.2, fun k => ⟨h1.1, h1.2, h2.1, h2.2, k.1, k.2⟩⟩

set_option maxHeartbeats 400000 in
theorem isDay_any (y m d h n s z : Int) (w : World) (he : Env w) :
    Calls Tryz.prog 30 #[mom y m d h n s z] w fun e w' => e = .returned (.bool (isDayB y m d)) ∧ Below w.heap.size w w' := by
  unfold mom
  have q0 : ∀ cs t, Below w.heap.size w (w.alloc (.cells cs t)) := fun cs t => (Below.refl _ _).alloc (Nat.le_refl _) _
  have hundef : undef = Value.tuple #[] := rfl
  cases h1 : wi y 1 9999 with
  | false =>
    have HR : Hid (isDayB y m d = false) := Lib.hid (isDayB_no (.inl h1))
    have W1 := Lib.hid (fun W => within_val y 1 9999 false W h1)
    go_enter Tryz.func30, Tryz.ntmps30
    go_wp2
    go_quiet ((go_at_call 32; exact Calls.quiet_of_same (W1.out _)))
    go_wp2
    go_ret
    exact ⟨ret_bool HR.out.symm, below_drewN (q0 _ _) _⟩
  | true =>
    cases h2 : wi m 1 12 with
    | false =>
      have HR : Hid (isDayB y m d = false) := Lib.hid (isDayB_no (.inr h2))
      have W1 := Lib.hid (fun W => within_val y 1 9999 true W h1)
      have W2 := Lib.hid (fun W => within_val m 1 12 false W h2)
      go_enter Tryz.func30, Tryz.ntmps30
      go_wp2
      go_quiet ((go_at_call 32; first | with_reducible exact Calls.quiet_of_same (W1.out _) | with_reducible exact Calls.quiet_of_same (W2.out _)))
      go_wp2
      go_ret
      exact ⟨ret_bool HR.out.symm, below_drewN (q0 _ _) _⟩
    | true =>
      have HR : Hid (isDayB y m d = wi d 1 (mlen y.toNat m.toNat : Nat)) := Lib.hid (isDayB_yes h1 h2)
      have W1 := Lib.hid (fun W => within_val y 1 9999 true W h1)
      have W2 := Lib.hid (fun W => within_val m 1 12 true W h2)
      rw [wi_iff] at h1 h2
      have HE := Lib.hid (fun cs t => he.on (q0 cs t))
      have W3 := Lib.hid (fun W hW => monthLength_int y m W hW (by omega) (by omega) h2.1 h2.2)
      have W4 := Lib.hid (fun W => within_any d 1 (mlen y.toNat m.toNat : Nat) W)
      clear he
      generalize mlen y.toNat m.toNat = X at *
      go_enter Tryz.func30, Tryz.ntmps30
      go_wp2
      go_quiet (first | (go_at_call 32; first | with_reducible exact Calls.quiet_of_same (W1.out _) | with_reducible exact Calls.quiet_of_same (W2.out _) | with_reducible exact Calls.quiet_of_same (W4.out _)) | (go_at_call 55; exact Calls.quiet_of_same (W3.out _ ((HE.out _ _).drewN _))))
      go_wp2
      go_ret
      exact ⟨ret_bool HR.out.symm, below_drewN (q0 _ _) _⟩

def clockB (h n s : Int) : Bool := wi h 0 23 && wi n 0 59 && wi s 0 59
set_option maxHeartbeats 400000 in
theorem isClock_any (y m d h n s z : Int) (w : World) :
    Calls Tryz.prog 31 #[mom y m d h n s z] w fun e w' => e = .returned (.bool (clockB h n s)) ∧ Below w.heap.size w w' := by
  unfold mom
  have q0 : ∀ cs t, Below w.heap.size w (w.alloc (.cells cs t)) := fun cs t => (Below.refl _ _).alloc (Nat.le_refl _) _
  cases h1 : wi h 0 23 with
  | false =>
    have HR : Hid (clockB h n s = false) := Lib.hid (by unfold clockB; rw [h1]; rfl)
    have W1 := Lib.hid (fun W => within_val h 0 23 false W h1)
    go_enter Tryz.func31, Tryz.ntmps31
    go_wp2_with (go_at_call 32; refine (W1.out _).mono ?_; rintro e w' ⟨rfl, rfl⟩)
    go_ret
    exact ⟨ret_bool HR.out.symm, q0 _ _⟩
  | true =>
    cases h2 : wi n 0 59 with
    | false =>
      have HR : Hid (clockB h n s = false) := Lib.hid (by unfold clockB; rw [h1, h2]; rfl)
      have W1 := Lib.hid (fun W => within_val h 0 23 true W h1)
      have W2 := Lib.hid (fun W => within_val n 0 59 false W h2)
      go_enter Tryz.func31, Tryz.ntmps31
      go_wp2_with (go_at_call 32; (first | with_reducible refine (W1.out _).mono ?_ | with_reducible refine (W2.out _).mono ?_); rintro e w' ⟨rfl, rfl⟩)
      go_ret
      exact ⟨ret_bool HR.out.symm, q0 _ _⟩
    | true =>
      have HR : Hid (clockB h n s = wi s 0 59) := Lib.hid (by unfold clockB; rw [h1, h2]; rfl)
      have W1 := Lib.hid (fun W => within_val h 0 23 true W h1)
      have W2 := Lib.hid (fun W => within_val n 0 59 true W h2)
      have W3 := Lib.hid (fun W => within_any s 0 59 W)
      go_enter Tryz.func31, Tryz.ntmps31
      go_wp2_with (go_at_call 32; (first | with_reducible refine (W1.out _).mono ?_ | with_reducible refine (W2.out _).mono ?_ | with_reducible refine (W3.out _).mono ?_); rintro e w' ⟨rfl, rfl⟩)
      go_ret
      exact ⟨ret_bool HR.out.symm, q0 _ _⟩
theorem time_clock (h n s z : Int) : timeB h n s z = (clockB h n s && wi z (-1439) 1439) := by
  rw [Bool.eq_iff_iff]
  unfold clockB
  rw [Bool.and_eq_true, Bool.and_eq_true, Bool.and_eq_true, wi_iff, wi_iff, wi_iff, wi_iff]
  unfold timeB
  rw [decide_eq_true_iff]
  omega

set_option maxHeartbeats 1000000 in
theorem momValid_any (y m d h n s z : Int) (w : World) (he : Env w) :
    Calls Tryz.prog 9 #[mom y m d h n s z] w fun e w' => e = .returned (.bool (validB y m d h n s z)) ∧ Below w.heap.size w w' := by
  have hD := Lib.hid (fun W he => isDay_any y m d h n s z W he)
  have hC := Lib.hid (fun W => isClock_any y m d h n s z W)
  have hZ := Lib.hid (fun W => within_any z (-1439) 1439 W)
  have q0 : ∀ cs t, Below w.heap.size w (w.alloc (.cells cs t)) := fun cs t => (Below.refl _ _).alloc (Nat.le_refl _) _
  have HE := Lib.hid (fun cs t => he.on (q0 cs t))
  clear he
  unfold mom at hD hC ⊢
  cases hd : isDayB y m d with
  | false =>
    rw [hd] at hD
    have HR : Hid (validB y m d h n s z = false) := Lib.hid (by unfold validB; rw [hd]; rfl)
    go_enter Tryz.func9, Tryz.ntmps9
    go_wp2_with (go_at_call 30; refine (hD.out _ (HE.out _ _)).mono ?_; rintro e w1 ⟨rfl, hb1⟩)
    go_ret
    exact ⟨ret_bool HR.out.symm, (q0 _ _).trans (hb1.mono (q0 _ _).size)⟩
  | true =>
    rw [hd] at hD
    have HR : Hid (validB y m d h n s z = (clockB h n s && wi z (-1439) 1439)) := Lib.hid (by unfold validB; rw [hd, time_clock]; rfl)
    go_enter Tryz.func9, Tryz.ntmps9
    go_wp2_with fail
    refine (hD.out _ (HE.out _ _)).mono ?_
    rintro e w1 ⟨rfl, hb1⟩
    have x0 := boxed hb1 0
    have x1 := boxed hb1 1
    have x2 := boxed hb1 2
    have x3 := boxed hb1 3
    have x4 := boxed hb1 4
    have x5 := boxed hb1 5
    have x6 := boxed hb1 6
    simp only [List.getElem?_toArray, List.getElem?_cons_succ, List.getElem?_cons_zero] at x0 x1 x2 x3 x4 x5 x6
    have HB := Lib.hid ((q0 _ _).trans (hb1.mono (q0 _ _).size))
    clear hb1 HE
    cases hc : clockB h n s with
    | false =>
      rw [hc] at hC HR
      go_wp2_with (go_at_call 31; refine (hC.out _).mono ?_; rintro e w2 ⟨rfl, hb2⟩)
      go_ret
      exact ⟨ret_bool HR.out.symm, HB.out.trans (hb2.mono HB.out.size)⟩
    | true =>
      rw [hc, Bool.true_and] at HR
      rw [hc] at hC
      go_wp2_with fail
      refine (hC.out _).mono ?_
      rintro e w2 ⟨rfl, hb2⟩
      have y6 : w2.cell? ⟨w.heap.size, 6, none⟩ = some (.int .i64 z) := by rw [hb2.cell (p := ⟨w.heap.size, 6, none⟩) (block_lt_of_cell x6)]; exact x6
      have HB2 := Lib.hid (HB.out.trans (hb2.mono HB.out.size))
      clear hb2 x0 x1 x2 x3 x4 x5 x6
      go_wp2_with (go_at_call 32; refine (hZ.out _).mono ?_; rintro e w3 ⟨rfl, rfl⟩)
      go_ret
      exact ⟨ret_bool HR.out.symm, HB2.out⟩
end Go.Proofs.YtckdmbeokajdjaaGreatDoor
