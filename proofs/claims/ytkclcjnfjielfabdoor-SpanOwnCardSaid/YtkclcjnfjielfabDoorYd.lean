/- The reference: an end, the star, a piece, Has. -/
import Derived.Test.YtkclcjnfjielfabDoorVu
namespace Go.Proofs.YtkclcjnfjielfabDoor
open Go.RowKit

set_option maxHeartbeats 400000 in
theorem refSound_any (x : Int) (w : World) :
    Calls Tryd.prog 39 #[.int .i64 x] w fun e w' => e = .returned (.bool (endB x)) ∧ w' = w := by
  by_cases h : 0 ≤ x
  · go_enter Tryd.func39, Tryd.ntmps39
    go_wp2
    go_ret
    exact ⟨ret_bool (by simp [endB, h]), rfl⟩
  · go_enter Tryd.func39, Tryd.ntmps39
    go_wp2
    go_ret
    exact ⟨ret_bool (by simp [endB]; omega), rfl⟩
set_option maxHeartbeats 400000 in
theorem refStar_any (x g : Int) (w : World) :
    Calls Tryd.prog 66 #[.int .i64 x, .int .i64 g] w fun e w' => e = .returned (.int .i64 (starI x g)) ∧ w' = w := by
  unfold starI
  by_cases h : x = 0
  · subst h
    go_enter Tryd.func66, Tryd.ntmps66
    go_wp2
    go_ret
    exact ⟨rfl, rfl⟩
  · have h' : (x == 0) = false := by simpa using h
    rw [if_neg h]
    clear h
    go_enter Tryd.func66, Tryd.ntmps66
    go_wp2
    go_ret
    exact ⟨rfl, rfl⟩
theorem hit_in (a b n g : Int) : hitB a b n g = (endB a && endB b && (decide (starI a g ≤ n) && decide (n ≤ starI b g) || decide (starI b g ≤ n) && decide (n ≤ starI a g))) := by
  unfold hitB pieceB inB setl
  generalize starI a g = x
  generalize starI b g = y
  generalize endB a = p
  generalize endB b = q
  have : (decide (min x y ≤ n) && decide (n ≤ max x y)) = (decide (x ≤ n) && decide (n ≤ y) || decide (y ≤ n) && decide (n ≤ x)) := by
    rw [Bool.eq_iff_iff]
    simp
    omega
  rw [← this]
set_option maxRecDepth 100000 in
set_option maxHeartbeats 2000000 in
theorem refIn_any (a b n g : Int) (w : World) :
    Calls Tryd.prog 49 #[rgV a b, .int .i64 n, .int .i64 g] w fun e w' => e = .returned (.bool (hitB a b n g)) ∧ Below w.heap.size w w' := by
  have HP : Hid (hitB a b n g = (endB a && endB b && (decide (starI a g ≤ n) && decide (n ≤ starI b g) || decide (starI b g ≤ n) && decide (n ≤ starI a g)))) := Lib.hid (hit_in a b n g)
  have HSA := Lib.hid (refSound_any a)
  have HSB := Lib.hid (refSound_any b)
  have HTA := Lib.hid (refStar_any a g)
  have HTB := Lib.hid (refStar_any b g)
  generalize hitB a b n g = r at *
  generalize starI a g = x at *
  generalize starI b g = y at *
  generalize endB a = p at *
  generalize endB b = q at *
  cases p with
  | false =>
    have HR : Hid (r = false) := Lib.hid (by rw [HP.out]; rfl)
    clear HP
    go_enter Tryd.func49, Tryd.ntmps49
    go_wp2_with (first | (go_at_call 39; (first | (with_reducible refine (HSA.out _).mono ?_) | (with_reducible refine (HSB.out _).mono ?_)); rintro e w' ⟨rfl, hw'⟩; subst w') | (go_at_call 66; (first | (with_reducible refine (HTA.out _).mono ?_) | (with_reducible refine (HTB.out _).mono ?_)); rintro e w' ⟨rfl, hw'⟩; subst w'))
    go_ret
    exact ⟨ret_bool HR.out.symm, (Below.refl _ _).alloc (Nat.le_refl _) _⟩
  | true =>
    cases q with
    | false =>
      have HR : Hid (r = false) := Lib.hid (by rw [HP.out]; rfl)
      clear HP
      go_enter Tryd.func49, Tryd.ntmps49
      go_wp2_with (first | (go_at_call 39; (first | (with_reducible refine (HSA.out _).mono ?_) | (with_reducible refine (HSB.out _).mono ?_)); rintro e w' ⟨rfl, hw'⟩; subst w') | (go_at_call 66; (first | (with_reducible refine (HTA.out _).mono ?_) | (with_reducible refine (HTB.out _).mono ?_)); rintro e w' ⟨rfl, hw'⟩; subst w'))
      go_ret
      exact ⟨ret_bool HR.out.symm, (Below.refl _ _).alloc (Nat.le_refl _) _⟩
    | true =>
      by_cases h1 : x ≤ n
      · by_cases h2 : n ≤ y
        · have HR : Hid (r = true) := Lib.hid (by rw [HP.out, Bool.eq_iff_iff]; simp; omega)
          clear HP
          go_enter Tryd.func49, Tryd.ntmps49
          go_wp2_with (first | (go_at_call 39; (first | (with_reducible refine (HSA.out _).mono ?_) | (with_reducible refine (HSB.out _).mono ?_)); rintro e w' ⟨rfl, hw'⟩; subst w') | (go_at_call 66; (first | (with_reducible refine (HTA.out _).mono ?_) | (with_reducible refine (HTB.out _).mono ?_)); rintro e w' ⟨rfl, hw'⟩; subst w'))
          go_ret
          exact ⟨ret_bool HR.out.symm, (Below.refl _ _).alloc (Nat.le_refl _) _⟩
        · have h3 : y ≤ n := by omega
          have HR : Hid (r = (decide (n ≤ y) || decide (n ≤ x))) := Lib.hid (by rw [HP.out, Bool.eq_iff_iff]; simp; omega)
          clear HP
          go_enter Tryd.func49, Tryd.ntmps49
          go_wp2_with (first | (go_at_call 39; (first | (with_reducible refine (HSA.out _).mono ?_) | (with_reducible refine (HSB.out _).mono ?_)); rintro e w' ⟨rfl, hw'⟩; subst w') | (go_at_call 66; (first | (with_reducible refine (HTA.out _).mono ?_) | (with_reducible refine (HTB.out _).mono ?_)); rintro e w' ⟨rfl, hw'⟩; subst w'))
          go_ret
          exact ⟨ret_bool HR.out.symm, (Below.refl _ _).alloc (Nat.le_refl _) _⟩
      · by_cases h3 : y ≤ n
        · have h4 : n ≤ x := by omega
          have HR : Hid (r = true) := Lib.hid (by rw [HP.out, Bool.eq_iff_iff]; simp; omega)
          clear HP
          go_enter Tryd.func49, Tryd.ntmps49
          go_wp2_with (first | (go_at_call 39; (first | (with_reducible refine (HSA.out _).mono ?_) | (with_reducible refine (HSB.out _).mono ?_)); rintro e w' ⟨rfl, hw'⟩; subst w') | (go_at_call 66; (first | (with_reducible refine (HTA.out _).mono ?_) | (with_reducible refine (HTB.out _).mono ?_)); rintro e w' ⟨rfl, hw'⟩; subst w'))
          go_ret
          exact ⟨ret_bool HR.out.symm, (Below.refl _ _).alloc (Nat.le_refl _) _⟩
        · have HR : Hid (r = false) := Lib.hid (by rw [HP.out, Bool.eq_iff_iff]; simp; omega)
          clear HP
          go_enter Tryd.func49, Tryd.ntmps49
          go_wp2_with (first | (go_at_call 39; (first | (with_reducible refine (HSA.out _).mono ?_) | (with_reducible refine (HSB.out _).mono ?_)); rintro e w' ⟨rfl, hw'⟩; subst w') | (go_at_call 66; (first | (with_reducible refine (HTA.out _).mono ?_) | (with_reducible refine (HTB.out _).mono ?_)); rintro e w' ⟨rfl, hw'⟩; subst w'))
          go_ret
          exact ⟨ret_bool HR.out.symm, (Below.refl _ _).alloc (Nat.le_refl _) _⟩
end Go.Proofs.YtkclcjnfjielfabDoor
