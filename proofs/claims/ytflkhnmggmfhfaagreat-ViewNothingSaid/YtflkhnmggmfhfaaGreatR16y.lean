/- The reference: an end, the star, a piece, Has. -/
import Derived.Test.YtflkhnmggmfhfaaGreatQ16y
import Derived.Deep.RegionHeld3
namespace Go.Proofs.YtflkhnmggmfhfaaGreat
open Go.RowKit

set_option maxHeartbeats 400000 in
theorem refSound_any (x : Int) (w : World) :
    Calls Tryz.prog 80 #[.int .i64 x] w fun e w' => e = .returned (.bool (endB x)) ∧ w' = w := by
  by_cases h : 0 ≤ x
  · go_enter Tryz.func80, Tryz.ntmps80
    go_wp2
    go_ret
    exact ⟨ret_bool (by simp [endB, h]), rfl⟩
  · go_enter Tryz.func80, Tryz.ntmps80
    go_wp2
    go_ret
    exact ⟨ret_bool (by simp [endB]; omega), rfl⟩
set_option maxHeartbeats 400000 in
theorem refStar_any (x g : Int) (w : World) :
    Calls Tryz.prog 81 #[.int .i64 x, .int .i64 g] w fun e w' => e = .returned (.int .i64 (starI x g)) ∧ w' = w := by
  unfold starI
  by_cases h : x = 0
  · subst h
    go_enter Tryz.func81, Tryz.ntmps81
    go_wp2
    go_ret
    exact ⟨rfl, rfl⟩
  · have h' : (x == 0) = false := by simpa using h
    rw [if_neg h]
    clear h
    go_enter Tryz.func81, Tryz.ntmps81
    go_wp2
    go_ret
    exact ⟨rfl, rfl⟩
theorem hit_in (a b n g : Int) : hitB a b n g = (endB a && endB b && (decide (starI a g ≤ n) && decide (n ≤ starI b g) || decide (starI b g ≤ n) && decide (n ≤ starI a g))) := by
  unfold hitB pieceB inB setl
  generalize starI a g = x
  generalize starI b g = y
  generalize endB a = p
  generalize endB b = q
  have : (decide (min x y ≤ n) && decide (n ≤ max x y)) = (decide (x ≤ n) && decide (n ≤ y) || decide (y ≤ n) && decide (n ≤ x)) := by
    rw [Bool.eq_iff_iff]
    simp
    omega
  rw [← this]
set_option maxRecDepth 100000 in
set_option maxHeartbeats 2000000 in
theorem refIn_any (a b n g : Int) (w : World) :
    Calls Tryz.prog 69 #[rgV a b, .int .i64 n, .int .i64 g] w fun e w' => e = .returned (.bool (hitB a b n g)) ∧ Below w.heap.size w w' := by
  have HP : Hid (hitB a b n g = (endB a && endB b && (decide (starI a g ≤ n) && decide (n ≤ starI b g) || decide (starI b g ≤ n) && decide (n ≤ starI a g)))) := Lib.hid (hit_in a b n g)
  have HSA := Lib.hid (refSound_any a)
  have HSB := Lib.hid (refSound_any b)
  have HTA := Lib.hid (refStar_any a g)
  have HTB := Lib.hid (refStar_any b g)
  generalize hitB a b n g = r at *
  generalize starI a g = x at *
  generalize starI b g = y at *
  generalize endB a = p at *
  generalize endB b = q at *
  cases p with
  | false =>
    have HR : Hid (r = false) := Lib.hid (by rw [HP.out]; rfl)
    clear HP
    go_enter Tryz.func69, Tryz.ntmps69
    go_wp2_with (first | (go_at_call 80; (first | (with_reducible refine (HSA.out _).mono ?_) | (with_reducible refine (HSB.out _).mono ?_)); rintro e w' ⟨rfl, hw'⟩; subst w') | (go_at_call 81; (first | (with_reducible refine (HTA.out _).mono ?_) | (with_reducible refine (HTB.out _).mono ?_)); rintro e w' ⟨rfl, hw'⟩; subst w'))
    go_ret
    exact ⟨ret_bool HR.out.symm, (Below.refl _ _).alloc (Nat.le_refl _) _⟩
  | true =>
    cases q with
    | false =>
      have HR : Hid (r = false) := Lib.hid (by rw [HP.out]; rfl)
      clear HP
      go_enter Tryz.func69, Tryz.ntmps69
      go_wp2_with (first | (go_at_call 80; (first | (with_reducible refine (HSA.out _).mono ?_) | (with_reducible refine (HSB.out _).mono ?_)); rintro e w' ⟨rfl, hw'⟩; subst w') | (go_at_call 81; (first | (with_reducible refine (HTA.out _).mono ?_) | (with_reducible refine (HTB.out _).mono ?_)); rintro e w' ⟨rfl, hw'⟩; subst w'))
      go_ret
      exact ⟨ret_bool HR.out.symm, (Below.refl _ _).alloc (Nat.le_refl _) _⟩
    | true =>
      by_cases h1 : x ≤ n
      · by_cases h2 : n ≤ y
        · have HR : Hid (r = true) := Lib.hid (by rw [HP.out, Bool.eq_iff_iff]; simp; omega)
          clear HP
          go_enter Tryz.func69, Tryz.ntmps69
          go_wp2_with (first | (go_at_call 80; (first | (with_reducible refine (HSA.out _).mono ?_) | (with_reducible refine (HSB.out _).mono ?_)); rintro e w' ⟨rfl, hw'⟩; subst w') | (go_at_call 81; (first | (with_reducible refine (HTA.out _).mono ?_) | (with_reducible refine (HTB.out _).mono ?_)); rintro e w' ⟨rfl, hw'⟩; subst w'))
          go_ret
          exact ⟨ret_bool HR.out.symm, (Below.refl _ _).alloc (Nat.le_refl _) _⟩
        · have h3 : y ≤ n := by omega
          have HR : Hid (r = (decide (n ≤ y) || decide (n ≤ x))) := Lib.hid (by rw [HP.out, Bool.eq_iff_iff]; simp; omega)
          clear HP
          go_enter Tryz.func69, Tryz.ntmps69
          go_wp2_with (first | (go_at_call 80; (first | (with_reducible refine (HSA.out _).mono ?_) | (with_reducible refine (HSB.out _).mono ?_)); rintro e w' ⟨rfl, hw'⟩; subst w') | (go_at_call 81; (first | (with_reducible refine (HTA.out _).mono ?_) | (with_reducible refine (HTB.out _).mono ?_)); rintro e w' ⟨rfl, hw'⟩; subst w'))
          go_ret
          exact ⟨ret_bool HR.out.symm, (Below.refl _ _).alloc (Nat.le_refl _) _⟩
      · by_cases h3 : y ≤ n
        · have h4 : n ≤ x := by omega
          have HR : Hid (r = true) := Lib.hid (by rw [HP.out, Bool.eq_iff_iff]; simp; omega)
          clear HP
          go_enter Tryz.func69, Tryz.ntmps69
          go_wp2_with (first | (go_at_call 80; (first | (with_reducible refine (HSA.out _).mono ?_) | (with_reducible refine (HSB.out _).mono ?_)); rintro e w' ⟨rfl, hw'⟩; subst w') | (go_at_call 81; (first | (with_reducible refine (HTA.out _).mono ?_) | (with_reducible refine (HTB.out _).mono ?_)); rintro e w' ⟨rfl, hw'⟩; subst w'))
          go_ret
          exact ⟨ret_bool HR.out.symm, (Below.refl _ _).alloc (Nat.le_refl _) _⟩
        · have HR : Hid (r = false) := Lib.hid (by rw [HP.out, Bool.eq_iff_iff]; simp; omega)
          clear HP
          go_enter Tryz.func69, Tryz.ntmps69
          go_wp2_with (first | (go_at_call 80; (first | (with_reducible refine (HSA.out _).mono ?_) | (with_reducible refine (HSB.out _).mono ?_)); rintro e w' ⟨rfl, hw'⟩; subst w') | (go_at_call 81; (first | (with_reducible refine (HTA.out _).mono ?_) | (with_reducible refine (HTB.out _).mono ?_)); rintro e w' ⟨rfl, hw'⟩; subst w'))
          go_ret
          exact ⟨ret_bool HR.out.symm, (Below.refl _ _).alloc (Nat.le_refl _) _⟩
theorem cellOn' {w X : World} {B i : Nat} {v : Value} (h : w.cell? ⟨B, i, none⟩ = some v) (hb : Below w.heap.size w X) : X.cell? ⟨B, i, none⟩ = some v := by
  rw [hb.cell (p := ⟨B, i, none⟩) (block_lt_of_cell h)]; exact h
theorem Rgs.size' {w : World} {v : Value} {l : List Rg} (h : Rgs w v l) : l.length ≤ 8796093022208 := by
  rcases h with ⟨rfl, _⟩ | ⟨_, _, _, _, h0, _⟩
  · simp
  · exact h0
theorem hasB_low (l : List Rg) (n g : Int) (hn : n < 1) : hasB l n g = false := by
  unfold hasB
  by_cases hg : 1 ≤ g
  · rw [decide_eq_true hg, Bool.true_and, List.any_eq_false]
    intro p _
    have : (pieceB p && inB (setl p g) n) = false := by
      cases hp : pieceB p with
      | false => rfl
      | true =>
        have h := (pieceB_iff p).1 hp
        rw [Bool.true_and]
        unfold inB setl starI
        rw [Bool.and_eq_false_iff]
        left
        rw [decide_eq_false_iff_not]
        show ¬ min (if p.1 = 0 then g else p.1) (if p.2 = 0 then g else p.2) ≤ n
        split <;> split <;> omega
    rw [this]
    simp
  · rw [decide_eq_false hg, Bool.false_and]
set_option maxRecDepth 100000 in
set_option maxHeartbeats 2000000 in
theorem refHas_any (v : Value) (l : List Rg) (n g : Int) (w : World) (hr : Rgs w v l) :
    Calls Tryz.prog 51 #[v, .int .i64 n, .int .i64 g] w fun e w' => e = .returned (.bool (hasB l n g)) ∧ Below w.heap.size w w' := by
  obtain ⟨ao, cap, hv, hc⟩ := hr.shape
  have hll := hr.size'
  subst hv
  have HC := Lib.hid hc
  clear hc hr
  by_cases hg : 1 ≤ g
  · by_cases hn : 1 ≤ n
    · have hgz : ¬ g < 1 := by omega
      have hnz : ¬ n < 1 := by omega
      have HE : Hid (hasB l n g = l.any fun p => hitB p.1 p.2 n g) := Lib.hid (has_eq l n g hg).symm
      generalize hasB l n g = r at *
      go_enter Tryz.func51, Tryz.ntmps51
      go_wp2_with fail
      go_loopg [7] l.length (fun gg s7 wr => ∃ (k : Nat) (X : World), X = wr ∧ k ≤ l.length ∧ l.length - k ≤ gg ∧ s7 = .int .i64 k ∧ Below w.heap.size w X ∧ Hid (∀ j, j < k → hitB (l.getD j (0, 0)).1 (l.getD j (0, 0)).2 n g = false))
      case atStart => exact ⟨0, _, rfl, Nat.zero_le _, by omega, rfl, Below.refl _ _, Lib.hid fun j hj => absurd hj (Nat.not_lt_zero _)⟩
      case round =>
        obtain ⟨k, X, hX, hk, hgg, rfl, hbw, I⟩ := hrel
        subst hX
        have HBW := Lib.hid hbw
        clear hbw
        by_cases hlt : k < l.length
        · have hltz : (k : Int) < (l.length : Int) := by omega
          obtain ⟨b, off, hb, hs, hcc⟩ := HC.out (by omega)
          subst hb
          obtain ⟨c1, c2⟩ := hcc k hlt
          replace c1 := cellOn' c1 HBW.out
          replace c2 := cellOn' c2 HBW.out
          have HHit : Hid (hitB (l.getD k (0, 0)).1 (l.getD k (0, 0)).2 n g = true → (l.any fun p => hitB p.1 p.2 n g) = true) := Lib.hid (fun h => any_hit (p := fun p => hitB p.1 p.2 n g) k hlt h)
          have HI := Lib.hid (fun Y => refIn_any (l.getD k (0, 0)).1 (l.getD k (0, 0)).2 n g Y)
          clear hcc
          have HMiss : Hid (hitB (l.getD k (0, 0)).1 (l.getD k (0, 0)).2 n g = false → ∀ j, j < k + 1 → hitB (l.getD j (0, 0)).1 (l.getD j (0, 0)).2 n g = false) := Lib.hid (fun h j hj => by
            by_cases e : j = k
            · subst e; exact h
            · exact I.out j (by omega))
          generalize (l.getD k (0, 0)).1 = x at *
          generalize (l.getD k (0, 0)).2 = y at *
          generalize hitB x y n g = hb at *
          cases hb with
          | true =>
            go_wp2_with (go_at_call 69; refine (HI.out _).mono ?_; rintro e w1 ⟨rfl, hb1⟩)
            go_ret
            exact ⟨ret_bool (by rw [HE.out, HHit.out (by simp)]), HBW.out.trans (hb1.mono HBW.out.size)⟩
          | false =>
            go_wp2_with (go_at_call 69; refine (HI.out _).mono ?_; rintro e w1 ⟨rfl, hb1⟩)
            go_roundg (l.length - (k + 1))
            case measure => omega
            case rel => exact ⟨k + 1, _, rfl, by omega, by omega, by go_num, HBW.out.trans (hb1.mono HBW.out.size), Lib.hid (HMiss.out (by simp))⟩
        · have hltz : ¬ (k : Int) < (l.length : Int) := by omega
          have hkl : k = l.length := by omega
          subst hkl
          have HF : Hid ((l.any fun p => hitB p.1 p.2 n g) = false) := Lib.hid (any_getD I.out)
          go_wp2_with fail
          go_ret
          exact ⟨ret_bool (by rw [HE.out, HF.out]), HBW.out⟩
    · have hgz : ¬ g < 1 := by omega
      have hnz : n < 1 := by omega
      have HF : Hid (hasB l n g = false) := Lib.hid (hasB_low l n g hnz)
      go_enter Tryz.func51, Tryz.ntmps51
      go_wp2_with fail
      go_ret
      exact ⟨ret_bool HF.out.symm, Below.refl _ _⟩
  · have hgz : g < 1 := by omega
    have HF : Hid (hasB l n g = false) := Lib.hid (by unfold hasB; rw [decide_eq_false hg, Bool.false_and])
    go_enter Tryz.func51, Tryz.ntmps51
    go_wp2_with fail
    go_ret
    exact ⟨ret_bool HF.out.symm, Below.refl _ _⟩
end Go.Proofs.YtflkhnmggmfhfaaGreat
