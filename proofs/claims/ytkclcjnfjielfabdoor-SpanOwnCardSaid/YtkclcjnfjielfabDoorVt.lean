/- The law's own same, num. -/
import Derived.Test.YtkclcjnfjielfabDoorVs
import Derived.Deep.QuietTactic
import Derived.BigQuiet
namespace Go.Proofs.YtkclcjnfjielfabDoor
open Go.RowKit

set_option maxHeartbeats 400000 in
theorem num_any (x : Int) (w : World) : Calls Tryd.prog 20 #[.int .i64 x] w fun e w' => e = .returned (.int .i64 x) ∧ w' = w := by
  go_enter Tryd.func20, Tryd.ntmps20
  go_wp2
  go_ret
  exact ⟨rfl, rfl⟩

theorem eq_of_all {a b : List Rg} (hl : a.length = b.length) (h : ∀ j, j < a.length → a.getD j (0, 0) = b.getD j (0, 0)) : a = b := by
  apply List.ext_getElem hl
  intro i h1 h2
  have := h i h1
  rw [List.getD_eq_getElem?_getD, List.getD_eq_getElem?_getD, List.getElem?_eq_getElem h1, List.getElem?_eq_getElem h2] at this
  simpa using this
set_option maxRecDepth 100000 in
set_option maxHeartbeats 2000000 in
theorem same_any (v1 v2 : Value) (l1 l2 : List Rg) (w : World) (h1 : Rgs w v1 l1) (h2 : Rgs w v2 l2) (hl : l1.length ≤ 1000000) :
    Calls Tryd.prog 14 #[v1, v2] w fun e w' => e = .returned (.bool (decide (l1 = l2))) ∧ Below w.heap.size w w' := by
  obtain ⟨ao, cap, rfl, hc1⟩ := h1.shape
  obtain ⟨bo, cap2, rfl, hc2⟩ := h2.shape
  have HC1 := Lib.hid hc1
  have HC2 := Lib.hid hc2
  have HN := Tryd.neqRange
  clear h1 h2 hc1 hc2
  by_cases hlen : l1.length = l2.length
  · have hq : ((l1.length : Int) != (l2.length : Int)) = false := by rw [hlen]; simp
    have HLEN := Lib.hid hlen
    clear hlen
    go_enter Tryd.func14, Tryd.ntmps14
    go_wp2_with fail
    go_loopg [5] l1.length (fun gg s5 wr => ∃ k : Nat, k ≤ l1.length ∧ l1.length - k ≤ gg ∧ s5 = .int .i64 k ∧ Below w.heap.size w wr ∧ Hid (∀ j, j < k → l1.getD j (0, 0) = l2.getD j (0, 0)))
    case atStart => exact ⟨0, Nat.zero_le _, by omega, rfl, Below.refl _ _, Lib.hid fun j hj => absurd hj (Nat.not_lt_zero _)⟩
    case round =>
      obtain ⟨k, hk, hgg, rfl, hbw, I⟩ := hrel
      have HBW := Lib.hid hbw
      clear hbw
      by_cases hlt : k < l1.length
      · have hltz : (k : Int) < (l1.length : Int) := by omega
        have hlt2 : k < l2.length := by (have := HLEN.out; omega)
        have hltz2 : (k : Int) < (l2.length : Int) := by omega
        obtain ⟨b1, o1, hb1, hs1, g1⟩ := HC1.out (by omega)
        obtain ⟨b2, o2, hb2, hs2, g2⟩ := HC2.out (by omega)
        subst hb1
        subst hb2
        obtain ⟨c1, c2⟩ := g1 k hlt
        obtain ⟨d1, d2⟩ := g2 k hlt2
        rw [← HBW.out.cell (p := ⟨b1, o1 + k * 2, none⟩) hs1] at c1
        rw [← HBW.out.cell (p := ⟨b1, o1 + k * 2 + 1, none⟩) hs1] at c2
        rw [← HBW.out.cell (p := ⟨b2, o2 + k * 2, none⟩) hs2] at d1
        rw [← HBW.out.cell (p := ⟨b2, o2 + k * 2 + 1, none⟩) hs2] at d2
        have HQ : Hid (l1.getD k (0, 0) = l2.getD k (0, 0) ↔ (l1.getD k (0, 0)).1 = (l2.getD k (0, 0)).1 ∧ (l1.getD k (0, 0)).2 = (l2.getD k (0, 0)).2) := Lib.hid Prod.ext_iff
        have HF : Hid (¬ l1.getD k (0, 0) = l2.getD k (0, 0) → decide (l1 = l2) = false) := Lib.hid (fun h => decide_eq_false (fun e => h (by rw [e])))
        clear g1 g2
        generalize (l1.getD k (0, 0)).1 = x at *
        generalize (l1.getD k (0, 0)).2 = y at *
        generalize (l2.getD k (0, 0)).1 = x2 at *
        generalize (l2.getD k (0, 0)).2 = y2 at *
        by_cases he : x = x2 ∧ y = y2
        · have hb : (x == x2 && y == y2) = true := by rw [he.1, he.2]; simp
          have HE := Lib.hid (HQ.out.2 he)
          clear he HF HQ
          go_wp2_with fail
          go_quiet (fail)
          go_wp2_with fail
          go_roundg (l1.length - (k + 1))
          case measure => omega
          case rel =>
            refine ⟨k + 1, by omega, by omega, by go_num, below_drewN HBW.out _, Lib.hid fun j hj => ?_⟩
            by_cases e : j = k
            · subst e; exact HE.out
            · exact I.out j (by omega)
        · have hb : (x == x2 && y == y2) = false := by
            rw [Bool.and_eq_false_iff, beq_eq_false_iff_ne, beq_eq_false_iff_ne]
            by_cases h : x = x2
            · right; intro h'; exact he ⟨h, h'⟩
            · left; exact h
          have HD := Lib.hid (HF.out (fun h => he (HQ.out.1 h)))
          clear he HF HQ
          go_wp2_with fail
          go_quiet (fail)
          go_wp2_with fail
          go_ret
          exact ⟨ret_bool HD.out.symm, below_drewN HBW.out _⟩
      · have hltz : ¬ (k : Int) < (l1.length : Int) := by omega
        have : k = l1.length := by omega
        subst this
        have HD : Hid (decide (l1 = l2) = true) := Lib.hid (decide_eq_true (eq_of_all HLEN.out I.out))
        go_wp2_with fail
        go_ret
        exact ⟨ret_bool HD.out.symm, HBW.out⟩
  · have hq : ((l1.length : Int) != (l2.length : Int)) = true := by rw [bne_iff_ne]; omega
    have HD : Hid (decide (l1 = l2) = false) := Lib.hid (decide_eq_false (fun e => hlen (by rw [e])))
    generalize decide (l1 = l2) = dd at *
    clear hlen
    go_enter Tryd.func14, Tryd.ntmps14
    go_wp2_with fail
    go_ret
    exact ⟨ret_bool HD.out.symm, Below.refl _ _⟩
end Go.Proofs.YtkclcjnfjielfabDoor
