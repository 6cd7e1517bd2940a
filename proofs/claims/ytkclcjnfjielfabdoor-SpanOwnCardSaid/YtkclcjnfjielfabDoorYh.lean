/- The reference: Has, Of. -/
import Derived.Test.YtkclcjnfjielfabDoorYd
import Derived.Deep.RegionHeld3
namespace Go.Proofs.YtkclcjnfjielfabDoor
open Go.RowKit

theorem cellOn' {w X : World} {B i : Nat} {v : Value} (h : w.cell? ⟨B, i, none⟩ = some v) (hb : Below w.heap.size w X) : X.cell? ⟨B, i, none⟩ = some v := by
  rw [hb.cell (p := ⟨B, i, none⟩) (block_lt_of_cell h)]; exact h
theorem Rgs.size' {w : World} {v : Value} {l : List Rg} (h : Rgs w v l) : l.length ≤ 8796093022208 := by
  rcases h with ⟨rfl, _⟩ | ⟨_, _, _, _, h0, _⟩
  · simp
  · exact h0
theorem hasB_low (l : List Rg) (n g : Int) (hn : n < 1) : hasB l n g = false := by
  unfold hasB
  by_cases hg : 1 ≤ g
  · rw [decide_eq_true hg, Bool.true_and, List.any_eq_false]
    intro p _
    have : (pieceB p && inB (setl p g) n) = false := by
      cases hp : pieceB p with
      | false => rfl
      | true =>
        have h := (pieceB_iff p).1 hp
        rw [Bool.true_and]
        unfold inB setl starI
        rw [Bool.and_eq_false_iff]
        left
        rw [decide_eq_false_iff_not]
        show ¬ min (if p.1 = 0 then g else p.1) (if p.2 = 0 then g else p.2) ≤ n
        split <;> split <;> omega
    rw [this]
    simp
  · rw [decide_eq_false hg, Bool.false_and]
set_option maxRecDepth 100000 in
set_option maxHeartbeats 2000000 in
theorem refHas_any (v : Value) (l : List Rg) (n g : Int) (w : World) (hr : Rgs w v l) :
    Calls Tryd.prog 23 #[v, .int .i64 n, .int .i64 g] w fun e w' => e = .returned (.bool (hasB l n g)) ∧ Below w.heap.size w w' := by
  obtain ⟨ao, cap, hv, hc⟩ := hr.shape
  have hll := hr.size'
  subst hv
  have HC := Lib.hid hc
  clear hc hr
  by_cases hg : 1 ≤ g
  · by_cases hn : 1 ≤ n
    · have hgz : ¬ g < 1 := by omega
      have hnz : ¬ n < 1 := by omega
      have HE : Hid (hasB l n g = l.any fun p => hitB p.1 p.2 n g) := Lib.hid (has_eq l n g hg).symm
      generalize hasB l n g = r at *
      go_enter Tryd.func23, Tryd.ntmps23
      go_wp2_with fail
      go_loopg [7] l.length (fun gg s7 wr => ∃ (k : Nat) (X : World), X = wr ∧ k ≤ l.length ∧ l.length - k ≤ gg ∧ s7 = .int .i64 k ∧ Below w.heap.size w X ∧ Hid (∀ j, j < k → hitB (l.getD j (0, 0)).1 (l.getD j (0, 0)).2 n g = false))
      case atStart => exact ⟨0, _, rfl, Nat.zero_le _, by omega, rfl, Below.refl _ _, Lib.hid fun j hj => absurd hj (Nat.not_lt_zero _)⟩
      case round =>
        obtain ⟨k, X, hX, hk, hgg, rfl, hbw, I⟩ := hrel
        subst hX
        have HBW := Lib.hid hbw
        clear hbw
        by_cases hlt : k < l.length
        · have hltz : (k : Int) < (l.length : Int) := by omega
          obtain ⟨b, off, hb, hs, hcc⟩ := HC.out (by omega)
          subst hb
          obtain ⟨c1, c2⟩ := hcc k hlt
          replace c1 := cellOn' c1 HBW.out
          replace c2 := cellOn' c2 HBW.out
          have HHit : Hid (hitB (l.getD k (0, 0)).1 (l.getD k (0, 0)).2 n g = true → (l.any fun p => hitB p.1 p.2 n g) = true) := Lib.hid (fun h => any_hit (p := fun p => hitB p.1 p.2 n g) k hlt h)
          have HI := Lib.hid (fun Y => refIn_any (l.getD k (0, 0)).1 (l.getD k (0, 0)).2 n g Y)
          clear hcc
          have HMiss : Hid (hitB (l.getD k (0, 0)).1 (l.getD k (0, 0)).2 n g = false → ∀ j, j < k + 1 → hitB (l.getD j (0, 0)).1 (l.getD j (0, 0)).2 n g = false) := Lib.hid (fun h j hj => by
            by_cases e : j = k
            · subst e; exact h
            · exact I.out j (by omega))
          generalize (l.getD k (0, 0)).1 = x at *
          generalize (l.getD k (0, 0)).2 = y at *
          generalize hitB x y n g = hb at *
          cases hb with
          | true =>
            go_wp2_with (go_at_call 49; refine (HI.out _).mono ?_; rintro e w1 ⟨rfl, hb1⟩)
            go_ret
            exact ⟨ret_bool (by rw [HE.out, HHit.out (by simp)]), HBW.out.trans (hb1.mono HBW.out.size)⟩
          | false =>
            go_wp2_with (go_at_call 49; refine (HI.out _).mono ?_; rintro e w1 ⟨rfl, hb1⟩)
            go_roundg (l.length - (k + 1))
            case measure => omega
            case rel => exact ⟨k + 1, _, rfl, by omega, by omega, by go_num, HBW.out.trans (hb1.mono HBW.out.size), Lib.hid (HMiss.out (by simp))⟩
        · have hltz : ¬ (k : Int) < (l.length : Int) := by omega
          have hkl : k = l.length := by omega
          subst hkl
          have HF : Hid ((l.any fun p => hitB p.1 p.2 n g) = false) := Lib.hid (any_getD I.out)
          go_wp2_with fail
          go_ret
          exact ⟨ret_bool (by rw [HE.out, HF.out]), HBW.out⟩
    · have hgz : ¬ g < 1 := by omega
      have hnz : n < 1 := by omega
      have HF : Hid (hasB l n g = false) := Lib.hid (hasB_low l n g hnz)
      go_enter Tryd.func23, Tryd.ntmps23
      go_wp2_with fail
      go_ret
      exact ⟨ret_bool HF.out.symm, Below.refl _ _⟩
  · have hgz : g < 1 := by omega
    have HF : Hid (hasB l n g = false) := Lib.hid (by unfold hasB; rw [decide_eq_false hg, Bool.false_and])
    go_enter Tryd.func23, Tryd.ntmps23
    go_wp2_with fail
    go_ret
    exact ⟨ret_bool HF.out.symm, Below.refl _ _⟩
end Go.Proofs.YtkclcjnfjielfabDoor
