/- The law's pencilled, shows. -/
import Derived.Test.YtkclcjnfjielfabDoorZp
import Derived.Deep.LoopGhost
namespace Go.Proofs.YtkclcjnfjielfabDoor
open Go.RowKit

/-- A list that was answered bears its mark. -/
def MarkI (w : World) (v : Value) (m : Int) : Prop := v = .slice none 0 0 ∨ ∃ g n cap, v = .slice (some ⟨g, 0, none⟩) n cap ∧ n ≤ cap ∧ cap ≤ 9223372036854775807 ∧ g < w.heap.size ∧ ∀ i, i < cap → i < 400 → w.cell? ⟨g, i, none⟩ = some (.int .i64 m)
set_option maxRecDepth 100000 in
set_option maxHeartbeats 4000000 in
theorem pencilled_any {B : Nat} {v : Value} {n : Nat} {xs : List Value} {w : World} (m : Int) (h : w.ownsRow B 3 1 v n xs) :
    Calls Tryd.prog 34 #[v, .int .i64 m] w fun e w' => (∃ u, e = .returned u) ∧ MarkI w' v m ∧ w.grownBy w' v.ownBlock := by
  rcases h.2 with ⟨hv, _⟩ | ⟨g, cap, cur, hv, _⟩
  · subst hv
    go_enter Tryd.func34, Tryd.ntmps34
    go_wp2_with fail
    refine wp_loop_rounds 1 ?_
    rw [rounds_succ]
    go_wp2_with fail
    go_end0
    exact ⟨⟨_, rfl⟩, .inl rfl, World.grownBy.refl _ _⟩
  · subst hv
    obtain ⟨ys, hr, hnc, hcm, hgl⟩ := row_full h
    have hcm2 : (cap : Int) ≤ 9223372036854775807 := by unfold maxLen at hcm; omega
    have hncz : (n : Int) ≤ (cap : Int) := by omega
    have HR0 := Lib.hid hr
    clear h hr
    go_enter Tryd.func34, Tryd.ntmps34
    go_wp2_with fail
    go_loopg [4] 400 (fun gg s4 wr => ∃ (k : Nat) (zs : List Value) (X : World), X = wr ∧ k ≤ cap ∧ k ≤ 400 ∧ 400 - k ≤ gg ∧ s4 = .int .i64 k ∧ Hid (X.ownsRow B 3 1 (.slice (some ⟨g, 0, none⟩) cap cap) cap zs) ∧ Hid (w.grownBy X (some g)) ∧ Hid (∀ i, i < k → zs[i]? = some (.int .i64 m)))
    case atStart => exact ⟨0, ys, _, rfl, Nat.zero_le _, Nat.zero_le _, by omega, rfl, HR0, Lib.hid (World.grownBy.refl _ _), Lib.hid (fun i hi => by omega)⟩
    case round =>
      obtain ⟨k, zs, X, hX, hkc, hk4, hgg, rfl, HR, HG, HZ⟩ := hrel
      subst hX
      by_cases hlt : k < cap
      · have hltz : (k : Int) < (cap : Int) := by omega
        by_cases hl4 : k < 400
        · have hl4z : (k : Int) < 400 := by omega
          have hlen := HR.out.1
          have c1 : X.cell? ⟨g, k, none⟩ = some zs[k] := by rw [HR.out.cellAt _ (by omega)]; exact List.getElem?_eq_getElem (by omega)
          have f1 : X.frozen? ⟨g, k, none⟩ = false := HR.out.frozenAt _
          have HS := Lib.hid (HR.out.stored k (.int .i64 m)).1
          have HL := Lib.hid hlen
          generalize zs[k] = y1 at *
          clear hlen
          go_wp2_with fail
          go_roundg (400 - (k + 1))
          case measure => omega
          case rel =>
            refine ⟨k + 1, _, _, rfl, by omega, by omega, by omega, by go_num, HS, Lib.hid (gset HG.out _ _ (.inr rfl)), Lib.hid (fun i hi => ?_)⟩
            have hl := HL.out
            by_cases hik : i = k
            · subst hik
              rw [List.getElem?_set_self (by omega)]
            · have := HZ.out i (by omega)
              rw [List.getElem?_set_ne (by omega)]
              exact this
        · have hl4z : ¬ (k : Int) < 400 := by omega
          go_wp2_with fail
          go_end0
          exact ⟨⟨_, rfl⟩, .inr ⟨g, n, cap, rfl, hnc, by omega, (HR.out.lt g rfl).2, fun i hi hi4 => by
            have := HZ.out i (by omega)
            rw [HR.out.cellAt _ (by omega)]
            exact this⟩, HG.out⟩
      · have hltz : ¬ (k : Int) < (cap : Int) := by omega
        go_wp2_with fail
        go_end0
        exact ⟨⟨_, rfl⟩, .inr ⟨g, n, cap, rfl, hnc, by omega, (HR.out.lt g rfl).2, fun i hi hi4 => by
          have := HZ.out i (by omega)
          rw [HR.out.cellAt _ (by omega)]
          exact this⟩, HG.out⟩
set_option maxRecDepth 100000 in
set_option maxHeartbeats 4000000 in
theorem shows_yes {v : Value} {w : World} (m : Int) (h : MarkI w v m) :
    Calls Tryd.prog 36 #[v, .int .i64 m] w fun e w' => e = .returned (.bool true) ∧ Below w.heap.size w w' := by
  rcases h with hv | ⟨g, n, cap, hv, hnc, hcm, hgl, hc⟩
  · subst hv
    go_enter Tryd.func36, Tryd.ntmps36
    go_wp2_with fail
    refine wp_loop_rounds 1 ?_
    rw [rounds_succ]
    go_wp2_with fail
    go_ret
    exact ⟨rfl, Below.refl _ _⟩
  · subst hv
    have hcm2 : (cap : Int) ≤ 9223372036854775807 := by omega
    have hncz : (n : Int) ≤ (cap : Int) := by omega
    have HC := Lib.hid hc
    clear hc
    go_enter Tryd.func36, Tryd.ntmps36
    go_wp2_with fail
    go_loopg [5] 400 (fun gg s5 wr => ∃ (k : Nat) (X : World), X = wr ∧ k ≤ cap ∧ k ≤ 400 ∧ 400 - k ≤ gg ∧ s5 = .int .i64 k ∧ Below w.heap.size w X)
    case atStart => exact ⟨0, _, rfl, Nat.zero_le _, Nat.zero_le _, by omega, rfl, Below.refl _ _⟩
    case round =>
      obtain ⟨k, X, hX, hkc, hk4, hgg, rfl, hbw⟩ := hrel
      subst hX
      have HBW := Lib.hid hbw
      clear hbw
      by_cases hlt : k < cap
      · have hltz : (k : Int) < (cap : Int) := by omega
        by_cases hl4 : k < 400
        · have hl4z : (k : Int) < 400 := by omega
          have c1 := HC.out k hlt hl4
          rw [← HBW.out.cell (p := ⟨g, k, none⟩) hgl] at c1
          go_wp2_with fail
          go_roundg (400 - (k + 1))
          case measure => omega
          case rel => exact ⟨k + 1, _, rfl, by omega, by omega, by omega, by go_num, HBW.out⟩
        · have hl4z : ¬ (k : Int) < 400 := by omega
          go_wp2_with fail
          go_ret
          exact ⟨rfl, HBW.out⟩
      · have hltz : ¬ (k : Int) < (cap : Int) := by omega
        go_wp2_with fail
        go_ret
        exact ⟨rfl, HBW.out⟩
end Go.Proofs.YtkclcjnfjielfabDoor
