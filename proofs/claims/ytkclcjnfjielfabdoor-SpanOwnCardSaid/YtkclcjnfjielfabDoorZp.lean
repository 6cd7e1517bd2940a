/- The law's marked, bears: sets that were answered are written over to the end of their room. -/
import Derived.Test.YtkclcjnfjielfabDoorYc
import Derived.Test.YtkclcjnfjielfabDoorVu
import Derived.Deep.LoopGhost
namespace Go.Proofs.YtkclcjnfjielfabDoor
open Go.RowKit

/-- A set that was answered bears its mark. -/
def MarkR (w : World) (v : Value) (m : Int) : Prop := v = .slice none 0 0 ∨ ∃ g n cap, v = .slice (some ⟨g, 0, none⟩) n cap ∧ n ≤ cap ∧ cap ≤ 9223372036854775807 ∧ g < w.heap.size ∧ ∀ i, i < cap → i < 400 → w.cell? ⟨g, i * 2, none⟩ = some (.int .i64 m) ∧ w.cell? ⟨g, i * 2 + 1, none⟩ = some (.int .i64 (-m))
theorem row_full {B n : Nat} {e : TypeId} {sz g cap : Nat} {xs : List Value} {w : World} (h : w.ownsRow B e sz (.slice (some ⟨g, 0, none⟩) n cap) n xs) : ∃ ys, w.ownsRow B e sz (.slice (some ⟨g, 0, none⟩) cap cap) cap ys ∧ n ≤ cap ∧ cap ≤ maxLen ∧ g < w.heap.size := by
  rcases h.2 with ⟨h', _⟩ | ⟨g', cap', cur, h', hB, hg, hnc, hcm, hcs, htake⟩
  · simp at h'
  · simp only [Value.slice.injEq, Option.some.injEq, Addr.mk.injEq, and_true, true_and] at h'
    obtain ⟨rfl, rfl⟩ := h'
    exact ⟨cur.toList, ⟨by simpa using hcs, .inr ⟨g, cap, cur, rfl, hB, hg, Nat.le_refl _, hcm, hcs, List.take_of_length_le (by simp [hcs])⟩⟩, hnc, hcm, (Array.getElem?_eq_some_iff.1 hg).1⟩
set_option maxRecDepth 100000 in
set_option maxHeartbeats 4000000 in
theorem marked_any {B : Nat} {v : Value} {n : Nat} {xs : List Value} {w : World} (m : Int) (h : w.ownsRow B 63 2 v n xs) (hm : 0 ≤ m) (hm2 : m ≤ 1000000) :
    Calls Tryd.prog 33 #[v, .int .i64 m] w fun e w' => (∃ u, e = .returned u) ∧ MarkR w' v m ∧ w.grownBy w' v.ownBlock := by
  have hneg : IntKind.i64.wrap (-m) = -m := by rw [IntKind.wrap_i64]; omega
  rcases h.2 with ⟨hv, _⟩ | ⟨g, cap, cur, hv, _⟩
  · subst hv
    go_enter Tryd.func33, Tryd.ntmps33
    go_wp2_with fail
    refine wp_loop_rounds 1 ?_
    rw [rounds_succ]
    go_wp2_with fail
    go_end0
    exact ⟨⟨_, rfl⟩, .inl rfl, World.grownBy.refl _ _⟩
  · subst hv
    obtain ⟨ys, hr, hnc, hcm, hgl⟩ := row_full h
    have hcm2 : (cap : Int) ≤ 9223372036854775807 := by unfold maxLen at hcm; omega
    have hncz : (n : Int) ≤ (cap : Int) := by omega
    have HR0 := Lib.hid hr
    clear h hr
    go_enter Tryd.func33, Tryd.ntmps33
    go_wp2_with fail
    go_loopg [4] 400 (fun gg s4 wr => ∃ (k : Nat) (zs : List Value) (X : World), X = wr ∧ k ≤ cap ∧ k ≤ 400 ∧ 400 - k ≤ gg ∧ s4 = .int .i64 k ∧ Hid (X.ownsRow B 63 2 (.slice (some ⟨g, 0, none⟩) cap cap) cap zs) ∧ Hid (w.grownBy X (some g)) ∧ Hid (∀ i, i < k → zs[i * 2]? = some (.int .i64 m) ∧ zs[i * 2 + 1]? = some (.int .i64 (-m))))
    case atStart => exact ⟨0, ys, _, rfl, Nat.zero_le _, Nat.zero_le _, by omega, rfl, HR0, Lib.hid (World.grownBy.refl _ _), Lib.hid (fun i hi => by omega)⟩
    case round =>
      obtain ⟨k, zs, X, hX, hkc, hk4, hgg, rfl, HR, HG, HZ⟩ := hrel
      subst hX
      by_cases hlt : k < cap
      · have hltz : (k : Int) < (cap : Int) := by omega
        by_cases hl4 : k < 400
        · have hl4z : (k : Int) < 400 := by omega
          have hlen := HR.out.1
          have c1 : X.cell? ⟨g, k * 2, none⟩ = some zs[k * 2] := by rw [HR.out.cellAt _ (by omega)]; exact List.getElem?_eq_getElem (by omega)
          have c2 : X.cell? ⟨g, k * 2 + 1, none⟩ = some zs[k * 2 + 1] := by rw [HR.out.cellAt _ (by omega)]; exact List.getElem?_eq_getElem (by omega)
          have f1 : X.frozen? ⟨g, k * 2, none⟩ = false := HR.out.frozenAt _
          have f2 : X.frozen? ⟨g, k * 2 + 1, none⟩ = false := HR.out.frozenAt _
          have HS := Lib.hid ((HR.out.stored (k * 2) (.int .i64 m)).1.stored (k * 2 + 1) (.int .i64 (-m))).1
          have HL := Lib.hid hlen
          generalize zs[k * 2] = y1 at *
          generalize zs[k * 2 + 1] = y2 at *
          clear hlen
          go_wp2_with fail
          go_roundg (400 - (k + 1))
          case measure => omega
          case rel =>
            refine ⟨k + 1, _, _, rfl, by omega, by omega, by omega, by go_num, HS, Lib.hid (gset (gset HG.out _ _ (.inr rfl)) _ _ (.inr rfl)), Lib.hid (fun i hi => ?_)⟩
            have hl := HL.out
            by_cases hik : i = k
            · subst hik
              refine ⟨?_, ?_⟩
              · rw [List.getElem?_set_ne (by omega), List.getElem?_set_self (by omega)]
              · rw [List.getElem?_set_self (by simp; omega)]
            · have := HZ.out i (by omega)
              rw [List.getElem?_set_ne (by omega), List.getElem?_set_ne (by omega), List.getElem?_set_ne (by omega), List.getElem?_set_ne (by omega)]
              exact this
        · have hl4z : ¬ (k : Int) < 400 := by omega
          go_wp2_with fail
          go_end0
          exact ⟨⟨_, rfl⟩, .inr ⟨g, n, cap, rfl, hnc, by omega, (HR.out.lt g rfl).2, fun i hi hi4 => by
            have := HZ.out i (by omega)
            rw [HR.out.cellAt _ (by omega), HR.out.cellAt _ (by omega)]
            exact this⟩, HG.out⟩
      · have hltz : ¬ (k : Int) < (cap : Int) := by omega
        go_wp2_with fail
        go_end0
        exact ⟨⟨_, rfl⟩, .inr ⟨g, n, cap, rfl, hnc, by omega, (HR.out.lt g rfl).2, fun i hi hi4 => by
          have := HZ.out i (by omega)
          rw [HR.out.cellAt _ (by omega), HR.out.cellAt _ (by omega)]
          exact this⟩, HG.out⟩
set_option maxRecDepth 100000 in
set_option maxHeartbeats 4000000 in
theorem bears_yes {v : Value} {w : World} (m : Int) (h : MarkR w v m) (hm : 0 ≤ m) (hm2 : m ≤ 1000000) :
    Calls Tryd.prog 35 #[v, .int .i64 m] w fun e w' => e = .returned (.bool true) ∧ Below w.heap.size w w' := by
  have hneg : IntKind.i64.wrap (-m) = -m := by rw [IntKind.wrap_i64]; omega
  have HNQ := Tryd.neqRange
  rcases h with hv | ⟨g, n, cap, hv, hnc, hcm, hgl, hc⟩
  · subst hv
    go_enter Tryd.func35, Tryd.ntmps35
    go_wp2_with fail
    refine wp_loop_rounds 1 ?_
    rw [rounds_succ]
    go_wp2_with fail
    go_ret
    exact ⟨rfl, Below.refl _ _⟩
  · subst hv
    have hcm2 : (cap : Int) ≤ 9223372036854775807 := by omega
    have hncz : (n : Int) ≤ (cap : Int) := by omega
    have HC := Lib.hid hc
    clear hc
    go_enter Tryd.func35, Tryd.ntmps35
    go_wp2_with fail
    go_loopg [5] 400 (fun gg s5 wr => ∃ (k : Nat) (X : World), X = wr ∧ k ≤ cap ∧ k ≤ 400 ∧ 400 - k ≤ gg ∧ s5 = .int .i64 k ∧ Below w.heap.size w X)
    case atStart => exact ⟨0, _, rfl, Nat.zero_le _, Nat.zero_le _, by omega, rfl, Below.refl _ _⟩
    case round =>
      obtain ⟨k, X, hX, hkc, hk4, hgg, rfl, hbw⟩ := hrel
      subst hX
      have HBW := Lib.hid hbw
      clear hbw
      by_cases hlt : k < cap
      · have hltz : (k : Int) < (cap : Int) := by omega
        by_cases hl4 : k < 400
        · have hl4z : (k : Int) < 400 := by omega
          obtain ⟨c1, c2⟩ := HC.out k hlt hl4
          rw [← HBW.out.cell (p := ⟨g, k * 2, none⟩) hgl] at c1
          rw [← HBW.out.cell (p := ⟨g, k * 2 + 1, none⟩) hgl] at c2
          go_wp2_with fail
          go_roundg (400 - (k + 1))
          case measure => omega
          case rel => exact ⟨k + 1, _, rfl, by omega, by omega, by omega, by go_num, HBW.out⟩
        · have hl4z : ¬ (k : Int) < 400 := by omega
          go_wp2_with fail
          go_ret
          exact ⟨rfl, HBW.out⟩
      · have hltz : ¬ (k : Int) < (cap : Int) := by omega
        go_wp2_with fail
        go_ret
        exact ⟨rfl, HBW.out⟩
end Go.Proofs.YtkclcjnfjielfabDoor
