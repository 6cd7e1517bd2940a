/- The law's own rises, alike. -/
import Derived.Test.YtkclcjnfjielfabDoorWc
import Derived.Deep.QuietTactic
import Derived.BigQuiet
namespace Go.Proofs.YtkclcjnfjielfabDoor
open Go.RowKit

theorem eqI_of_all {a b : List Int} (hl : a.length = b.length) (h : ∀ j, j < a.length → a.getD j 0 = b.getD j 0) : a = b := by
  apply List.ext_getElem hl
  intro i h1 h2
  have := h i h1
  rw [List.getD_eq_getElem?_getD, List.getD_eq_getElem?_getD, List.getElem?_eq_getElem h1, List.getElem?_eq_getElem h2] at this
  simpa using this
set_option maxRecDepth 100000 in
set_option maxHeartbeats 2000000 in
theorem alike_yes {v1 v2 : Value} {l : List Int} {w : World} (h1 : Ints w v1 l) (h2 : Ints w v2 l) (hl : l.length ≤ 1000000) :
    Calls Tryd.prog 30 #[v1, v2] w fun e w' => e = .returned (.bool true) ∧ Below w.heap.size w w' := by
  obtain ⟨ao, cap, hv1, hc1⟩ : ∃ ao cap, v1 = .slice ao l.length cap ∧ (0 < l.length → ∃ (b off : Nat), ao = some ⟨b, off, none⟩ ∧ b < w.heap.size ∧ ∀ i, i < l.length → w.cell? ⟨b, off + i, none⟩ = some (.int .i64 (l.getD i 0))) := by
    rcases h1 with ⟨rfl, ao, cap, rfl, _⟩ | ⟨b, off, cap, rfl, h0, h1, h2⟩
    · exact ⟨ao, cap, rfl, fun h => by simp at h⟩
    · exact ⟨_, _, rfl, fun _ => ⟨b, off, rfl, h1, h2⟩⟩
  obtain ⟨bo, cap2, hv2, hc2⟩ : ∃ ao cap, v2 = .slice ao l.length cap ∧ (0 < l.length → ∃ (b off : Nat), ao = some ⟨b, off, none⟩ ∧ b < w.heap.size ∧ ∀ i, i < l.length → w.cell? ⟨b, off + i, none⟩ = some (.int .i64 (l.getD i 0))) := by
    rcases h2 with ⟨rfl, ao, cap, rfl, _⟩ | ⟨b, off, cap, rfl, h0, h1, h2⟩
    · exact ⟨ao, cap, rfl, fun h => by simp at h⟩
    · exact ⟨_, _, rfl, fun _ => ⟨b, off, rfl, h1, h2⟩⟩
  subst hv1
  subst hv2
  have HC1 := Lib.hid hc1
  have HC2 := Lib.hid hc2
  clear h1 h2 hc1 hc2
  have hq : ((l.length : Int) != (l.length : Int)) = false := by simp
  go_enter Tryd.func30, Tryd.ntmps30
  go_wp2_with fail
  go_loopg [5] l.length (fun gg s5 wr => ∃ k : Nat, k ≤ l.length ∧ l.length - k ≤ gg ∧ s5 = .int .i64 k ∧ Below w.heap.size w wr)
  case atStart => exact ⟨0, Nat.zero_le _, by omega, rfl, Below.refl _ _⟩
  case round =>
    obtain ⟨k, hk, hgg, rfl, hbw⟩ := hrel
    have HBW := Lib.hid hbw
    clear hbw
    by_cases hlt : k < l.length
    · have hltz : (k : Int) < (l.length : Int) := by omega
      obtain ⟨b1, o1, hb1, hs1, g1⟩ := HC1.out (by omega)
      obtain ⟨b2, o2, hb2, hs2, g2⟩ := HC2.out (by omega)
      subst hb1
      subst hb2
      have c1 := g1 k hlt
      have c2 := g2 k hlt
      rw [← HBW.out.cell (p := ⟨b1, o1 + k, none⟩) hs1] at c1
      rw [← HBW.out.cell (p := ⟨b2, o2 + k, none⟩) hs2] at c2
      clear g1 g2
      generalize l.getD k 0 = x at *
      have hx : (x != x) = false := by simp
      go_wp2_with fail
      go_quiet (fail)
      go_wp2_with fail
      go_roundg (l.length - (k + 1))
      case measure => omega
      case rel => exact ⟨k + 1, by omega, by omega, by go_num, below_drewN HBW.out _⟩
    · have hltz : ¬ (k : Int) < (l.length : Int) := by omega
      go_wp2_with fail
      go_ret
      exact ⟨rfl, HBW.out⟩
end Go.Proofs.YtkclcjnfjielfabDoor
