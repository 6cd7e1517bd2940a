/- The law's own rises, alike. -/
import Derived.Test.YtoikjkcnekkehaaDoorWc
import Derived.Deep.QuietTactic
import Derived.BigQuiet
namespace Go.Proofs.YtoikjkcnekkehaaDoor
open Go.RowKit

set_option maxRecDepth 100000 in
set_option maxHeartbeats 4000000 in
theorem rises_any (v : Value) (l : List Rg) (w : World) (hr : Rgs w v l) (hl : l.length ≤ 1000000) (hc : okC l) :
    Calls Tryd.prog 17 #[v] w fun e w' => e = .returned (.bool true) ∧ Below w.heap.size w w' := by
  obtain ⟨ao, cap, hv, hcs⟩ := hr.shape
  subst hv
  have HC := Lib.hid hcs
  have HO := Lib.hid hc
  clear hr hcs hc
  go_enter Tryd.func17, Tryd.ntmps17
  go_wp2_with fail
  go_loopg [3] l.length (fun gg s3 wr => ∃ k : Nat, k ≤ l.length ∧ l.length - k ≤ gg ∧ s3 = .int .i64 k ∧ Below w.heap.size w wr)
  case atStart => exact ⟨0, Nat.zero_le _, by omega, rfl, Below.refl _ _⟩
  case round =>
    obtain ⟨k, hk, hgg, rfl, hbw⟩ := hrel
    have HBW := Lib.hid hbw
    clear hbw
    by_cases hlt : k < l.length
    · have hltz : (k : Int) < (l.length : Int) := by omega
      obtain ⟨b, off, hao, hbs, hc⟩ := HC.out (by omega)
      subst hao
      have hm : l.getD k (0, 0) ∈ l := by rw [List.getD_eq_getElem?_getD, List.getElem?_eq_getElem hlt]; exact List.getElem_mem hlt
      have hok := HO.out.2 _ hm
      obtain ⟨c1, c2⟩ := hc k hlt
      rw [← HBW.out.cell (p := ⟨b, off + k * 2, none⟩) hbs] at c1
      rw [← HBW.out.cell (p := ⟨b, off + k * 2 + 1, none⟩) hbs] at c2
      clear hm
      cases k with
      | zero =>
        generalize (l.getD 0 (0, 0)).1 = x at *
        generalize (l.getD 0 (0, 0)).2 = y at *
        have d1 : decide (x < 1) = false := decide_eq_false (by omega)
        have d2 : decide (y < x) = false := decide_eq_false (by omega)
        have d3 : decide (4294967295 < y) = false := decide_eq_false (by omega)
        simp only [Nat.zero_mul, Nat.add_zero] at c1 c2
        clear hc
        go_wp2_with fail
        go_quiet (fail)
        go_wp2_with fail
        go_roundg (l.length - 1)
        case measure => omega
        case rel => exact ⟨1, by omega, by omega, by go_num, below_drewN HBW.out _⟩
      | succ k =>
        obtain ⟨_, c4⟩ := hc k (by omega)
        rw [← HBW.out.cell (p := ⟨b, off + k * 2 + 1, none⟩) hbs] at c4
        have hlt2 := canonF_lt HO.out.1 k (k + 1) (by omega) hlt
        have hm2 : l.getD k (0, 0) ∈ l := by rw [List.getD_eq_getElem?_getD, List.getElem?_eq_getElem (by omega)]; exact List.getElem_mem (by omega)
        have hok2 := HO.out.2 _ hm2
        clear hm2 hc
        generalize (l.getD (k + 1) (0, 0)).1 = x at *
        generalize (l.getD (k + 1) (0, 0)).2 = y at *
        generalize (l.getD k (0, 0)).1 = x2 at *
        generalize (l.getD k (0, 0)).2 = y2 at *
        have d1 : decide (x < 1) = false := decide_eq_false (by omega)
        have d2 : decide (y < x) = false := decide_eq_false (by omega)
        have d3 : decide (4294967295 < y) = false := decide_eq_false (by omega)
        have d4 : decide (x ≤ y2 + 1) = false := decide_eq_false (by omega)
        have k0 : (0 : Int) < (k : Int) + 1 := by omega
        go_wp2_with fail
        go_quiet (fail)
        go_wp2_with fail
        go_roundg (l.length - (k + 2))
        case measure => omega
        case rel => exact ⟨k + 2, by omega, by omega, by go_num, below_drewN HBW.out _⟩
    · have hltz : ¬ (k : Int) < (l.length : Int) := by omega
      go_wp2_with fail
      go_ret
      exact ⟨rfl, HBW.out⟩

theorem eqI_of_all {a b : List Int} (hl : a.length = b.length) (h : ∀ j, j < a.length → a.getD j 0 = b.getD j 0) : a = b := by
  apply List.ext_getElem hl
  intro i h1 h2
  have := h i h1
  rw [List.getD_eq_getElem?_getD, List.getD_eq_getElem?_getD, List.getElem?_eq_getElem h1, List.getElem?_eq_getElem h2] at this
  simpa using this
set_option maxRecDepth 100000 in
set_option maxHeartbeats 2000000 in
theorem alike_yes {v1 v2 : Value} {l : List Int} {w : World} (h1 : Ints w v1 l) (h2 : Ints w v2 l) (hl : l.length ≤ 1000000) :
    Calls Tryd.prog 18 #[v1, v2] w fun e w' => e = .returned (.bool true) ∧ Below w.heap.size w w' := by
  obtain ⟨ao, cap, hv1, hc1⟩ : ∃ ao cap, v1 = .slice ao l.length cap ∧ (0 < l.length → ∃ (b off : Nat), ao = some ⟨b, off, none⟩ ∧ b < w.heap.size ∧ ∀ i, i < l.length → w.cell? ⟨b, off + i, none⟩ = some (.int .i64 (l.getD i 0))) := by
    rcases h1 with ⟨rfl, ao, cap, rfl, _⟩ | ⟨b, off, cap, rfl, h0, h1, h2⟩
    · exact ⟨ao, cap, rfl, fun h => by simp at h⟩
    · exact ⟨_, _, rfl, fun _ => ⟨b, off, rfl, h1, h2⟩⟩
  obtain ⟨bo, cap2, hv2, hc2⟩ : ∃ ao cap, v2 = .slice ao l.length cap ∧ (0 < l.length → ∃ (b off : Nat), ao = some ⟨b, off, none⟩ ∧ b < w.heap.size ∧ ∀ i, i < l.length → w.cell? ⟨b, off + i, none⟩ = some (.int .i64 (l.getD i 0))) := by
    rcases h2 with ⟨rfl, ao, cap, rfl, _⟩ | ⟨b, off, cap, rfl, h0, h1, h2⟩
    · exact ⟨ao, cap, rfl, fun h => by simp at h⟩
    · exact ⟨_, _, rfl, fun _ => ⟨b, off, rfl, h1, h2⟩⟩
  subst hv1
  subst hv2
  have HC1 := Lib.hid hc1
  have HC2 := Lib.hid hc2
  clear h1 h2 hc1 hc2
  have hq : ((l.length : Int) != (l.length : Int)) = false := by simp
  go_enter Tryd.func18, Tryd.ntmps18
  go_wp2_with fail
  go_loopg [5] l.length (fun gg s5 wr => ∃ k : Nat, k ≤ l.length ∧ l.length - k ≤ gg ∧ s5 = .int .i64 k ∧ Below w.heap.size w wr)
  case atStart => exact ⟨0, Nat.zero_le _, by omega, rfl, Below.refl _ _⟩
  case round =>
    obtain ⟨k, hk, hgg, rfl, hbw⟩ := hrel
    have HBW := Lib.hid hbw
    clear hbw
    by_cases hlt : k < l.length
    · have hltz : (k : Int) < (l.length : Int) := by omega
      obtain ⟨b1, o1, hb1, hs1, g1⟩ := HC1.out (by omega)
      obtain ⟨b2, o2, hb2, hs2, g2⟩ := HC2.out (by omega)
      subst hb1
      subst hb2
      have c1 := g1 k hlt
      have c2 := g2 k hlt
      rw [← HBW.out.cell (p := ⟨b1, o1 + k, none⟩) hs1] at c1
      rw [← HBW.out.cell (p := ⟨b2, o2 + k, none⟩) hs2] at c2
      clear g1 g2
      generalize l.getD k 0 = x at *
      have hx : (x != x) = false := by simp
      go_wp2_with fail
      go_quiet (fail)
      go_wp2_with fail
      go_roundg (l.length - (k + 1))
      case measure => omega
      case rel => exact ⟨k + 1, by omega, by omega, by go_num, below_drewN HBW.out _⟩
    · have hltz : ¬ (k : Int) < (l.length : Int) := by omega
      go_wp2_with fail
      go_ret
      exact ⟨rfl, HBW.out⟩
end Go.Proofs.YtoikjkcnekkehaaDoor
