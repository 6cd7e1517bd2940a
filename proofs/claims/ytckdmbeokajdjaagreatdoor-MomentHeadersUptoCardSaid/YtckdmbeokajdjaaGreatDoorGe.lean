/- The reference of chapter 2: ReadDay. -/
import Derived.Test.YtckdmbeokajdjaaGreatDoorGa
import Derived.Deep.RegionHeld3
import Derived.Deep.DeepCutAuto
import Derived.Test.YtckdmbeokajdjaaGreatDoorDd
namespace Go.Proofs.YtckdmbeokajdjaaGreatDoor
open Go.RowKit

theorem bt_drop (l : List UInt8) (g i : Nat) : bt (l.drop g) i = bt l (g + i) := by
  unfold bt; rw [List.getElem?_drop]
theorem rd_td (l : List UInt8) (g : Nat) (hl : l.length = g + 9) (hg : g = 1 ∨ g = 2) :
    rdOk (l.take g) (l.drop g) = tdB l ∧ numI ((l.drop g).drop 5) 1 8 = tdY l ∧ monI (((l.drop g).drop 1).take 3) = tdM l ∧ numI (l.take g) 1 8 = tdD l := by
  have t1 : (l.take g).length = g := by rw [List.length_take]; omega
  have t2 : ((l.drop g).drop 5).length = 4 := by rw [List.length_drop, List.length_drop]; omega
  have c1 := num_count (l.take g) 1 2 (by omega) (by omega) (by omega) (by omega)
  have c2 := num_count ((l.drop g).drop 5) 4 4 (by omega) (by omega) (by omega) (by omega)
  have e1 : (l.drop g).drop 5 = l.drop (g + 5) := by rw [List.drop_drop]
  have e2 : (l.drop g).drop 1 = l.drop (g + 1) := by rw [List.drop_drop]
  have e3 : l.length - 4 = g + 5 := by omega
  have e4 : l.length - 8 = g + 1 := by omega
  have e5 : l.length - 9 = g := by omega
  refine ⟨?_, ?_, ?_, ?_⟩
  · have ht : tdB l = tdOk l g := by
      unfold tdB
      rcases hg with rfl | rfl
      · rw [if_pos (by omega)]
      · rw [if_neg (by omega), if_pos (by omega)]
    rw [ht]
    unfold rdOk rdDash tdOk
    rw [c1.1, c2.1, bt_drop, bt_drop, e1, e2]
    rw [Nat.add_zero]
    cases numB (l.take g) 1 2 <;> cases monB ((l.drop (g + 1)).take 3) <;> cases numB (l.drop (g + 5)) 4 4 <;> cases bt l g == 45 <;> cases bt l (g + 4) == 45 <;> rfl
  · rw [c2.2, e1]; unfold tdY; rw [e3]
  · rw [e2]; unfold tdM; rw [e4]
  · rw [c1.2]; unfold tdD; rw [e5]
theorem below_sets7 {B g : Nat} {w X : World} {a0 a1 a2 a3 a4 a5 a6 : Value} (h : Below B w X) (hg : B ≤ g) : Below B w (((((((X.setCell ⟨g, 0, none⟩ a0).setCell ⟨g, 1, none⟩ a1).setCell ⟨g, 2, none⟩ a2).setCell ⟨g, 3, none⟩ a3).setCell ⟨g, 4, none⟩ a4).setCell ⟨g, 5, none⟩ a5).setCell ⟨g, 6, none⟩ a6) :=
  (((((((h.setCell (show B ≤ (⟨g, 0, none⟩ : Addr).block from hg) _).setCell (show B ≤ (⟨g, 1, none⟩ : Addr).block from hg) _).setCell (show B ≤ (⟨g, 2, none⟩ : Addr).block from hg) _).setCell (show B ≤ (⟨g, 3, none⟩ : Addr).block from hg) _).setCell (show B ≤ (⟨g, 4, none⟩ : Addr).block from hg) _).setCell (show B ≤ (⟨g, 5, none⟩ : Addr).block from hg) _).setCell (show B ≤ (⟨g, 6, none⟩ : Addr).block from hg) _)
end Go.Proofs.YtckdmbeokajdjaaGreatDoor
