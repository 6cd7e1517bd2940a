/- The reference of chapter 2: ReadInternal, where the form is right: the cases together. -/
import Derived.Test.YtibhlmbcohpmlaaGreatDoorUa
import Derived.Test.YtibhlmbcohpmlaaGreatDoorUb
import Derived.Test.YtibhlmbcohpmlaaGreatDoorUc
import Derived.Test.YtibhlmbcohpmlaaGreatDoorUd
import Derived.Test.YtibhlmbcohpmlaaGreatDoorUe
import Derived.Test.YtibhlmbcohpmlaaGreatDoorUf
import Derived.Test.YtibhlmbcohpmlaaGreatDoorUg
import Derived.Test.YtibhlmbcohpmlaaGreatDoorUh
import Derived.Test.YtibhlmbcohpmlaaGreatDoorUi
namespace Go.Proofs.YtibhlmbcohpmlaaGreatDoor
open Go.RowKit

set_option maxHeartbeats 4000000 in
theorem refReadInternal_yes (s : ByteArray) (w : World) (hs : s.size = 26) (p1 : (bt (L s) 11 == 32) = true) (p2 : (bt (L s) 14 == 58) = true) (p3 : (bt (L s) 17 == 58) = true) (p4 : (bt (L s) 20 == 32) = true) :
    Calls Tryz.prog 32 #[.string s] w fun e w' => e = .returned (.tuple #[riV (L s), .int .i64 (riE (L s))]) ∧ Below w.heap.size w w' := by
  have hcs : ((tdB (riDay (L s)) = false) ∧ (rInB (L s) = false)) ∨ ((tdB (riDay (L s)) = true) ∧ (numB (((L s).drop 12).take 2) 2 2 = false) ∧ (rInB (L s) = false)) ∨ ((tdB (riDay (L s)) = true) ∧ (numB (((L s).drop 12).take 2) 2 2 = true) ∧ (numB (((L s).drop 15).take 2) 2 2 = false) ∧ (rInB (L s) = false)) ∨ ((tdB (riDay (L s)) = true) ∧ (numB (((L s).drop 12).take 2) 2 2 = true) ∧ (numB (((L s).drop 15).take 2) 2 2 = true) ∧ (numB (((L s).drop 18).take 2) 2 2 = false) ∧ (rInB (L s) = false)) ∨ ((tdB (riDay (L s)) = true) ∧ (numB (((L s).drop 12).take 2) 2 2 = true) ∧ (numB (((L s).drop 15).take 2) 2 2 = true) ∧ (numB (((L s).drop 18).take 2) 2 2 = true) ∧ (tzB ((L s).drop 21) = false) ∧ (rInB (L s) = false)) ∨ ((tdB (riDay (L s)) = true) ∧ (numB (((L s).drop 12).take 2) 2 2 = true) ∧ (numB (((L s).drop 15).take 2) 2 2 = true) ∧ (numB (((L s).drop 18).take 2) 2 2 = true) ∧ (tzB ((L s).drop 21) = true) ∧ (23 < numI (((L s).drop 12).take 2) 2 2) ∧ (rInB (L s) = false)) ∨ ((tdB (riDay (L s)) = true) ∧ (numB (((L s).drop 12).take 2) 2 2 = true) ∧ (numB (((L s).drop 15).take 2) 2 2 = true) ∧ (numB (((L s).drop 18).take 2) 2 2 = true) ∧ (tzB ((L s).drop 21) = true) ∧ (numI (((L s).drop 12).take 2) 2 2 ≤ 23) ∧ (59 < numI (((L s).drop 15).take 2) 2 2) ∧ (rInB (L s) = false)) ∨ ((tdB (riDay (L s)) = true) ∧ (numB (((L s).drop 12).take 2) 2 2 = true) ∧ (numB (((L s).drop 15).take 2) 2 2 = true) ∧ (numB (((L s).drop 18).take 2) 2 2 = true) ∧ (tzB ((L s).drop 21) = true) ∧ (numI (((L s).drop 12).take 2) 2 2 ≤ 23) ∧ (numI (((L s).drop 15).take 2) 2 2 ≤ 59) ∧ (59 < numI (((L s).drop 18).take 2) 2 2) ∧ (rInB (L s) = false)) ∨ ((tdB (riDay (L s)) = true) ∧ (numB (((L s).drop 12).take 2) 2 2 = true) ∧ (numB (((L s).drop 15).take 2) 2 2 = true) ∧ (numB (((L s).drop 18).take 2) 2 2 = true) ∧ (tzB ((L s).drop 21) = true) ∧ (numI (((L s).drop 12).take 2) 2 2 ≤ 23) ∧ (numI (((L s).drop 15).take 2) 2 2 ≤ 59) ∧ (numI (((L s).drop 18).take 2) 2 2 ≤ 59) ∧ (rInB (L s) = true)) := by
    have HR : rInB (L s) = (tdB (riDay (L s)) && numB (((L s).drop 12).take 2) 2 2 && numB (((L s).drop 15).take 2) 2 2 && numB (((L s).drop 18).take 2) 2 2 && tzB ((L s).drop 21) && decide (numI (((L s).drop 12).take 2) 2 2 ≤ 23) && decide (numI (((L s).drop 15).take 2) 2 2 ≤ 59) && decide (numI (((L s).drop 18).take 2) 2 2 ≤ 59)) := rfl
    rw [HR]
    clear HR p1 p2 p3 p4 hs
    generalize tdB (riDay (L s)) = fb at *
    generalize numB (((L s).drop 12).take 2) 2 2 = bh at *
    generalize numB (((L s).drop 15).take 2) 2 2 = bn at *
    generalize numB (((L s).drop 18).take 2) 2 2 = bs at *
    generalize tzB ((L s).drop 21) = zb at *
    generalize numI (((L s).drop 12).take 2) 2 2 = vh at *
    generalize numI (((L s).drop 15).take 2) 2 2 = vn at *
    generalize numI (((L s).drop 18).take 2) 2 2 = vs at *
    rcases (by omega : 23 < vh ∨ vh ≤ 23) with a1 | a1
    all_goals rcases (by omega : 59 < vn ∨ vn ≤ 59) with a2 | a2
    all_goals rcases (by omega : 59 < vs ∨ vs ≤ 59) with a3 | a3
    all_goals (cases fb <;> cases bh <;> cases bn <;> cases bs <;> cases zb <;> simp [a1, a2, a3] <;> omega)
  rcases hcs with h | h | h | h | h | h | h | h | h
  · exact refReadInternal_yes0 s w hs p1 p2 p3 p4 h
  · exact refReadInternal_yes1 s w hs p1 p2 p3 p4 h
  · exact refReadInternal_yes2 s w hs p1 p2 p3 p4 h
  · exact refReadInternal_yes3 s w hs p1 p2 p3 p4 h
  · exact refReadInternal_yes4 s w hs p1 p2 p3 p4 h
  · exact refReadInternal_yes5 s w hs p1 p2 p3 p4 h
  · exact refReadInternal_yes6 s w hs p1 p2 p3 p4 h
  · exact refReadInternal_yes7 s w hs p1 p2 p3 p4 h
  · exact refReadInternal_yes8 s w hs p1 p2 p3 p4 h
end Go.Proofs.YtibhlmbcohpmlaaGreatDoor
