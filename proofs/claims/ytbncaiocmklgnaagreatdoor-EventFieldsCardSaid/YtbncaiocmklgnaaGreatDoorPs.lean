/- octet: Wire, FromWire. -/
import Derived.Test.YtbncaiocmklgnaaGreatDoorPo
namespace Go.Proofs.YtbncaiocmklgnaaGreatDoor
open Go.RowKit Go.Shelf

def wire (l : List UInt8) : List UInt8 × Int :=
  if 197 < l.length then ([], 2) else if Lib.validD l = false then ([], 12) else if isName l = false then ([], 11) else (writeName l, 0)

theorem ValidString_any (s : ByteArray) (w : World) (hs : s.size ≤ 1000000) (he : Env w) :
    Calls Tryz.prog 132 #[.string s] w fun e w' => e = .returned (.bool (Lib.validD (L s))) ∧ Below w.heap.size w w' :=
  Any.utf8_ValidString Tryz.lays196 s w (by omega) he.tabs

set_option maxHeartbeats 1000000 in
theorem Wire_any (s : ByteArray) (w : World) (he : Env w) :
    Calls Tryz.prog 93 #[.string s] w fun e w' => e = .returned (.tuple #[.string (S (wire (L s)).1), .int .i64 (wire (L s)).2]) ∧ Below w.heap.size w w' := by
  by_cases h1 : 197 < s.size
  · have hw : wire (L s) = ([], 2) := by unfold wire; rw [if_pos (by rw [L_length]; exact h1)]
    rw [hw]
    go_enter Tryz.func93, Tryz.ntmps93
    go_wp2
    go_ret2
    exact ⟨rfl, Below.refl _ _⟩
  · cases h2 : Lib.validD (L s) with
    | false =>
      have hw : wire (L s) = ([], 12) := by unfold wire; rw [if_neg (by rw [L_length]; exact h1), if_pos h2]
      rw [hw]
      go_enter Tryz.func93, Tryz.ntmps93
      go_wp2_with (go_at_call 132; refine (ValidString_any s _ (by omega) he).mono ?_; rintro e w1 ⟨rfl, hb1⟩)
      go_ret2
      exact ⟨rfl, hb1⟩
    | true =>
      cases h3 : isName (L s) with
      | false =>
        have hw : wire (L s) = ([], 11) := by unfold wire; rw [if_neg (by rw [L_length]; exact h1), if_neg (by simp [h2]), if_pos h3]
        rw [hw]
        go_enter Tryz.func93, Tryz.ntmps93
        go_wp2_with (first | (go_at_call 132; refine (ValidString_any s _ (by omega) he).mono ?_; rintro e w1 ⟨rfl, hb1⟩) | (go_at_call 133; refine (isName_any s _ (by omega) (he.on hb1)).mono ?_; rintro e w2 ⟨rfl, hb2⟩))
        go_ret2
        exact ⟨rfl, hb1.trans (hb2.mono hb1.size)⟩
      | true =>
        have hw : wire (L s) = (writeName (L s), 0) := by unfold wire; rw [if_neg (by rw [L_length]; exact h1), if_neg (by simp [h2]), if_neg (by simp [h3])]
        rw [hw]
        go_enter Tryz.func93, Tryz.ntmps93
        go_wp2_with (first | (go_at_call 132; refine (ValidString_any s _ (by omega) he).mono ?_; rintro e w1 ⟨rfl, hb1⟩) | (go_at_call 133; refine (isName_any s _ (by omega) (he.on hb1)).mono ?_; rintro e w2 ⟨rfl, hb2⟩) | (go_at_call 134; refine (writeName_any s _ (by omega)).mono ?_; rintro e w3 ⟨rfl, hb3⟩))
        go_ret2
        exact ⟨rfl, (hb1.trans (hb2.mono hb1.size)).trans (hb3.mono (Nat.le_trans hb1.size hb2.size))⟩

end Go.Proofs.YtbncaiocmklgnaaGreatDoor
