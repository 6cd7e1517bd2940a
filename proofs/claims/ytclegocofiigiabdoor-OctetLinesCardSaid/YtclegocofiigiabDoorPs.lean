/- octet: Wire, FromWire. -/
import Derived.Test.YtclegocofiigiabDoorPr
namespace Go.Proofs.YtclegocofiigiabDoor
open Go.RowKit Go.Shelf

def wire (l : List UInt8) : List UInt8 × Int :=
  if 197 < l.length then ([], 2) else if Lib.validD l = false then ([], 12) else if isName l = false then ([], 11) else (writeName l, 0)
def fromWire (l : List UInt8) : List UInt8 × Int :=
  if 4096 < l.length then ([], 2) else if writeName (readName l) ≠ l then ([], 11) else if isName (withInbox (readName l)) = false then ([], 11) else (withInbox (readName l), 0)

theorem ValidString_any (s : ByteArray) (w : World) (hs : s.size ≤ 1000000) (he : Env w) :
    Calls Tryd.prog 53 #[.string s] w fun e w' => e = .returned (.bool (Lib.validD (L s))) ∧ Below w.heap.size w w' :=
  Any.utf8_ValidString Tryd.lays196 s w (by omega) he.tabs

set_option maxHeartbeats 1000000 in
theorem Wire_any (s : ByteArray) (w : World) (he : Env w) :
    Calls Tryd.prog 28 #[.string s] w fun e w' => e = .returned (.tuple #[.string (S (wire (L s)).1), .int .i64 (wire (L s)).2]) ∧ Below w.heap.size w w' := by
  by_cases h1 : 197 < s.size
  · have hw : wire (L s) = ([], 2) := by unfold wire; rw [if_pos (by rw [L_length]; exact h1)]
    rw [hw]
    go_enter Tryd.func28, Tryd.ntmps28
    go_wp2
    go_ret2
    exact ⟨rfl, Below.refl _ _⟩
  · cases h2 : Lib.validD (L s) with
    | false =>
      have hw : wire (L s) = ([], 12) := by unfold wire; rw [if_neg (by rw [L_length]; exact h1), if_pos h2]
      rw [hw]
      go_enter Tryd.func28, Tryd.ntmps28
      go_wp2_with (go_at_call 53; refine (ValidString_any s _ (by omega) he).mono ?_; rintro e w1 ⟨rfl, hb1⟩)
      go_ret2
      exact ⟨rfl, hb1⟩
    | true =>
      cases h3 : isName (L s) with
      | false =>
        have hw : wire (L s) = ([], 11) := by unfold wire; rw [if_neg (by rw [L_length]; exact h1), if_neg (by simp [h2]), if_pos h3]
        rw [hw]
        go_enter Tryd.func28, Tryd.ntmps28
        go_wp2_with (first | (go_at_call 53; refine (ValidString_any s _ (by omega) he).mono ?_; rintro e w1 ⟨rfl, hb1⟩) | (go_at_call 54; refine (isName_any s _ (by omega) (he.on hb1)).mono ?_; rintro e w2 ⟨rfl, hb2⟩))
        go_ret2
        exact ⟨rfl, hb1.trans (hb2.mono hb1.size)⟩
      | true =>
        have hw : wire (L s) = (writeName (L s), 0) := by unfold wire; rw [if_neg (by rw [L_length]; exact h1), if_neg (by simp [h2]), if_neg (by simp [h3])]
        rw [hw]
        go_enter Tryd.func28, Tryd.ntmps28
        go_wp2_with (first | (go_at_call 53; refine (ValidString_any s _ (by omega) he).mono ?_; rintro e w1 ⟨rfl, hb1⟩) | (go_at_call 54; refine (isName_any s _ (by omega) (he.on hb1)).mono ?_; rintro e w2 ⟨rfl, hb2⟩) | (go_at_call 55; refine (writeName_any s _ (by omega)).mono ?_; rintro e w3 ⟨rfl, hb3⟩))
        go_ret2
        exact ⟨rfl, (hb1.trans (hb2.mono hb1.size)).trans (hb3.mono (Nat.le_trans hb1.size hb2.size))⟩

theorem withInbox_len (l : List UInt8) : (withInbox l).length ≤ l.length + 5 := by
  unfold withInbox
  split
  · rw [List.length_append, List.length_drop]; unfold inboxL; simp; omega
  · omega

set_option maxHeartbeats 1000000 in
theorem FromWire_any (s : ByteArray) (w : World) (he : Env w) :
    Calls Tryd.prog 30 #[.string s] w fun e w' => e = .returned (.tuple #[.string (S (fromWire (L s)).1), .int .i64 (fromWire (L s)).2]) ∧ Below w.heap.size w w' := by
  have HW : Hid (fromWire (L s) = if 4096 < s.size then ([], 2) else if writeName (readName (L s)) ≠ L s then ([], 11) else if isName (withInbox (readName (L s))) = false then ([], 11) else (withInbox (readName (L s)), 0)) := Lib.hid rfl
  by_cases h1 : 4096 < s.size
  · have hw : fromWire (L s) = ([], 2) := by rw [HW.out, if_pos h1]
    rw [hw]
    go_enter Tryd.func30, Tryd.ntmps30
    go_wp2
    go_ret2
    exact ⟨rfl, Below.refl _ _⟩
  · have hrl := rdn_len (L s) 0
    rw [L_length] at hrl
    change (readName (L s)).length ≤ _ at hrl
    have hR := Lib.hid (fun W => readName_any s W (by omega))
    generalize readName (L s) = t at *
    have ht : (S t).size ≤ 100000 := by rw [S_size]; omega
    by_cases h2 : writeName t = L s
    · have hc : (!((S (writeName (L (S t)))).toList == s.toList)) = false := by rw [toList_L, toList_L, L_S, L_S, h2]; simp
      have hwl := withInbox_len t
      have hWI := Lib.hid (fun W hE => withInbox_any (S t) W (by omega) hE)
      rw [L_S] at hWI
      generalize withInbox t = n at *
      have hns : (S n).size ≤ 1000000 := by rw [S_size]; omega
      cases h3 : isName n with
      | false =>
        have hw : fromWire (L s) = ([], 11) := by rw [HW.out, if_neg h1, if_neg (by simp [h2]), if_pos h3]
        rw [hw]
        clear h2 HW hw
        have hin : isName (L (S n)) = false := h3
        go_enter Tryd.func30, Tryd.ntmps30
        go_wp2_with (first | (go_at_call 58; refine (hR.out _).mono ?_; rintro e w1 ⟨rfl, hb1⟩) | (go_at_call 55; refine (writeName_any (S t) _ ht).mono ?_; rintro e w2 ⟨rfl, hb2⟩) | (go_at_call 59; refine (hWI.out _ ((he.on hb1).on hb2)).mono ?_; rintro e w3 ⟨rfl, hb3⟩) | (go_at_call 54; refine (isName_any (S n) _ hns (((he.on hb1).on hb2).on hb3)).mono ?_; rintro e w4 ⟨rfl, hb4⟩))
        go_ret2
        exact ⟨rfl, ((hb1.trans (hb2.mono hb1.size)).trans (hb3.mono (Nat.le_trans hb1.size hb2.size))).trans (hb4.mono (Nat.le_trans (Nat.le_trans hb1.size hb2.size) hb3.size))⟩
      | true =>
        have hw : fromWire (L s) = (n, 0) := by rw [HW.out, if_neg h1, if_neg (by simp [h2]), if_neg (by simp [h3])]
        rw [hw]
        clear h2 HW hw
        have hin : isName (L (S n)) = true := h3
        go_enter Tryd.func30, Tryd.ntmps30
        go_wp2_with (first | (go_at_call 58; refine (hR.out _).mono ?_; rintro e w1 ⟨rfl, hb1⟩) | (go_at_call 55; refine (writeName_any (S t) _ ht).mono ?_; rintro e w2 ⟨rfl, hb2⟩) | (go_at_call 59; refine (hWI.out _ ((he.on hb1).on hb2)).mono ?_; rintro e w3 ⟨rfl, hb3⟩) | (go_at_call 54; refine (isName_any (S n) _ hns (((he.on hb1).on hb2).on hb3)).mono ?_; rintro e w4 ⟨rfl, hb4⟩))
        go_ret2
        exact ⟨rfl, ((hb1.trans (hb2.mono hb1.size)).trans (hb3.mono (Nat.le_trans hb1.size hb2.size))).trans (hb4.mono (Nat.le_trans (Nat.le_trans hb1.size hb2.size) hb3.size))⟩
    · have hc : (!((S (writeName (L (S t)))).toList == s.toList)) = true := by rw [toList_L, toList_L, L_S, L_S]; simp [h2]
      have hw : fromWire (L s) = ([], 11) := by rw [HW.out, if_neg h1, if_pos h2]
      rw [hw]
      clear h2 HW hw
      go_enter Tryd.func30, Tryd.ntmps30
      go_wp2_with (first | (go_at_call 58; refine (hR.out _).mono ?_; rintro e w1 ⟨rfl, hb1⟩) | (go_at_call 55; refine (writeName_any (S t) _ ht).mono ?_; rintro e w2 ⟨rfl, hb2⟩))
      go_ret2
      exact ⟨rfl, hb1.trans (hb2.mono hb1.size)⟩
end Go.Proofs.YtclegocofiigiabDoor
