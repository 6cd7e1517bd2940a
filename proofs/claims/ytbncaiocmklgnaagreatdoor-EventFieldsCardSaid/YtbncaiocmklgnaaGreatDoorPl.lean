/- octet: fitsLevel, firstLevel, withInbox. -/
import Derived.Test.YtbncaiocmklgnaaGreatDoorPw
import Derived.Test.YtbncaiocmklgnaaGreatDoorNu
import Derived.Lib.OthersKept
namespace Go.Proofs.YtbncaiocmklgnaaGreatDoor
open Go.RowKit Go.Shelf

theorem Env.on {w w' : World} (h : Env w) (hb : Below w.heap.size w w') : Env w' := by
  obtain ⟨m, hm⟩ := h.most
  refine ⟨⟨m, ?_⟩, ?_, Nat.le_trans h.base hb.size⟩
  · rw [hb.cell (p := ⟨1, 0, none⟩) h.base]; exact hm
  · exact Utf8Tabs_below h.tabs hb

set_option maxHeartbeats 400000 in
theorem fitsLevel_any (n : Int) (w : World) :
    Calls Tryz.prog 144 #[.int .i64 n] w fun e w' => e = .returned (.bool (fitsI n)) ∧ w' = w := by
  by_cases h : 1 ≤ n
  · by_cases h' : n ≤ 32
    · have e : fitsI n = true := by simp [fitsI, h, h']
      rw [e]; clear e
      go_enter Tryz.func144, Tryz.ntmps144
      go_wp2
      go_ret
      exact ⟨rfl, rfl⟩
    · have e : fitsI n = false := by simp [fitsI, h']
      rw [e]; clear e
      go_enter Tryz.func144, Tryz.ntmps144
      go_wp2
      go_ret
      exact ⟨rfl, rfl⟩
  · have e : fitsI n = false := by simp [fitsI, h]
    rw [e]; clear e
    go_enter Tryz.func144, Tryz.ntmps144
    go_wp2
    go_ret
    exact ⟨rfl, rfl⟩

set_option maxHeartbeats 400000 in
theorem firstLevel_any (s : ByteArray) (w : World) (hs : s.size ≤ 1000000) (he : Env w) :
    Calls Tryz.prog 148 #[.string s] w fun e w' => e = .returned (.string (S (first (L s)))) ∧ Below w.heap.size w w' := by
  obtain ⟨m, hm⟩ := he.most
  go_enter Tryz.func148, Tryz.ntmps148
  go_wp2_with (go_at_call 152; refine (Tryz.strings_Cut s ⟨#[47]⟩ m _ (by omega) hm).mono ?_; rintro e w1 ⟨rfl, n, rfl⟩)
  go_ret
  exact ⟨rfl, below_drewN (Below.refl _ _) _⟩

set_option maxHeartbeats 400000 in
theorem withInbox_any (s : ByteArray) (w : World) (hs : s.size ≤ 1000000) (he : Env w) :
    Calls Tryz.prog 143 #[.string s] w fun e w' => e = .returned (.string (S (withInbox (L s)))) ∧ Below w.heap.size w w' := by
  have hle : (first (L s)).length ≤ s.size := cut_le _ _
  have hF := Lib.hid (fun W hE => firstLevel_any s W hs hE)
  have HW : Hid (withInbox (L s) = if same (first (L s)) inboxL then inboxL ++ (L s).drop (first (L s)).length else L s) := Lib.hid rfl
  generalize first (L s) = f at *
  go_enter Tryz.func143, Tryz.ntmps143
  go_wp2_with (first | (go_at_call 148; refine (hF.out _ he).mono ?_; rintro e w1 ⟨rfl, hb1⟩) | (go_at_call 26; refine (Same_any (S f) ⟨#[73, 78, 66, 79, 88]⟩ _ (by unfold maxLen; rw [S_size]; omega)).mono ?_; rintro e w2 ⟨rfl, hb2⟩))
  · have hsm : same (L (S f)) (L ⟨#[73, 78, 66, 79, 88]⟩) = true := by assumption
    change same f inboxL = true at hsm
    go_ret
    refine ⟨ret_str ?_, hb1.trans (hb2.mono hb1.size)⟩
    rw [HW.out, if_pos hsm, extract_S, S_size, List.take_of_length_le (by rw [List.length_drop, L_length]; omega)]
    exact S_append inboxL _
  · have hsm : same (L (S f)) (L ⟨#[73, 78, 66, 79, 88]⟩) = false := by assumption
    change same f inboxL = false at hsm
    go_ret
    refine ⟨ret_str ?_, hb1.trans (hb2.mono hb1.size)⟩
    rw [HW.out, if_neg (by simp [hsm])]
    rfl
end Go.Proofs.YtbncaiocmklgnaaGreatDoor
