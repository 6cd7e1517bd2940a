/- postbagref1: Lower, Same, of any texts. -/
import Derived.Test.YtgcbindjbgkniaaGreatDoorV11s
namespace Go.Proofs.YtgcbindjbgkniaaGreatDoor
open Go.RowKit Go.Shelf Go.Lib

set_option maxHeartbeats 400000 in
theorem refLower_any (s : ByteArray) (w : World) (hs : s.size ≤ 140737488355328) :
    Calls Tryz.prog 46 #[.string s] w fun e w' => e = .returned (.string (S (lower (L s)))) ∧ Below w.heap.size w w' := by
  go_enter Tryz.func46, Tryz.ntmps46
  go_wp2
  go_loopw [3, 4] (fun v i wr => ∃ k : Nat, k ≤ s.size ∧ i = .int .i64 k ∧ Own w.heap.size v (lower ((L s).take k)) w wr) (fun _ i _ => s.size - (intOf i).toNat)
  case atStart => exact ⟨0, Nat.zero_le _, rfl, Own.nil (Below.refl _ _) (Nat.le_refl _)⟩
  case round =>
    obtain ⟨k, hk, rfl, hown⟩ := hrel
    by_cases hlt : k < s.size
    · have ea := get_bt s k hlt
      have c0 : (bt (L s) k).toNat < 256 := bt_lt _ _
      have e1 : lower ((L s).take (k + 1)) = lower ((L s).take k) ++ [sm (bt (L s) k)] := by
        rw [take_snoc (L s) k hlt]; simp [lower]
      have hl : (lower ((L s).take k)).length + 1 ≤ 140737488355328 := by
        have : (lower ((L s).take k)).length ≤ k := by simp [lower]; omega
        omega
      have hsm := sm_toNat (bt (L s) k)
      have HE := Lib.hid e1
      have HL := Lib.hid hl
      clear e1 hl
      unfold smI at hsm
      by_cases h1 : (65 : Int) ≤ ((bt (L s) k).toNat : Int)
      · by_cases h2 : ((bt (L s) k).toNat : Int) ≤ 90
        · rw [if_pos ⟨h1, h2⟩] at hsm
          have HS := Lib.hid hsm.symm
          clear hsm
          generalize lower ((L s).take k) = o at *
          go_wp2_with (at_builtin; refine app1 rfl _ _ rfl _ (sm (bt (L s) k)) hown HS.out rfl rfl HL.out ?_; intro v2 w2 hown2)
          go_roundw
          case rel => exact ⟨k + 1, by omega, by go_num, by rw [HE.out]; exact hown2⟩
          case measure => simp [intOf]; omega
        · rw [if_neg (by omega)] at hsm
          have HS := Lib.hid hsm.symm
          clear hsm
          generalize lower ((L s).take k) = o at *
          go_wp2_with (at_builtin; refine app1 rfl _ _ rfl _ (sm (bt (L s) k)) hown HS.out rfl rfl HL.out ?_; intro v2 w2 hown2)
          go_roundw
          case rel => exact ⟨k + 1, by omega, by go_num, by rw [HE.out]; exact hown2⟩
          case measure => simp [intOf]; omega
      · rw [if_neg (by omega)] at hsm
        have HS := Lib.hid hsm.symm
        clear hsm
        generalize lower ((L s).take k) = o at *
        go_wp2_with (at_builtin; refine app1 rfl _ _ rfl _ (sm (bt (L s) k)) hown HS.out rfl rfl HL.out ?_; intro v2 w2 hown2)
        go_roundw
        case rel => exact ⟨k + 1, by omega, by go_num, by rw [HE.out]; exact hown2⟩
        case measure => simp [intOf]; omega
    · rw [List.take_of_length_le (by rw [L_length]; omega)] at hown
      have hcv := hown.back
      go_wp2
      go_ret
      exact ⟨rfl, hown.below⟩

set_option maxHeartbeats 400000 in
theorem refSame_any (a b : ByteArray) (w : World) (ha : a.size ≤ 140737488355328) (hb : b.size ≤ 140737488355328) :
    Calls Tryz.prog 42 #[.string a, .string b] w fun e w' => e = .returned (.bool (same (L a) (L b))) ∧ Below w.heap.size w w' := by
  go_enter Tryz.func42, Tryz.ntmps42
  go_wp2_with fail
  refine (refLower_any a _ ha).mono ?_
  rintro e w1 ⟨rfl, hb1⟩
  go_wp2_with fail
  refine (refLower_any b _ hb).mono ?_
  rintro e w2 ⟨rfl, hb2⟩
  go_wp2
  go_ret
  exact ⟨ret_bool (by rw [toList_L, toList_L, L_S, L_S]; rfl), hb1.trans (hb2.mono hb1.size)⟩
end Go.Proofs.YtgcbindjbgkniaaGreatDoor
