/- The reference's Is: Tag, Flag, Pattern; in whole. -/
import Derived.Test.YtgcbindjbgkniaaGreatDoorXj
namespace Go.Proofs.YtgcbindjbgkniaaGreatDoor
open Go.RowKit

set_option maxHeartbeats 2000000 in
theorem rIs_tag (s : ByteArray) (w : World) (hs : s.size ≤ 140737488355328) :
    Calls Tryz.prog 26 #[.int .i64 3, .string s] w fun e w' => e = .returned (.bool (isTag (L s))) ∧ w' = w := by
  have hA := Lib.hid (fun W => ratom_any s W hs)
  go_enter Tryz.func26, Tryz.ntmps26
  go_wp2
  go_loop [5] (fun i => ∃ k : Nat, k ≤ s.size ∧ i = .int .i64 k ∧ ((L s).take k).all (fun c => !(c == 43)) = true) (fun i => s.size - (intOf i).toNat)
  case atStart => exact ⟨0, Nat.zero_le _, rfl, by simp⟩
  case round =>
    obtain ⟨k, hk, rfl, hall⟩ := hrel
    by_cases hlt : k < s.size
    · have ea := get_btx s k hlt
      have c0 : (bt (L s) k).toNat < 256 := bt_lt _ _
      have HS := Lib.hid (fun h => all_snocP (fun c => !(c == 43)) (L s) k hlt hall (not43 h))
      have HN := Lib.hid (plus_some (l := L s) k hlt)
      clear hall
      by_cases hp : (bt (L s) k).toNat = 43
      · have HF := Lib.hid (HN.out hp)
        clear HN HS
        go_wp2
        go_ret
        exact ⟨ret_bool HF.out.symm, rfl⟩
      · have HS2 := Lib.hid (HS.out hp)
        have b := beqI_no (n := ((bt (L s) k).toNat : Int)) (k := 43) (by omega)
        clear HN HS
        go_wp2
        go_round
        case rel => exact ⟨k + 1, by omega, by go_num, HS2.out⟩
        case measure => simp [intOf]; omega
    · have HV : Hid (isTag (L s) = (isAtom (L s) && decide (s.size ≤ 32))) := Lib.hid (plus_none (by
        rw [List.take_of_length_le (by rw [L_length]; omega)] at hall
        rw [List.take_length]; exact hall))
      clear hall
      generalize isAtom (L s) = a at *
      by_cases hl : s.size ≤ 32
      · rw [decide_eq_true hl] at HV
        cases a
        all_goals (
          go_wp2_with (go_at_call 43; refine (hA.out _).mono ?_; rintro e w' ⟨rfl, rfl⟩)
          go_ret
          exact ⟨ret_bool (by rw [HV.out]; first | rfl | (simp; omega)), rfl⟩)
      · rw [decide_eq_false hl] at HV
        cases a
        all_goals (
          go_wp2_with (go_at_call 43; refine (hA.out _).mono ?_; rintro e w' ⟨rfl, rfl⟩)
          go_ret
          exact ⟨ret_bool (by rw [HV.out]; first | rfl | (simp; omega)), rfl⟩)
set_option maxHeartbeats 2000000 in
theorem rIs_pat (s : ByteArray) (w : World) (hs : s.size ≤ 140737488355328) :
    Calls Tryz.prog 26 #[.int .i64 6, .string s] w fun e w' => e = .returned (.bool (isPat (L s))) ∧ w' = w := by
  go_enter Tryz.func26, Tryz.ntmps26
  go_wp2
  go_loop [6] (fun i => ∃ k : Nat, k ≤ s.size ∧ i = .int .i64 k ∧ ((L s).take k).all patC = true) (fun i => s.size - (intOf i).toNat)
  case atStart => exact ⟨0, Nat.zero_le _, rfl, by simp⟩
  case round =>
    obtain ⟨k, hk, rfl, hall⟩ := hrel
    by_cases hlt : k < s.size
    · have ea := get_btx s k hlt
      have c0 : (bt (L s) k).toNat < 256 := bt_lt _ _
      have hD := Lib.hid (fun W => plain_any (bt (L s) k) W)
      have HS := Lib.hid (all_snocP patC (L s) k hlt hall)
      have HN := Lib.hid (isPat_no s k hlt)
      clear hall
      rcases pat_class (bt (L s) k) with ⟨ha, hb⟩ | ⟨h, ha, hb⟩ | ⟨h, ha, hb⟩ | ⟨⟨h, h'⟩, ha, hb⟩
      · have HS2 := Lib.hid (HS.out hb)
        rw [ha] at hD
        clear HN HS
        go_wp2_with (go_at_call 45; refine (hD.out _).mono ?_; rintro e w' ⟨rfl, rfl⟩)
        go_round
        case rel => exact ⟨k + 1, by omega, by go_num, HS2.out⟩
        case measure => simp [intOf]; omega
      · have HS2 := Lib.hid (HS.out hb)
        rw [ha] at hD
        have b : (((bt (L s) k).toNat : Int) != 37) = false := by rw [h]; rfl
        clear HN HS h
        go_wp2_with (go_at_call 45; refine (hD.out _).mono ?_; rintro e w' ⟨rfl, rfl⟩)
        go_round
        case rel => exact ⟨k + 1, by omega, by go_num, HS2.out⟩
        case measure => simp [intOf]; omega
      · have HS2 := Lib.hid (HS.out hb)
        rw [ha] at hD
        have b : (((bt (L s) k).toNat : Int) != 37) = true := by rw [h]; rfl
        have b' : (((bt (L s) k).toNat : Int) != 42) = false := by rw [h]; rfl
        clear HN HS h
        go_wp2_with (go_at_call 45; refine (hD.out _).mono ?_; rintro e w' ⟨rfl, rfl⟩)
        go_round
        case rel => exact ⟨k + 1, by omega, by go_num, HS2.out⟩
        case measure => simp [intOf]; omega
      · have HF := Lib.hid (HN.out hb)
        have b := bneI_no (n := ((bt (L s) k).toNat : Int)) (k := 37) (by omega)
        have b' := bneI_no (n := ((bt (L s) k).toNat : Int)) (k := 42) (by omega)
        rw [ha] at hD
        clear HN HS
        go_wp2_with (go_at_call 45; refine (hD.out _).mono ?_; rintro e w' ⟨rfl, rfl⟩)
        go_ret
        exact ⟨ret_bool HF.out.symm, rfl⟩
    · rw [List.take_of_length_le (by rw [L_length]; omega)] at hall
      by_cases h0 : s.size = 0
      · have HF := Lib.hid (isPat_nil s h0)
        clear hall
        go_wp2
        go_ret
        exact ⟨ret_bool (by first | exact HF.out.symm | (rw [HF.out, decide_eq_false_iff_not]; omega)), rfl⟩
      · have HF := Lib.hid (isPat_yes s h0 hall)
        have h1 : 0 < s.size := by omega
        clear hall
        go_wp2
        go_ret
        exact ⟨ret_bool (by first | exact HF.out.symm | (rw [HF.out, decide_eq_true_iff]; omega)), rfl⟩
set_option maxHeartbeats 2000000 in
theorem rIs_flag (s : ByteArray) (w : World) (hs : s.size ≤ 140737488355328) :
    Calls Tryz.prog 26 #[.int .i64 4, .string s] w fun e w' => e = .returned (.bool (isFlag (L s))) ∧ w' = w := by
  by_cases hc : 0 < s.size ∧ (bt (L s) 0).toNat = 92
  · obtain ⟨h0, h92⟩ := hc
    have HV := Lib.hid (flag_cut s h0 h92)
    have ea := get_btx s 0 h0
    have hz : (s.extract 1 s.size).size ≤ 140737488355328 := by rw [ByteArray.size_extract]; omega
    have hA := Lib.hid (fun W => ratom_any (s.extract 1 s.size) W hz)
    clear hz
    generalize isAtom (L (s.extract 1 s.size)) = a at *
    go_enter Tryz.func26, Tryz.ntmps26
    go_wp2_with (go_at_call 43; refine (hA.out _).mono ?_; rintro e w' ⟨rfl, rfl⟩)
    go_ret
    exact ⟨ret_bool HV.out.symm, rfl⟩
  · have HV := Lib.hid (flag_key s (by omega))
    have hA := Lib.hid (fun W => ratom_any s W hs)
    generalize isAtom (L s) = a at *
    rcases (by omega : s.size = 0 ∨ (0 < s.size ∧ (bt (L s) 0).toNat ≠ 92)) with h0 | ⟨h0, h92⟩
    · rw [decide_eq_true (show s.size ≤ 24 by omega)] at HV
      cases a
      all_goals (
        go_enter Tryz.func26, Tryz.ntmps26
        go_wp2_with (go_at_call 43; refine (hA.out _).mono ?_; rintro e w' ⟨rfl, rfl⟩)
        go_ret
        exact ⟨ret_bool (by rw [HV.out]; first | rfl | (simp; omega)), rfl⟩)
    · have ea := get_btx s 0 h0
      have b := beqI_no (n := ((bt (L s) 0).toNat : Int)) (k := 92) (by omega)
      by_cases hl : s.size ≤ 24
      · rw [decide_eq_true hl] at HV
        cases a
        all_goals (
          go_enter Tryz.func26, Tryz.ntmps26
          go_wp2_with (go_at_call 43; refine (hA.out _).mono ?_; rintro e w' ⟨rfl, rfl⟩)
          go_ret
          exact ⟨ret_bool (by rw [HV.out]; first | rfl | (simp; omega)), rfl⟩)
      · rw [decide_eq_false hl] at HV
        cases a
        all_goals (
          go_enter Tryz.func26, Tryz.ntmps26
          go_wp2_with (go_at_call 43; refine (hA.out _).mono ?_; rintro e w' ⟨rfl, rfl⟩)
          go_ret
          exact ⟨ret_bool (by rw [HV.out]; first | rfl | (simp; omega)), rfl⟩)
theorem rIs_any (k : Int) (s : ByteArray) (w : World) (hs : s.size ≤ 140737488355328) :
    Calls Tryz.prog 26 #[.int .i64 k, .string s] w fun e w' => e = .returned (.bool (isB k (L s))) ∧ w' = w := by
  by_cases h3 : k = 3
  · subst h3; exact rIs_tag s w hs
  · by_cases h4 : k = 4
    · subst h4; exact rIs_flag s w hs
    · by_cases h6 : k = 6
      · subst h6; exact rIs_pat s w hs
      · exact rIs_other k s w ⟨h3, h4, h6⟩ hs
end Go.Proofs.YtgcbindjbgkniaaGreatDoor
