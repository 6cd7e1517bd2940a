/- The reference of chapter 2: lower, among (months), count. -/
import Derived.Test.YtlcjpkbcnoibeabGreatDoorGo
import Derived.Test.YtlcjpkbcnoibeabGreatDoorDg
namespace Go.Proofs.YtlcjpkbcnoibeabGreatDoor
open Go.RowKit

set_option maxHeartbeats 400000 in
theorem rlower_any (s : ByteArray) (w : World) (hs : s.size ≤ 1000000) :
    Calls Tryz.prog 104 #[.string s] w fun e w' => e = .returned (.string (S (lower (L s)))) ∧ Below w.heap.size w w' := by
  go_enter Tryz.func104, Tryz.ntmps104
  go_wp2
  go_loopw [3, 4] (fun v i wr => ∃ k : Nat, k ≤ s.size ∧ i = .int .i64 k ∧ Own w.heap.size v (lower ((L s).take k)) w wr) (fun _ i _ => s.size - (intOf i).toNat)
  case atStart => exact ⟨0, Nat.zero_le _, rfl, Own.nil (Below.refl _ _) (Nat.le_refl _)⟩
  case round =>
    obtain ⟨k, hk, rfl, hown⟩ := hrel
    by_cases hlt : k < s.size
    · have ea := get_bt s k hlt
      have c0 : (bt (L s) k).toNat < 256 := bt_lt _ _
      have e1 : lower ((L s).take (k + 1)) = lower ((L s).take k) ++ [sm (bt (L s) k)] := by
        rw [take_snoc (L s) k hlt]; simp [lower]
      have hl : (lower ((L s).take k)).length + 1 ≤ 140737488355328 := by
        have : (lower ((L s).take k)).length ≤ k := by simp [lower]; omega
        omega
      have hsm := sm_toNat (bt (L s) k)
      have HE := Lib.hid e1
      have HL := Lib.hid hl
      clear e1 hl
      unfold smI at hsm
      by_cases h1 : (65 : Int) ≤ ((bt (L s) k).toNat : Int)
      · by_cases h2 : ((bt (L s) k).toNat : Int) ≤ 90
        · rw [if_pos ⟨h1, h2⟩] at hsm
          have HS := Lib.hid hsm.symm
          clear hsm
          generalize lower ((L s).take k) = o at *
          go_wp2_with (at_builtin; refine app1 rfl _ _ rfl _ (sm (bt (L s) k)) hown HS.out rfl rfl HL.out ?_; intro v2 w2 hown2)
          go_roundw
          case rel => exact ⟨k + 1, by omega, by go_num, by rw [HE.out]; exact hown2⟩
          case measure => simp [intOf]; omega
        · rw [if_neg (by omega)] at hsm
          have HS := Lib.hid hsm.symm
          clear hsm
          generalize lower ((L s).take k) = o at *
          go_wp2_with (at_builtin; refine app1 rfl _ _ rfl _ (sm (bt (L s) k)) hown HS.out rfl rfl HL.out ?_; intro v2 w2 hown2)
          go_roundw
          case rel => exact ⟨k + 1, by omega, by go_num, by rw [HE.out]; exact hown2⟩
          case measure => simp [intOf]; omega
      · rw [if_neg (by omega)] at hsm
        have HS := Lib.hid hsm.symm
        clear hsm
        generalize lower ((L s).take k) = o at *
        go_wp2_with (at_builtin; refine app1 rfl _ _ rfl _ (sm (bt (L s) k)) hown HS.out rfl rfl HL.out ?_; intro v2 w2 hown2)
        go_roundw
        case rel => exact ⟨k + 1, by omega, by go_num, by rw [HE.out]; exact hown2⟩
        case measure => simp [intOf]; omega
    · rw [List.take_of_length_le (by rw [L_length]; omega)] at hown
      have hcv := hown.back
      go_wp2
      go_ret
      exact ⟨rfl, hown.below⟩
def monsB : ByteArray := ⟨#[106, 97, 110, 102, 101, 98, 109, 97, 114, 97, 112, 114, 109, 97, 121, 106, 117, 110, 106, 117, 108, 97, 117, 103, 115, 101, 112, 111, 99, 116, 110, 111, 118, 100, 101, 99]⟩
theorem mons_at (k : Nat) (h : k < 12) : L (monsB.extract (3 * k) (3 * k + 3)) = lower (monN k) := by
  have : ∀ k : Fin 12, L (monsB.extract (3 * k.val) (3 * k.val + 3)) = lower (monN k.val) := by decide +kernel
  exact this ⟨k, h⟩
theorem mons_test (l : List UInt8) (k : Nat) (h : k < 12) : ((monsB.extract (3 * k) (3 * k + 3)).toList == (S (lower l)).toList) = same l (monN k) := by
  rw [toList_L, toList_L, mons_at k h, L_S]
  unfold same
  rw [Bool.eq_iff_iff, beq_iff_eq, beq_iff_eq]
  exact eq_comm
set_option maxHeartbeats 1000000 in
theorem among_any (s : ByteArray) (w : World) (hs : s.size ≤ 1000000) :
    Calls Tryz.prog 84 #[.string monsB, .string s] w fun e w' => e = .returned (.int .i64 (monI (L s))) ∧ Below w.heap.size w w' := by
  have hL := Lib.hid (fun W => rlower_any s W hs)
  have HT := Lib.hid (fun k hk => mons_test (L s) k hk)
  have hsz : monsB.size = 36 := rfl
  generalize S (lower (L s)) = t at *
  generalize monsB = N at *
  go_enter Tryz.func84, Tryz.ntmps84
  go_wp2_with fail
  refine (hL.out _).mono ?_
  rintro e w1 ⟨rfl, hb1⟩
  go_wp2
  go_loop [6] (fun i => ∃ k : Nat, k ≤ 12 ∧ i = .int .i64 k ∧ ∀ j, j < k → same (L s) (monT.getD j []) = false) (fun i => 12 - (intOf i).toNat)
  case atStart => exact ⟨0, Nat.zero_le _, rfl, fun j hj => by omega⟩
  case round =>
    obtain ⟨k, hk, rfl, hno⟩ := hrel
    have HP := Lib.hid hno
    clear hno
    by_cases hlt : k < 12
    · have ht := HT.out k hlt
      cases hsm : same (L s) (monN k) with
      | true =>
        rw [hsm] at ht
        have hix : Hid (monIx (L s) = k) := Lib.hid (findIdx_at monT (L s) k (by show k < 12; omega) HP.out hsm)
        have HR : Hid (monI (L s) = (k : Int) + 1) := Lib.hid (by unfold monI; rw [hix.out, if_pos hlt])
        go_wp2
        go_ret
        exact ⟨ret_int HR.out.symm, hb1⟩
      | false =>
        rw [hsm] at ht
        go_wp2
        go_round
        case rel => exact ⟨k + 1, by omega, by go_num, fun j hj => by
          rcases Nat.lt_or_ge j k with h | h
          · exact HP.out j h
          · obtain rfl : j = k := by omega
            exact hsm⟩
        case measure => simp [intOf]; omega
    · obtain rfl : k = 12 := by omega
      have HR : Hid (monI (L s) = 0) := Lib.hid (by
        have hix : monIx (L s) = 12 := findIdx_none monT (L s) HP.out
        unfold monI; rw [hix]; rfl)
      go_wp2
      go_ret
      exact ⟨ret_int HR.out.symm, hb1⟩
/-- count: the value of up to eight digits. -/
def cntB (l : List UInt8) : Bool := numB l 1 8
end Go.Proofs.YtlcjpkbcnoibeabGreatDoor
